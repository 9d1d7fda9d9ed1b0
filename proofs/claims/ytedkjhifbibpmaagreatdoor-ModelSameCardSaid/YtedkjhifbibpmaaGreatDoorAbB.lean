/-
  Rules of the machine on abstract states. Conditions: as each theorem says.
-/
import Derived.Test.YtedkjhifbibpmaaGreatDoorAbA
import Derived.Lib.Overlaps
import Derived.Laws.LoneSync
import Derived.LoopN
import Derived.ScopeJumps
import Derived.Deep.Quiet
import Derived.OrdersIn
import Derived.RangeFuncIn
import Derived.RangeFuncLeaves
import Derived.RangeFuncRecord
import Derived.IntWalk
set_option linter.unusedVariables false
set_option linter.unusedSimpArgs false
namespace Go.Proofs.YtedkjhifbibpmaaGreatDoor.Ab
open Go Go.RowKit
inductive Step where
 | val (v:V) (h:J)
 | call (f:FuncId) (args:List V)
 | alts (l:List (V×J))
 | panic
 | round (l:Nat) (args:List V)
def bK (P:Program) (f:FuncId):Bool :=
 match P.funcs[f]? with
 | some fn => fn.body.isSome && fn.name != "runtime.NumGoroutine"
 | none=>false
def DB (P:Program) (t:TypeId):Option Bool:=match P.underlying t with | some (.interface _)=>some true | some _=>some false | none=>none
def Bb (P:Program) (t:TypeId) (x:V) (h:J):Option J :=
 match A0 P t,x with
 | some _,.ah=>some h
 | some _,.z0=>some h
 | some _,.ag n _=>if n=0 then some h else none
 | some e,.bp i o len _=>
  match iA P e,h.get i with
  | some zs,.cells c aT ex=>
   if len=0 then some h
   else if zs.all (·.one)=true∧o+(made zs len).length≤c.length then some (h.set i (.cells (lay c o (made zs len)) aT ex)) else none
  | _,_=>none
 | _,_=>none
theorem am7 {α:Type} (p:α→Bool) (z:List α) (n:Nat) (h:z.all p=true):(made z n).all p=true:=by
 induction n with
 | zero=>rfl
 | succ n ih=>rw [PQ,List.all_append,ih,h];rfl
theorem am8 {P:Program} {t ty:TypeId} {x:V} {dm:Value} {h h':J} (ad:Bb P t x h=some h') {ρ:Ren} {B:Nat} {bg w:World} (R:bt ρ B bg h w) (ak:a1 ρ x dm) :
  ∃ w',(Builtin.clear_ #[t] ty #[dm]).run P w=.ok (.tuple #[]) w'∧bt ρ B bg h' w':=by
 unfold Bb at ad
 have bC:∀ e,A0 P t=some e→P.underlying t=some (.slice e):=fun e he=>by
  unfold A0 at he
  split at he
  ·rename_i hu;rw [hu];simpa using he
  ·cases he
 split at ad
 ·rename_i e he
  obtain rfl:h=h':=by simpa using ad
  cases ak
  exact ⟨w,by simp [Builtin.clear_,run_underlying (bC _ he)],R⟩
 ·rename_i e he
  obtain rfl:h=h':=by simpa using ad
  cases ak with
  | z0 a a6=>cases a<;>exact ⟨w,by simp [Builtin.clear_,run_underlying (bC _ he)],R⟩
 ·rename_i e n cs he
  split at ad
  case isFalse=>cases ad
  rename_i h0
  subst h0
  obtain rfl:h=h':=by simpa using ad
  rcases ak.pX with ⟨_,rfl,a,wV,a6,rfl⟩ | ⟨b,o,cap,arr,av,aG,bc,ic,rfl⟩
  ·cases a with
   | none=>
    obtain rfl:=a6 rfl
    exact ⟨w,by simp [Builtin.clear_,run_underlying (bC _ he)],R⟩
   | some a=>exact ⟨w,by simp [Builtin.clear_,run_underlying (bC _ he)],R⟩
  ·exact ⟨w,by simp [Builtin.clear_,run_underlying (bC _ he)],R⟩
 ·rename_i e i o len cap he
  split at ad
  case h_2=>cases ad
  rename_i zs c aT ex b4 aB
  obtain ⟨b,cm,hi,aM,rfl⟩:=ak.kT
  split at ad
  ·rename_i h0
   subst h0
   obtain rfl:h=h':=by simpa using ad
   exact ⟨w,by simp [Builtin.clear_,run_underlying (bC _ he)],R⟩
  ·rename_i h0
   split at ad
   case isFalse=>cases ad
   rename_i aF
   obtain rfl:_=h':=by simpa using ad
   obtain ⟨z,Pq,jg⟩:=PN b4
   obtain ⟨w',cR,ij⟩:=QT (P:=P) aB R hi o ((jg ρ).made len) (am7 _ _ _ aF.1) aF.2
   refine ⟨w',?_,ij⟩
   obtain ⟨m,rfl⟩:∃ m,len=m+1:=⟨len - 1,by omega⟩
   have sU:(Builtin.zeroCells z.cells (m+1)).toList=made z.cells.toList (m+1):=X4 z.cells (m+1)
   simp [Builtin.clear_,run_underlying (bC _ he),Yb Pq,sU,cR]
 ·cases ad
def zG (P:Program) (t:TypeId) (x:V):Option V :=
 match P.underlying t,x with
 | some (.slice _),.bp _ _ _ cap=>if cap<cN then some (.int .i64 cap) else none
 | some (.slice _),.ah=>some (.int .i64 0)
 | some (.slice _),.z0=>some (.int .i64 0)
 | _,_=>none
theorem am9 {P:Program} {t ty:TypeId} {x v:V} {dm:Value} {h:J} (ad:zG P t x=some v) {ρ:Ren} {B:Nat} {bg w:World} (R:bt ρ B bg h w) (ak:a1 ρ x dm) :
  c8 P (Builtin.cap_ #[t] ty #[dm]) ρ w v:=by
 unfold zG at ad
 split at ad
 ·rename_i e i o len cap hu
  split at ad
  case isFalse=>cases ad
  rename_i aF
  obtain rfl:=Option.some.inj ad
  obtain ⟨b,cm,hi,aM,rfl⟩:=ak.kT
  have fA:kx cm cap=cap:=by simp [kx,aF]
  exact .mk (by simp [Builtin.cap_,run_underlying hu,fA];rfl) (.int _ _)
 ·rename_i e hu
  obtain rfl:=Option.some.inj ad
  cases ak
  exact .mk (by simp [Builtin.cap_,run_underlying hu];rfl) (.int _ _)
 ·rename_i e hu
  obtain rfl:=Option.some.inj ad
  cases ak
  exact .mk (by simp [Builtin.cap_,run_underlying hu];rfl) (.int _ _)
 ·cases ad
def vb (P:Program) (b:Builtin) (types:List TypeId) (ty:TypeId) (consts:Array Bool) (args:List V) (h:J):Option (V×J) :=
 match b,types,args with
 | .len,[t],[x]=>match fU P t x h with
  | some v=>some (v,h)
  | none=>none
 | .append,[t,tx],[s,x]=>n2 P t tx s x h
 | .copy,[t,_],[d,s]=>GX P t d s h
 | .delete,[t,_],[m,k]=>(G0 P t m k h).map fun h'=>(.tuple [],h')
 | .clear,[t],[x]=>(Bb P t x h).map fun h'=>(.tuple [],h')
 | .cap,[t],[x]=>match zG P t x with
  | some v=>some (v,h)
  | none=>none
 | _,_,_=>
  match jO args with
  | some as=>match e8 P (builtin b types.toArray ty consts as.toArray) with
   | some (.value v)=>some (kR v,h)
   | _=>none
  | none=>none
theorem Ra {ρ:Ren} {x y:V} {args':Array Value} (a6:bx ρ [x,y] args'.toList):∃ dm vB,args'=#[dm,vB]∧a1 ρ x dm∧a1 ρ y vB:=by
 obtain ⟨b7,nV,he,uh,hO⟩:=a6.fh
 obtain ⟨dm,atQ,oF,ic,aaR⟩:=hO.fh
 rw [aaR.eq_nil] at oF
 exact ⟨b7,dm,by apply Array.ext';rw [he,oF],uh,ic⟩
theorem Yd {ρ:Ren} {x:V} {args':Array Value} (a6:bx ρ [x] args'.toList):∃ dm,args'=#[dm]∧a1 ρ x dm:=by
 obtain ⟨dm,nV,he,ak,hO⟩:=a6.fh
 rw [hO.eq_nil] at he
 exact ⟨dm,by apply Array.ext';simpa using he,ak⟩
def x1 (P : Program) (ca : FuncId) : Prop := ∃ fn, P.funcs[ca]? = some fn ∧ (fn.name == "runtime.NumGoroutine") = false ∧ fn.body.isNone = true ∧ Extern.findNext fn = none ∧ Extern.find fn = some (Extern.SlicesOverlaps.overlaps fn.params fn.resultTypes) ∧
 ∃ t e sz u,fn.params=#[t,t]∧fn.resultTypes=#[u]∧P.underlying t=some (.slice e)∧dQ P e=some sz
def wc (h:J):List V→Option V
 | [.bp i _ _ _,.bp j _ _ _]=>match h.get i,h.get j with
  | .cells _ _ _,.cells (_::_) _ _=>if i≠j then some (.bool false) else none
  | _,_=>none
 | _=>none
theorem ana {P:Program} {ca:FuncId} {args:List V} {args':Array Value} {v:V} {h:J} (bc:x1 P ca) (ad:wc h args=some v) {ρ:Ren} {B:Nat} {bg w:World} (R:bt ρ B bg h w) (a6:bx ρ args args'.toList) :
  ∃ v',(callFunc ca args').run P w=.ok (.value v') w∧a1 ρ v v':=by
 obtain ⟨fn,h1,ae,aA,bk,bN,t,e,sz,u,aW,aU,hu,b4⟩:=bc
 unfold wc at ad
 split at ad
 case h_2=>cases ad
 rename_i i o n c j p m d
 split at ad
 case h_2=>cases ad
 rename_i wV ei auc atS PV zH aud jm vc
 split at ad
 case isFalse=>cases ad
 rename_i gP
 obtain rfl:=Option.some.inj ad
 obtain ⟨mq,c2,rfl,PW,Q8⟩:=Ra a6
 obtain ⟨aaS,ai6,ZK,atT,rfl⟩:=PW.kT
 obtain ⟨Ye,ai7,ZL,atU,rfl⟩:=Q8.kT
 have k8:=R.heap.obj i
 rw [jm] at k8
 obtain ⟨dt,ZM,HL,ar,_,_,c9,_⟩:=k8
 rw [ZK] at ar
 cases ar
 have ob:=R.heap.obj j
 rw [vc] at ob
 obtain ⟨b1,oD,tu,aT,_,_,b0,eY,_⟩:=ob
 rw [ZL] at aT
 cases aT
 have bZ:aaS≠Ye:=fun U=>gP (R.heap.inj i j aaS ai6 ai7 (by rw [jm];simp) (by rw [vc];simp) ZK (by rw [U];exact ZL))
 refine ⟨.bool false,?_,.bool false⟩
 rw [run_callFunc_extern h1 ae aA bk bN,aW,aU]
 rw [Lib.run_overlaps_apart w t u e hu sz (fun w=>by
   unfold dQ at b4
   cases af:P.info? e with
   | none=>simp [af] at b4
   | some dy=>simp [af] at b4;simp [sizeOf,typeInfo,af,b4]) ⟨aaS,o,none⟩ ⟨Ye,p,none⟩ n _ m _ bZ ei zH HL.size tu.size (by simp [World.shape?,c9]) (by simp [World.shape?,b0]) (by simp at eY;omega) (by simp [World.frozen?,c9]) (by simp [World.frozen?,c9])]
 rfl
def Rb (P : Program) (ca : FuncId) : Prop := ∃ fn, P.funcs[ca]? = some fn ∧ (fn.name == "runtime.NumGoroutine") = false ∧ fn.body.isNone = true ∧ Extern.findNext fn = none ∧ Extern.find fn = some (Extern.Atomic.loadT (.int .i64)) ∧ ∃ a, fn.params = #[a]
def Rc (P : Program) (ca : FuncId) : Prop := ∃ fn, P.funcs[ca]? = some fn ∧ (fn.name == "runtime.NumGoroutine") = false ∧ fn.body.isNone = true ∧ Extern.findNext fn = none ∧ Extern.find fn = some (Extern.Atomic.update (Op.intArith .add) .i64 true) ∧ ∃ a b, fn.params = #[a, b] ∧ a ≠ b
def Re (h:J):List V→Option V
 | [.ptr i o]=>match h.get i with
  | .cells c _ _=>match c[o]? with
   | some (.int .i64 x)=>some (.int .i64 x)
   | _=>none
  | _=>none
 | _=>none
def Rf (h:J):List V→Option (V×J)
 | [.ptr i o,.int .i64 y]=>match h.get i with
  | .cells c e ex=>match c[o]? with
   | some (.int .i64 x)=>some (.int .i64 (IntKind.i64.wrap (x+y)),h.set i (.cells (lay c o [.int .i64 (IntKind.i64.wrap (x+y))]) e ex))
   | _=>none
  | _=>none
 | _=>none
theorem cell_of {ρ:Ren} {B:Nat} {h:J} {w:World} (H:vA ρ B h w) {i o:Nat} {c:List V} {e:TypeId} {ex:Option Nat} (aB:h.get i=.cells c e ex) {k:IntKind} {x:Int} (aF:c[o]?=some (.int k x)) {b cm:Nat} (hi:ρ.ren i=some (b,cm)) :
  w.cell? ⟨b,o,none⟩=some (.int k x)∧w.frozen? ⟨b,o,none⟩=false:=by
 have bc:=H.obj i
 rw [aB] at bc
 obtain ⟨b1,oD,arr,aU,aC,cp,hw,dk,aM,ak⟩:=bc
 rw [aU] at hi;simp at hi
 obtain ⟨rfl,rfl⟩:=hi
 have aH:o<c.length:=(List.getElem?_eq_some_iff.1 aF).1
 have h1:(arr.toList.take c.length)[o]?=some arr[o]:=by
  rw [List.getElem?_take,if_pos aH]
  simp [Array.getElem?_eq_getElem (show o<arr.size by omega)]
 have ae:=aM.2 o _ _ aF h1
 generalize aN:arr[o]=v at ae
 cases ae
 have aA:arr[o]?=some (.int k x):=by rw [Array.getElem?_eq_getElem (show o<arr.size by omega),aN]
 exact ⟨by simp [World.cell?,hw,aA],by simp [World.frozen?,hw]⟩
theorem anb {P:Program} {ca:FuncId} {args:List V} {args':Array Value} {v:V} {h:J} (bc:Rb P ca) (ad:Re h args=some v) {ρ:Ren} {B:Nat} {bg w:World} (R:bt ρ B bg h w) (a6:bx ρ args args'.toList) :
  ∃ v',(callFunc ca args').run P w=.ok (.value v') w∧a1 ρ v v':=by
 obtain ⟨fn,h1,ae,aA,bk,bN,_⟩:=bc
 unfold Re at ad
 split at ad
 case h_2=>cases ad
 rename_i i o
 split at ad
 case h_2=>cases ad
 rename_i c e ex aB
 split at ad
 case h_2=>cases ad
 rename_i x aF
 obtain rfl:=Option.some.inj ad
 obtain ⟨dm,rfl,ak⟩:=Yd a6
 cases ak with
 | ptr hi o=>
 rename_i b cm
 obtain ⟨bd,_⟩:=cell_of R.heap aB aF hi
 exact ⟨_,run_call_load h1 ae aA bk .i64 bN bd,.int _ _⟩
theorem anc {P:Program} {ca:FuncId} {args:List V} {args':Array Value} {v:V} {h h':J} (bc:Rc P ca) (ad:Rf h args=some (v,h')) {ρ:Ren} {B:Nat} {bg w:World} (R:bt ρ B bg h w) (a6:bx ρ args args'.toList) :
  ∃ v' w',(callFunc ca args').run P w=.ok (.value v') w'∧a1 ρ v v'∧bt ρ B bg h' w':=by
 obtain ⟨fn,h1,ae,aA,bk,bN,_⟩:=bc
 unfold Rf at ad
 split at ad
 case h_2=>cases ad
 rename_i i o y
 split at ad
 case h_2=>cases ad
 rename_i c e ex aB
 split at ad
 case h_2=>cases ad
 rename_i x aF
 simp only [Option.some.injEq,Prod.mk.injEq] at ad
 obtain ⟨rfl,rfl⟩:=ad
 obtain ⟨mq,c2,rfl,PW,Q8⟩:=Ra a6
 cases Q8
 cases PW with
 | ptr hi o=>
 rename_i b cm
 obtain ⟨bd,bH⟩:=cell_of R.heap aB aF hi
 have aH:o<c.length:=(List.getElem?_eq_some_iff.1 aF).1
 have aN:bx ρ [.int .i64 (IntKind.i64.wrap (x+y))] [.int .i64 (IntKind.i64.wrap (x+y))]:=.cons (.int _ _) (.nil ρ)
 obtain ⟨w',eg,ij⟩:=QT (P:=P) aB R hi o aN rfl (show o+1≤c.length from aH)
 have cR:(storeCells ⟨b,o,none⟩ [.int .i64 (IntKind.i64.wrap (x+y))]).run P w=.ok () (w.setCell ⟨b,o,none⟩ (.int .i64 (IntKind.i64.wrap (x+y)))):=by
  have dd:(store ⟨b,o,none⟩ (.int .i64 (IntKind.i64.wrap (x+y)))).run P w=.ok () (w.setCell ⟨b,o,none⟩ (.int .i64 (IntKind.i64.wrap (x+y)))):=by
   rw [run_store P w ⟨b,o,none⟩ (.int .i64 (IntKind.i64.wrap (x+y))) _ (by rfl),bd]
   simp [bH]
  simp [storeCells,Addr.add,dd]
 rw [cR] at eg
 injection eg with _ hw
 subst hw
 exact ⟨_,_,run_call_add h1 ae aA bk .i64 bN bd bH (by simp [Op.intArith]),.int _ _,ij⟩
open Classical in
noncomputable def Dp (P:Program) (ca:FuncId) (args:List V) (h:J):Option (V×J) :=
 if x1 P ca then (match wc h args with | some v=>some (v,h) | none=>none)
 else if Rb P ca then (match Re h args with | some v=>some (v,h) | none=>none)
 else if Rc P ca then Rf h args else none
theorem ane {P:Program} {ca:FuncId} {args:List V} {h:J} {v:V} (bc:x1 P ca) (a6:wc h args=some v):Dp P ca args h=some (v,h):=by
 unfold Dp;rw [if_pos bc,a6]
theorem anf {P:Program} {ca:FuncId} {args:List V} {args':Array Value} {v:V} {h h':J} (ad:Dp P ca args h=some (v,h')) {ρ:Ren} {B:Nat} {bg w:World} (R:bt ρ B bg h w) (a6:bx ρ args args'.toList) :
  ∃ v' w',(callFunc ca args').run P w=.ok (.value v') w'∧a1 ρ v v'∧bt ρ B bg h' w':=by
 unfold Dp at ad
 split at ad
 ·rename_i bc
  split at ad
  case h_2=>cases ad
  rename_i u hu
  simp only [Option.some.injEq,Prod.mk.injEq] at ad
  obtain ⟨rfl,rfl⟩:=ad
  obtain ⟨v',ar,aT⟩:=ana bc hu R a6
  exact ⟨v',w,ar,aT,R⟩
 split at ad
 ·rename_i _ bc
  split at ad
  case h_2=>cases ad
  rename_i u hu
  simp only [Option.some.injEq,Prod.mk.injEq] at ad
  obtain ⟨rfl,rfl⟩:=ad
  obtain ⟨v',ar,aT⟩:=anb bc hu R a6
  exact ⟨v',w,ar,aT,R⟩
 split at ad
 ·rename_i _ _ bc
  exact anc bc ad R a6
 ·cases ad
def Bc (a:Array Operand):Array Bool:=a.map fun | .const _=>true | _=>false
def iu (P:Program) (t:TypeId) (name:String) (f:FuncId):Prop:=(∀ v w,(method (P.types.size+Made.depth) t v name).run P w=.ok (f,v) w)∧bK P f=true
theorem iu.uniq {P:Program} {t:TypeId} {name:String} {f g:FuncId} (aC:iu P t name f) (aB:iu P t name g):f=g:=by
 have:=(aC.1 .nilIface default).symm.trans (aB.1 .nilIface default)
 injection this with h1
 injection h1
open Classical in
noncomputable def zI (P:Program) (x:V) (name:String) (args:List V):Option Step :=
 match x with
 | .iface t v=>if h:∃ f,iu P t name f then some (.call (Classical.choose h) (v::args)) else none
 | _=>none
theorem Rg {P:Program} {x:V} {name:String} {args:List V} {s:Step} (ad:zI P x name args=some s):∃ t v f,x=.iface t v∧iu P t name f∧s=.call f (v::args):=by
 unfold zI at ad
 split at ad
 case h_2=>cases ad
 rename_i t v
 split at ad
 case isFalse=>cases ad
 rename_i U
 simp only [Option.some.injEq] at ad
 exact ⟨t,v,_,rfl,Classical.choose_spec U,ad.symm⟩
theorem ang {P:Program} {t:TypeId} {v:V} {name:String} {args:List V} {f:FuncId} (hm:iu P t name f):zI P (.iface t v) name args=some (.call f (v::args)):=by
 have U:∃ f,iu P t name f:=⟨f,hm⟩
 unfold zI
 simp only [dif_pos U]
 rw [(Classical.choose_spec U).uniq hm]
open Classical in
noncomputable def pe (P:Program) (c:Call) (ty:TypeId) (bV:Operand→V) (h:J):Option Step :=
 match c.callee with
 | .builtin .panic=>match c.args.toList.map bV with
  | [.iface _ _]=>some .panic
  | _=>none
 | .builtin b=>
  match vb P b c.argTypes.toList ty (Bc c.args) (c.args.toList.map bV) h with
  | some (v,h')=>some (.val v h')
  | none=>none
 | .value f=>
  match bV f with
  | .func (.func ca) first captured=>if bK P ca then some (.call ca (first++c.args.toList.map bV++captured)) else (match Dp P ca (first++c.args.toList.map bV++captured) h with | some (v,h')=>some (.val v h') | none=>none)
  | .func (.yield l) [] []=>some (.round l (c.args.toList.map bV))
  | _=>none
 | .invoke r name=>zI P (bV r) name (c.args.toList.map bV)
def lM (o:Option V) (h:J):Option Step:=match o with | some v=>some (.val v h) | none=>none
def jW (o:Option (V×J)):Option Step:=match o with | some (v,h)=>some (.val v h) | none=>none
def x2 (o:Option J):Option Step:=match o with | some h=>some (.val .top h) | none=>none
def DC (P:Program) (s d:TypeId) (x:V) (h:J):Option (V×J) :=
 match P.underlying s,x with
 | some (.slice e),.bp i o n _=>
  if s=d∧Cv P e=true then
   match h.get i with
   | .cells c _ _=>if o+n≤c.length then some (.ag n ((c.drop o).take n),h.set i .dead) else none
   | _=>none
  else none
 | _,_=>none
theorem ai8 {P:Program} {s d:TypeId} {x v:V} {h h':J} (ad:DC P s d x h=some (v,h')):h'≠h:=by
 unfold DC at ad
 split at ad
 case h_2=>cases ad
 split at ad
 case isFalse=>cases ad
 split at ad
 case h_2=>cases ad
 rename_i c aT ex aB
 split at ad
 case isFalse=>cases ad
 simp only [Option.some.injEq,Prod.mk.injEq] at ad
 intro e
 rename_i i _ _ _ _ _ _ _
 have h1:(h.set i .dead).get i=h.get i:=by rw [ad.2,e]
 rw [aB] at h1
 simp [J.set] at h1
theorem bt.mark {ρ:Ren} {B:Nat} {bg:World} {h:J} {w:World} (R:bt ρ B bg h w) {b:Nat} {arr:Array Value} (aC:ρ.frz b=some arr) (cp:B≤b) (k:Nat):bt ρ B bg h (w.freeze ⟨b,k,none⟩ 1):=by
 have bZ:∀ j,b≠j→(w.freeze ⟨b,k,none⟩ 1).heap[j]?=w.heap[j]?:=fun j aX=>by
  simp only [World.freeze,Nat.one_ne_zero,if_false,Array.getElem?_modify,if_neg aX]
 have heq:∀ c e ky,w.heap[b]?=some (.cells c e ky)→∃ Rh,(w.freeze ⟨b,k,none⟩ 1).heap[b]?=some (.cells c e Rh):=fun c e ky af=>by
  simp only [World.freeze,Nat.one_ne_zero,if_false,Array.getElem?_modify,if_true,af,Option.map_some]
  exact ⟨_,rfl⟩
 have bz:(w.freeze ⟨b,k,none⟩ 1).heap.size=w.heap.size:=by
  simp only [World.freeze,Nat.one_ne_zero,if_false,Array.size_modify]
 refine ⟨⟨R.heap.qb,R.heap.inj,fun i=>?_,fun c2 mq hP=>?_,R.heap.glob,by rw [bz];exact R.heap.base⟩,R.below.trans ⟨?_,?_,?_,Nat.le_of_eq bz.symm,fun j aX=>bZ j (by omega),?_⟩⟩
 ·by_cases bb:h.get i=.dead
  ·rw [bb];trivial
  ·refine (R.heap.obj i).aj (Ren.le.refl ρ) fun c2 c aU=>⟨bZ c2 ?_,fun h=>h⟩
   obtain ⟨b1,cm,oC,_,_,kS,_⟩:=R.heap.live bb
   rw [aU] at oC
   cases oC
   intro e
   subst e
   rw [aC] at kS;cases kS
 ·obtain ⟨e,ky,af⟩:=R.heap.frz c2 mq hP
  by_cases aX:b=c2
  ·subst aX
   obtain ⟨Rh,h1⟩:=heq _ _ _ af
   exact ⟨e,Rh,h1⟩
  ·exact ⟨e,ky,(bZ c2 aX).trans af⟩
 all_goals simp only [World.freeze,Nat.one_ne_zero,if_false]
 exact Nat.le_refl _
theorem anh {P:Program} {src dst:TypeId} {x v:V} {dm:Value} {h h':J} (ad:DC P src dst x h=some (v,h')) {ρ:Ren} {B:Nat} {bg w:World} (R:bt ρ B bg h w) (ak:a1 ρ x dm) :
  Yields P (convert src dst dm) ρ B bg w v h':=by
 unfold DC at ad
 split at ad
 case h_2=>cases ad
 rename_i e i o n cap hu
 split at ad
 case isFalse=>cases ad
 rename_i aF
 split at ad
 case h_2=>cases ad
 rename_i c aT ex aB
 split at ad
 case isFalse=>cases ad
 rename_i hle
 simp only [Option.some.injEq,Prod.mk.injEq] at ad
 obtain ⟨rfl,rfl⟩:=ad
 obtain ⟨rfl,he⟩:=aF
 have iv:=PR he
 obtain ⟨ρ',le,ij,b,cm,arr,aU,aC,aM,jg⟩:=R.freeze aB
 obtain ⟨b1,oD,hi,fA,rfl⟩:=ak.kT
 rw [aU] at hi
 cases hi
 obtain ⟨_,_,_,_,_,_,cp⟩:=R.heap.live (i:=i) (by rw [aB];simp)
 rename_i e9 atV Jy _ _ _
 rw [aU] at Jy
 cases Jy
 obtain ⟨cg,ky,hw⟩:=ij.heap.frz _ _ aC
 have Q2:w.shape? b=some (cg,arr.size):=by simp [World.shape?,hw]
 refine ⟨ρ',.slice (some ⟨b,o,none⟩) n (kx cm cap),w.freeze ⟨b,arr.size,none⟩ 1,?_,.ag o n _ aC fA ?_ fun k u wT h1 ae=>?_,ij.mark aC cp _,le⟩
 ·simp [convert,run_underlying hu,run_underlying iv,markStringish,Q2]
 ·rw [List.length_take,List.length_drop];omega
 ·rw [List.getElem?_take] at h1
  split at h1
  case isFalse=>cases h1
  rw [List.getElem?_drop] at h1
  refine (jg.2 (o+k) u wT h1 ?_).mono le
  have hk:o+k<c.length:=(List.getElem?_eq_some_iff.1 h1).1
  rw [List.getElem?_take,if_pos hk,Array.getElem?_toList]
  exact ae
def aaT (P:Program) (t:TypeId) (m k:V) (h:J):Option (V×J) :=
 match gR P t,m with
 | some (hg,nW,d),.map i=>
  match h.get i with
  | .map es cl=>
   if Ba P false hg k then
    match va P hg d k es with
    | some (some j)=>
     match es[j]?,(es[j]?).bind fun e=>r4 e.2.1,r4 k with
     | some e,some a,some b=>if Instr.sameBits 10000 a b=true then some (.tuple [e.2.2,.int .i64 (e.1:Nat)],h.set i (.map (es.modify j fun e=>(e.1,k,e.2.2)) cl)) else none
     | _,_,_=>none
    | some none=>
     match qH P nW with
     | some z=>some (.tuple [jQ z,.int .i64 (cl:Nat)],h.set i (.map (es++[(cl,k,jQ z)]) (cl+1)))
     | none=>none
    | none=>none
   else none
  | _=>none
 | _,_=>none
def aaU (m s v:V) (h:J):Option J :=
 match m,s with
 | .map i,.int _ st=>
  match h.get i with
  | .map es cl=>
   match es.findIdx? (fun e=>(e.1:Int)==st) with
   | some j=>some (h.set i (.map (es.modify j fun e=>(e.1,e.2.1,v)) cl))
   | none=>none
  | _=>none
 | _,_=>none
theorem lj.find {ρ:Ren} {es:List (Nat×V×V)} {arr:Array MapEntry} (h:lj ρ es arr) (st:Int):arr.findIdx? (fun e=>(e.born:Int)==st)=es.findIdx? (fun e=>(e.1:Int)==st):=by
 have hm:es.map (fun e=>e.1)=arr.toList.map (fun e=>e.born):=by
  apply List.ext_getElem
  ·simp [h.1]
  ·intro q h1 ae
   simp only [List.getElem_map,Array.getElem_toList]
   simp only [List.length_map] at h1
   exact (h.2 q _ _ (List.getElem?_eq_getElem h1) (Array.getElem?_eq_getElem (by rw [←h.1];exact h1))).1
 have ar:es.findIdx? (fun e=>(e.1:Int)==st)=(es.map (fun e=>e.1)).findIdx? (fun n:Nat=>(n:Int)==st):=by rw [List.findIdx?_map];rfl
 have aT:arr.toList.findIdx? (fun e=>(e.born:Int)==st)=(arr.toList.map (fun e=>e.born)).findIdx? (fun n:Nat=>(n:Int)==st):=by rw [List.findIdx?_map];rfl
 rw [ar,hm,←aT]
 cases arr
 simp
theorem ani {P:Program} {t:TypeId} {m k v:V} {jf k':Value} {h h':J} (ad:aaT P t m k h=some (v,h')) {ρ:Ren} {B:Nat} {bg w:World} (R:bt ρ B bg h w) (hm:a1 ρ m jf) (hk:a1 ρ k k') :
  Yields P (Instr.mapEntry t jf k') ρ B bg w v h':=by
 unfold aaT at ad
 split at ad
 case h_2=>cases ad
 rename_i hg nW d i cS
 obtain ⟨hu,xx⟩:=HJ cS
 split at ad
 case h_2=>cases ad
 rename_i es cl aB
 split at ad
 case isFalse=>cases ad
 rename_i ug
 cases hm with
 | map hi=>
 have bc:=R.heap.obj i
 rw [aB] at bc
 obtain ⟨b,cm,arr,aU,qf,cp,hw,hb⟩:=bc
 rw [aU] at hi
 simp at hi
 obtain ⟨rfl,rfl⟩:=hi
 have aH:b<w.heap.size:=(Array.getElem?_eq_some_iff.1 hw).1
 split at ad
 ·rename_i j aC
  split at ad
  case h_2=>cases ad
  rename_i eT a c we a6 aF
  split at ad
  case isFalse=>cases ad
  rename_i Q4
  simp only [Option.some.injEq,Prod.mk.injEq] at ad
  obtain ⟨rfl,rfl⟩:=ad
  obtain ⟨h1,ae⟩:=i9 (P:=P) (w:=w) xx hk hb aC
  have aX:=ae j rfl
  have nZ:j<es.length:=by rw [hb.1];exact aX
  obtain ⟨ai9,jl,Dm⟩:=hb.2 j _ _ (List.getElem?_eq_getElem nZ) (Array.getElem?_eq_getElem aX)
  rw [List.getElem?_eq_getElem nZ] at a6 we
  simp at a6 we
  subst we
  have ar:=D2 jl a6
  have aT:=D2 hk aF
  have ij:=R.setObj (o:=.map (es.modify j fun e=>(e.1,k,e.2.2)) cl) (ob:=.map (arr.modify j fun e=>{ e with key:=k' }) cl) aU (by rw [aB];simp) cp aH (by
   refine ⟨b,cm,arr.modify j (fun e=>{ e with key:=k' }),aU,qf,cp,by simp [aH],by simp [hb.1],fun q e fo af fi=>?_⟩
   rw [List.getElem?_modify] at af
   rw [Array.getElem?_modify] at fi
   by_cases Dn:j=q
   ·subst Dn
    rw [List.getElem?_eq_getElem nZ] at af
    rw [Array.getElem?_eq_getElem aX] at fi
    simp at af fi
    subst af;subst fi
    obtain ⟨aA,_,bN⟩:=hb.2 j _ _ (List.getElem?_eq_getElem nZ) (Array.getElem?_eq_getElem aX)
    exact ⟨aA,hk,bN⟩
   ·simp [Dn] at af fi
    exact hb.2 q e fo af fi)
  refine ⟨ρ,.tuple #[arr[j].val,goInt (arr[j].born:Int)],_,?_,?_,ij,Ren.le.refl ρ⟩
  ·simp only [Instr.mapEntry,Sem.run_bind,run_underlying hu,run_getObj_map hw,Result.andThen_ok]
   rw [HI ug hk w,Result.andThen_ok,h1]
   have hK:(Instr.keyThatStays a c).run P w=.ok c w:=by unfold Instr.keyThatStays;rw [if_pos Q4];rfl
   simp [Array.getElem?_eq_getElem aX,ar,aT,hK,run_setObj_map hw]
  ·rw [ai9]
   exact ((bx.cons Dm (.cons (.int _ _) (.nil ρ))).arr).tuple
 ·rename_i aC
  split at ad
  case h_2=>cases ad
  rename_i z b4
  simp only [Option.some.injEq,Prod.mk.injEq] at ad
  obtain ⟨rfl,rfl⟩:=ad
  obtain ⟨h1,ae⟩:=i9 (P:=P) (w:=w) xx hk hb aC
  have ij:=R.setObj (o:=.map (es++[(cl,k,jQ z)]) (cl+1)) (ob:=.map (arr.push { key:=k',val:=z,born:=cl }) (cl+1)) aU (by rw [aB];simp) cp aH (by
   refine ⟨b,cm,arr.push { key:=k',val:=z,born:=cl },aU,qf,cp,by simp [aH],by simp [hb.1],fun q e fo af fi=>?_⟩
   rw [List.getElem?_append] at af
   rw [Array.getElem?_push] at fi
   by_cases JE:q<es.length
   ·rw [if_pos JE] at af
    rw [if_neg (by rw [←hb.1];omega)] at fi
    exact hb.2 q e fo af fi
   ·rw [if_neg JE] at af
    have Q5:q=es.length:=by
     have:=(List.getElem?_eq_some_iff.1 af).1
     simp at this;omega
    subst Q5
    rw [if_pos hb.1] at fi
    simp at af fi
    subst af;subst fi
    exact ⟨rfl,hk,LV ρ z⟩)
  refine ⟨ρ,.tuple #[z,goInt (cl:Int)],_,?_,?_,ij,Ren.le.refl ρ⟩
  ·simp only [Instr.mapEntry,Sem.run_bind,run_underlying hu,run_getObj_map hw,Result.andThen_ok]
   rw [HI ug hk w,Result.andThen_ok,h1]
   simp [Yb b4,run_setObj_map hw]
  ·exact ((bx.cons (LV ρ z) (.cons (.int _ _) (.nil ρ))).arr).tuple
 ·cases ad
theorem anj {P:Program} {t:TypeId} {m s v:V} {jf b7 v':Value} {h h':J} (ad:aaU m s v h=some h') {ρ:Ren} {B:Nat} {bg w:World} (R:bt ρ B bg h w) (hm:a1 ρ m jf) (cR:a1 ρ s b7) (aN:a1 ρ v v') :
  ∃ w',(Instr.entryStore t jf b7 v').run P w=.ok () w'∧bt ρ B bg h' w':=by
 unfold aaU at ad
 split at ad
 case h_2=>cases ad
 rename_i i kk st
 split at ad
 case h_2=>cases ad
 rename_i es cl aB
 split at ad
 case h_2=>cases ad
 rename_i j aC
 obtain rfl:_=h':=by simpa using ad
 cases cR
 cases hm with
 | map hi=>
 have bc:=R.heap.obj i
 rw [aB] at bc
 obtain ⟨b,cm,arr,aU,qf,cp,hw,hb⟩:=bc
 rw [aU] at hi
 simp at hi
 obtain ⟨rfl,rfl⟩:=hi
 have aH:b<w.heap.size:=(Array.getElem?_eq_some_iff.1 hw).1
 have pf:=hb.find st
 rw [aC] at pf
 have nZ:j<es.length:=by
  have:=List.findIdx?_eq_some_iff_findIdx_eq.1 aC
  omega
 have aX:j<arr.size:=by rw [←hb.1];exact nZ
 have ij:=R.setObj (o:=.map (es.modify j fun e=>(e.1,e.2.1,v)) cl) (ob:=.map (arr.modify j fun e=>{ e with val:=v' }) cl) aU (by rw [aB];simp) cp aH (by
  refine ⟨b,cm,arr.modify j (fun e=>{ e with val:=v' }),aU,qf,cp,by simp [aH],by simp [hb.1],fun q e fo af fi=>?_⟩
  rw [List.getElem?_modify] at af
  rw [Array.getElem?_modify] at fi
  by_cases Dn:j=q
  ·subst Dn
   rw [List.getElem?_eq_getElem nZ] at af
   rw [Array.getElem?_eq_getElem aX] at fi
   simp at af fi
   subst af;subst fi
   obtain ⟨aA,bk,_⟩:=hb.2 j _ _ (List.getElem?_eq_getElem nZ) (Array.getElem?_eq_getElem aX)
   exact ⟨aA,bk,aN⟩
  ·simp [Dn] at af fi
   exact hb.2 q e fo af fi)
 refine ⟨_,?_,ij⟩
 simp only [Instr.entryStore,Sem.run_bind,Sem.run_pure,run_getObj_map hw,Result.andThen_ok]
 simp [asInt,asIntOf,pf,run_setObj_map hw]
noncomputable def gS (P:Program) (o:Oper) (bV:Operand→V) (h:J):Option Step :=
 match o.op with
 | .move x=>some (.val (bV x) h)
 | .assign x=>some (.val (bV x) h)
 | .pick c a b=>match bV c with
  | .bool t=>some (.val (if t then bV a else bV b) h)
  | _=>none
 | .alloc e=>jW (PO P e h)
 | .box e x=>jW (Cr e (bV x) h)
 | .build t ps=>lM (wd P t (ps.toList.map fun p=>(p.1,bV p.2))) h
 | .buildSlice t len ps=>jW (lk P t len (ps.toList.map fun p=>(p.1,bV p.2)) h)
 | .load t a=>lM (D3 P t (bV a) h) h
 | .store t a x=>x2 (PM P t (bV a) (bV x) h)
 | .nilCheck x=>match bV x with
  | .ptr i o=>some (.val (.ptr i o) h)
  | .at cs=>some (.val (.at cs) h)
  | .func (.func ca) xs ys=>some (.val (.func (.func ca) xs ys) h)
  | _=>none
 | .binOp op t x y _=>lM (ev P op t x y (bV x) (bV y)) h
 | .unOp op _ x=>lM (Ea P op (bV x)) h
 | .convert s d x=>match qJ P s d (bV x) h with
  | some v=>some (.val v h)
  | none=>jW (DC P s d (bV x) h)
 | .makeInterface t x=>match DB P t with
  | some false=>some (.val (.iface t (bV x)) h)
  | _=>none
 | .makeFunc fn first captured=>some (.val (.func fn (first.toList.map bV) (captured.toList.map bV)) h)
 | .makeMap t r=>jW (Q6 P t (r.map bV) h)
 | .makeSlice t l c=>jW (GW P t (bV l) (bV c) h)
 | .slice t x lo hi mx=>lM (kz P t (bV x) (lo.map bV) (hi.map bV) (mx.map bV)) h
 | .fieldAddr s x k=>lM (LX P s (bV x) k) h
 | .field t x k=>lM (aaN P t (bV x) k) h
 | .indexAddr t x rf=>lM (ir P t (bV x) (bV rf)) h
 | .index t x rf=>lM (X9 P t (bV x) (bV rf)) h
 | .lookup t x rf ok=>lM (n5 P t (bV x) (bV rf) ok h) h
 | .mapUpdate t m k x=>x2 (xZ P t (bV m) (bV k) (bV x) h)
 | .insert t m k x=>x2 (xZ P t (bV m) (bV k) (bV x) h)
 | .mapEntry t m k=>jW (aaT P t (bV m) (bV k) h)
 | .entryStore _ m s x=>x2 (aaU (bV m) (bV s) (bV x) h)
 | .range t x=>jW (PS P t (bV x) h)
 | .next it false=>match HK (bV it) h with
  | some l=>some (.alts l)
  | none=>none
 | .entry it=>lM (PT (bV it) h) h
 | .typeAssert x _ asserted ok=>lM (gZ P (bV x) asserted ok) h
 | .extract t k=>match bV t with
  | .tuple vs=>lM vs[k]? h
  | _=>none
 | .call c=>pe P c o.type bV h
 | .panic x=>match bV x with
  | .iface _ _=>some .panic
  | _=>none
 | _=>none
theorem L1 {ρ:Ren} {bV:Operand→V} {ec:Operand→Value} (dz:∀ x,a1 ρ (bV x) (ec x)):∀ l:List Operand,bx ρ (l.map bV) (l.map ec)
 | []=>.nil ρ
 | x::l=>.cons (dz x) (L1 dz l)
theorem aja {ρ:Ren} {bV:Operand→V} {ec:Operand→Value} (dz:∀ x,a1 ρ (bV x) (ec x)) (a:Array Operand):hd ρ (a.toList.map bV) (a.map ec):=by
 have:=L1 dz a.toList
 exact bx.nt (by simpa using this)
theorem aaV {ρ:Ren} {bV:Operand→V} {ec:Operand→Value} (dz:∀ x,a1 ρ (bV x) (ec x)):∀ l:List (Nat×Operand),
  zE ρ (l.map fun p=>(p.1,bV p.2)) (l.map fun p=>(p.1,ec p.2))
 | []=>trivial
 | x::l=>⟨rfl,dz _,aaV dz l⟩
def pY (P:Program) (s:Sem Next) (ρ:Ren) (B:Nat) (bg w:World) (v:V) (h':J):Prop :=
 ∃ ρ' v' w',(s.run P w=.ok (.value v') w'∨(s.run P w=.ok .skip w'∧v'=undef))∧a1 ρ' v v'∧bt ρ' B bg h' w'∧ρ.le ρ'
theorem Yields.next {P:Program} {s:Sem Value} {ρ:Ren} {B:Nat} {bg w:World} {v:V} {h':J} (y:Yields P s ρ B bg w v h') :
  pY P (do pure (.value (←s))) ρ B bg w v h':=by
 obtain ⟨ρ',v',w',aU,aN,R,hle⟩:=y
 exact ⟨ρ',v',w',.inl (by simp [aU]),aN,R,hle⟩
theorem pY.same {P:Program} {s:Sem Next} {ρ:Ren} {B:Nat} {bg w:World} {v:V} {v':Value} {h:J} (R:bt ρ B bg h w) (aU:s.run P w=.ok (.value v') w) (aN:a1 ρ v v') :
  pY P s ρ B bg w v h:=⟨ρ,v',w,.inl aU,aN,R,Ren.le.refl ρ⟩
theorem pY.skip {P:Program} {s:Sem Unit} {ρ:Ren} {B:Nat} {bg w:World} {h':J} (y:∃ w',s.run P w=.ok () w'∧bt ρ B bg h' w'):pY P (do s;pure .skip) ρ B bg w .top h':=by
 obtain ⟨w',aU,R⟩:=y
 exact ⟨ρ,undef,w',.inr ⟨by simp [aU],rfl⟩,.top _,R,Ren.le.refl ρ⟩
theorem Ri (ρ:Ren):a1 ρ (.tuple []) (.tuple #[]):=.tuple rfl (by simp)
theorem ank {P:Program} {b:Builtin} {types:Array TypeId} {ty:TypeId} {consts:Array Bool} {args:List V} {args':Array Value} {h h':J} {v:V}
  (ad:vb P b types.toList ty consts args h=some (v,h')) {ρ:Ren} {B:Nat} {bg w:World} (R:bt ρ B bg h w) (a6:bx ρ args args'.toList) :
  pY P (builtin b types ty consts args') ρ B bg w v h':=by
 unfold vb at ad
 split at ad
 ·rename_i t x bw
  obtain ⟨dm,rfl,ak⟩:=Yd a6
  obtain rfl:types=#[t]:=by apply Array.ext';simpa using bw
  split at ad
  case h_2=>cases ad
  rename_i u hu
  simp at ad
  obtain ⟨rfl,rfl⟩:=ad
  exact ((amX hu R ak).mD R).next
 ·rename_i t tx s x bw
  obtain ⟨b7,dm,rfl,uh,ic⟩:=Ra a6
  obtain rfl:types=#[t,tx]:=by apply Array.ext';simpa using bw
  exact (amN ad R uh ic).next
 ·rename_i t tx s x bw
  obtain ⟨b7,dm,rfl,uh,ic⟩:=Ra a6
  obtain rfl:types=#[t,tx]:=by apply Array.ext';simpa using bw
  exact (amO ad R uh ic).next
 ·rename_i t tx s x bw
  obtain ⟨b7,dm,rfl,uh,ic⟩:=Ra a6
  obtain rfl:types=#[t,tx]:=by apply Array.ext';simpa using bw
  cases bb:G0 P t s x h with
  | none=>simp [bb] at ad
  | some ae=>
   simp [bb] at ad
   obtain ⟨rfl,rfl⟩:=ad
   obtain ⟨w',aU,ij⟩:=am2 (P:=P) (ty:=ty) (ts:=#[t,tx]) rfl bb R uh ic
   exact Yields.next (s:=Builtin.delete_ #[t,tx] ty #[b7,dm]) ⟨ρ,_,w',aU,Ri ρ,ij,Ren.le.refl ρ⟩
 ·rename_i t x bw
  obtain ⟨dm,rfl,ak⟩:=Yd a6
  obtain rfl:types=#[t]:=by apply Array.ext';simpa using bw
  cases bb:Bb P t x h with
  | none=>simp [bb] at ad
  | some ae=>
   simp [bb] at ad
   obtain ⟨rfl,rfl⟩:=ad
   obtain ⟨w',aU,ij⟩:=am8 (P:=P) (ty:=ty) bb R ak
   exact Yields.next (s:=Builtin.clear_ #[t] ty #[dm]) ⟨ρ,_,w',aU,Ri ρ,ij,Ren.le.refl ρ⟩
 ·rename_i t x bw
  obtain ⟨dm,rfl,ak⟩:=Yd a6
  obtain rfl:types=#[t]:=by apply Array.ext';simpa using bw
  split at ad
  case h_2=>cases ad
  rename_i u hu
  simp at ad
  obtain ⟨rfl,rfl⟩:=ad
  exact ((am9 hu R ak).mD R).next
 ·split at ad
  case h_2=>cases ad
  rename_i as has
  have ar:=aaB a6 has
  split at ad
  case h_2=>cases ad
  rename_i u hu
  simp at ad
  obtain ⟨rfl,rfl⟩:=ad
  refine .same R ?_ (Jv ρ u)
  have:=JA hu w
  rw [←ar] at this
  simpa using this
theorem JJ {o:Option (V×J)} {v:V} {h:J} (ad:jW o=some (.val v h)):o=some (v,h):=by
 unfold jW at ad
 split at ad
 ·simp at ad;obtain ⟨rfl,rfl⟩:=ad;rfl
 ·cases ad
theorem zJ {o:Option V} {v:V} {h h':J} (ad:lM o h=some (.val v h')):o=some v∧h'=h:=by
 unfold lM at ad
 split at ad
 ·simp at ad;obtain ⟨rfl,rfl⟩:=ad;exact ⟨rfl,rfl⟩
 ·cases ad
theorem Yf {o:Option J} {v:V} {h':J} (ad:x2 o=some (.val v h')):o=some h'∧v=.top:=by
 unfold x2 at ad
 split at ad
 ·simp at ad;obtain ⟨rfl,rfl⟩:=ad;exact ⟨rfl,rfl⟩
 ·cases ad
theorem Yg {ρ:Ren} {bV:Operand→V} {ec:Operand→Value} (dz:∀ x,a1 ρ (bV x) (ec x)) (o:Option Operand):Option.Rel (a1 ρ) (o.map bV) (o.map ec):=by
 cases o with
 | none=>exact .none
 | some x=>exact .some (dz x)
theorem anl {P:Program} {o:Oper} {bV:Operand→V} {ec:Operand→Value} {h h':J} {v:V} (ad:gS P o bV h=some (.val v h')) {ρ:Ren} {B:Nat} {bg w:World}
  (R:bt ρ B bg h w) (dz:∀ x,a1 ρ (bV x) (ec x)):pY P (execOp ec o) ρ B bg w v h':=by
 unfold gS at ad
 unfold execOp
 split at ad
 ·rename_i x dM
  simp only [dM]
  simp at ad;obtain ⟨rfl,rfl⟩:=ad
  exact .same R (Sem.run_pure ..) (dz x)
 ·rename_i x dM
  simp only [dM]
  simp at ad;obtain ⟨rfl,rfl⟩:=ad
  exact .same R (Sem.run_pure ..) (dz x)
 ·rename_i c a b dM
  simp only [dM]
  split at ad
  case h_2=>cases ad
  rename_i t bw
  simp at ad;obtain ⟨rfl,rfl⟩:=ad
  have aF:=dz c
  rw [bw] at aF
  have fj:ec c=.bool t:=D1 aF rfl
  refine .same R (v':=if t then ec a else ec b) ?_ ?_
  ·simp [fj,asBool]
  ·cases t
   ·exact dz b
   ·exact dz a
 ·rename_i e dM
  simp only [dM]
  exact (amE (JJ ad) R).next
 ·rename_i e x dM
  simp only [dM]
  exact (amF (JJ ad) R (dz x)).next
 ·rename_i t ps dM
  simp only [dM]
  obtain ⟨aN,he⟩:=zJ ad
  subst he
  refine ((amT aN R ?_).mD R).next
  have:=aaV dz ps.toList
  simpa using this
 ·rename_i t len ps dM
  simp only [dM]
  refine (amU (JJ ad) R ?_).next
  have:=aaV dz ps.toList
  simpa using this
 ·rename_i t a dM
  simp only [dM]
  obtain ⟨aN,he⟩:=zJ ad
  subst he
  exact ((aiM aN R (dz a)).2.mD R).next
 ·rename_i t a x dM
  simp only [dM]
  obtain ⟨aN,he⟩:=Yf ad
  subst he
  exact .skip (amD aN R (dz a) (dz x))
 ·rename_i x dM
  simp only [dM]
  have ak:=dz x
  split at ad
  ·rename_i i o a6
   simp at ad;obtain ⟨rfl,rfl⟩:=ad
   rw [a6] at ak
   generalize ec x=dm at ak
   obtain ⟨b,c,hi,rfl⟩:=ak.v7
   exact .same R (Sem.run_pure ..) (.ptr hi o)
  ·rename_i cs a6
   simp at ad;obtain ⟨rfl,rfl⟩:=ad
   rw [a6] at ak
   generalize ec x=dm at ak
   obtain ⟨b,o,arr,av,bc,ic,rfl⟩:=ak.A3
   exact .same R (Sem.run_pure ..) ak
  ·rename_i ca xs ys a6
   simp at ad;obtain ⟨rfl,rfl⟩:=ad
   rw [a6] at ak
   generalize ec x=dm at ak
   have vl:=ak
   cases ak with
   | func fn h1 ae aA bk=>exact .same R (Sem.run_pure ..) vl
  ·cases ad
 ·rename_i op t x y Yh dM
  simp only [dM]
  obtain ⟨aN,he⟩:=zJ ad
  subst he
  exact ((amQ aN R (dz x) (dz y)).mD R).next
 ·rename_i op t x dM
  simp only [dM]
  obtain ⟨aN,he⟩:=zJ ad
  subst he
  exact ((amR aN R (dz x)).mD R).next
 ·rename_i s d x dM
  simp only [dM]
  cases aF:qJ P s d (bV x) h with
  | some u=>
   rw [aF] at ad
   cases ad
   exact (amS aF R (dz x)).next
  | none=>
   rw [aF] at ad
   exact (anh (JJ ad) R (dz x)).next
 ·rename_i t x dM
  simp only [dM]
  split at ad
  case h_2=>cases ad
  rename_i bw
  simp at ad;obtain ⟨rfl,rfl⟩:=ad
  refine Yields.next (.same R (v':=.iface t (ec x)) ?_ (.iface t (dz x)))
  unfold DB at bw
  split at bw
  ·simp at bw
  ·rename_i d tL hu
   cases d with
   | interface ms=>exact absurd rfl (tL ms)
   | _=>simp [Instr.makeInterface,run_underlying hu]
  ·cases bw
 ·rename_i fn first captured dM
  simp only [dM]
  simp at ad;obtain ⟨rfl,rfl⟩:=ad
  have h1:=aja dz first
  have ae:=aja dz captured
  exact Yields.next (.same R (v':=.func fn (first.map ec) (captured.map ec)) (Sem.run_pure ..) (.func fn h1.1 ae.1 h1.2 ae.2))
 ·rename_i t r dM
  simp only [dM]
  exact (am3 (JJ ad) R (Yg dz r)).next
 ·rename_i t l c dM
  simp only [dM]
  exact (amJ (JJ ad) R (dz l) (dz c)).next
 ·rename_i t x lo hi mx dM
  simp only [dM]
  obtain ⟨aN,he⟩:=zJ ad
  subst he
  exact ((amI aN R (dz x) (Yg dz lo) (Yg dz hi) (Yg dz mx)).mD R).next
 ·rename_i s x k dM
  simp only [dM]
  obtain ⟨aN,he⟩:=zJ ad
  subst he
  exact ((amG aN R (dz x)).mD R).next
 ·rename_i t x k dM
  simp only [dM]
  obtain ⟨aN,he⟩:=zJ ad
  subst he
  exact ((amV aN R (dz x)).mD R).next
 ·rename_i t x rf dM
  simp only [dM]
  obtain ⟨aN,he⟩:=zJ ad
  subst he
  exact ((amH aN R (dz x) (dz rf)).mD R).next
 ·rename_i t x rf dM
  simp only [dM]
  obtain ⟨aN,he⟩:=zJ ad
  subst he
  exact ((amW aN R (dz x) (dz rf)).mD R).next
 ·rename_i t x rf ok dM
  simp only [dM]
  obtain ⟨aN,he⟩:=zJ ad
  subst he
  exact ((am0 aN R (dz x) (dz rf)).mD R).next
 ·rename_i t m k x dM
  simp only [dM]
  obtain ⟨aN,he⟩:=Yf ad
  subst he
  exact .skip (ai2 aN R (dz m) (dz k) (dz x))
 ·rename_i t m k x dM
  simp only [dM]
  obtain ⟨aN,he⟩:=Yf ad
  subst he
  exact .skip (ai2 aN R (dz m) (dz k) (dz x))
 ·rename_i t m k dM
  simp only [dM]
  exact (ani (JJ ad) R (dz m) (dz k)).next
 ·rename_i t m s x dM
  simp only [dM]
  obtain ⟨aN,he⟩:=Yf ad
  subst he
  exact .skip (anj aN R (dz m) (dz s) (dz x))
 ·rename_i t x dM
  simp only [dM]
  exact (am4 (JJ ad) R (dz x)).next
 ·rename_i it dM
  split at ad<;>simp at ad
 ·rename_i it dM
  simp only [dM]
  obtain ⟨aN,he⟩:=zJ ad
  subst he
  exact ((am5 aN R (dz it)).mD R).next
 ·rename_i x GZ asserted ok dM
  simp only [dM]
  obtain ⟨aN,he⟩:=zJ ad
  subst he
  exact ((amY aN R (dz x)).mD R).next
 ·rename_i t k dM
  simp only [dM]
  split at ad
  case h_2=>cases ad
  rename_i vs o4
  obtain ⟨aN,he⟩:=zJ ad
  subst he
  have ak:=dz t
  rw [o4] at ak
  generalize vl:ec t=dm at ak
  cases ak with
  | tuple bz ak=>
   rename_i nY
   have aH:k<vs.length:=(List.getElem?_eq_some_iff.1 aN).1
   have zF:k<nY.size:=by rw [←bz];exact aH
   refine Yields.next (.same R (v':=nY[k]) ?_ (ak k v _ aN (Array.getElem?_eq_getElem zF)))
   simp [Instr.extract,Array.getElem?_eq_getElem zF]
 ·rename_i c dM
  simp only [dM]
  unfold pe at ad
  split at ad
  ·split at ad<;>simp at ad
  ·rename_i b ZN av
   split at ad
   case h_2=>cases ad
   rename_i u ae hu
   simp at ad;obtain ⟨rfl,rfl⟩:=ad
   have a6:=L1 dz c.args.toList
   have:=ank (args':=c.args.map ec) hu R (by simpa using a6)
   have ar:(do let d ←resolve ec c o.type;invoke d.target d.args)=builtin b c.argTypes o.type (Bc c.args) (c.args.map ec):=by
    simp [resolve,av,invoke]
    rfl
   rw [ar]
   exact this
  ·rename_i JK aC
   split at ad
   case h_2=>simp at ad
   case h_3=>cases ad
   rename_i ca first captured Bd
   split at ad
   ·cases ad
   split at ad
   case h_2=>cases ad
   rename_i u ae hu
   simp at ad
   obtain ⟨rfl,rfl⟩:=ad
   have aN:=dz JK
   rw [Bd] at aN
   generalize Be:ec JK=v' at aN
   cases aN with
   | func fn gm jb ak bs=>
   rename_i ui pg
   have a6:=L1 dz c.args.toList
   have ff:bx ρ first ui.toList:=hd.list ⟨gm,ak⟩
   have eY:bx ρ captured pg.toList:=hd.list ⟨jb,bs⟩
   have wX:=ff.append (a6.append eY)
   obtain ⟨dY,w',aU,Ed,ij⟩:=anf (args':=ui++c.args.map ec++pg) hu R (by simpa using wX)
   refine ⟨ρ,dY,w',.inl ?_,Ed,ij,Ren.le.refl ρ⟩
   simp [resolve,aC,Be,Deferred.ofValue,invoke]
   simpa using aU
  ·obtain ⟨_,_,_,_,_,bN⟩:=Rg ad;cases bN
 ·split at ad<;>simp at ad
 ·cases ad
theorem anm {P:Program} {o:Oper} {bV:Operand→V} {ec:Operand→Value} {h:J} {g:FuncId} {args:List V} (ad:gS P o bV h=some (.call g args)) {ρ:Ren} {B:Nat} {bg w:World}
  (R:bt ρ B bg h w) (dz:∀ x,a1 ρ (bV x) (ec x)):∃ args',(execOp ec o).run P w=.ok (.enter g args') w∧bx ρ args args'.toList:=by
 have key:∃ c,o.op=.call c∧pe P c o.type bV h=some (.call g args):=by
  unfold gS at ad
  split at ad
  all_goals first
   | (rename_i c dM;exact ⟨c,dM,ad⟩)
   | (simp [jW,lM,x2] at ad;done)
   | (unfold jW at ad;split at ad<;>simp at ad;done)
   | (unfold lM at ad;split at ad<;>simp at ad;done)
   | (unfold x2 at ad;split at ad<;>simp at ad;done)
   | (split at ad<;>(try (unfold jW at ad;split at ad))<;>simp at ad;done)
   | (split at ad<;>(try (unfold lM at ad;split at ad))<;>simp at ad;done)
 obtain ⟨c,dM,aF⟩:=key
 unfold pe at aF
 split at aF
 ·split at aF<;>simp at aF
 ·split at aF<;>simp at aF
 ·rename_i JK aC
  split at aF
  case h_2=>simp at aF
  case h_3=>cases aF
  rename_i ca first captured Bd
  split at aF
  case isFalse=>split at aF<;>simp at aF
  rename_i jX
  simp at aF
  obtain ⟨rfl,rfl⟩:=aF
  have aN:=dz JK
  rw [Bd] at aN
  generalize Be:ec JK=v' at aN
  cases aN with
  | func fn gm jb ak bs=>
  rename_i ui pg
  have a6:=L1 dz c.args.toList
  refine ⟨ui++c.args.map ec++pg,?_,?_⟩
  ·unfold bK at jX
   split at jX
   case h_2=>cases jX
   rename_i fn ph
   simp only [Bool.and_eq_true,bne_iff_ne,ne_eq] at jX
   have av:fn.body.isNone=false:=by cases av:fn.body<;>simp_all
   unfold execOp
   simp only [dM]
   simp [resolve,aC,Be,Deferred.ofValue,invoke,callFunc,ph,jX.2]
   intro U
   simp [U] at jX
  ·have h1:bx ρ first ui.toList:=hd.list ⟨gm,ak⟩
   have ae:bx ρ captured pg.toList:=hd.list ⟨jb,bs⟩
   have:=h1.append (a6.append ae)
   simpa using this
 ·rename_i r name jh
  obtain ⟨t,v,f,aU,hm,bN⟩:=Rg aF
  simp only [Step.call.injEq] at bN
  obtain ⟨rfl,rfl⟩:=bN
  have aN:=dz r
  rw [aU] at aN
  generalize Be:ec r=v' at aN
  cases aN with
  | iface t ak=>
  rename_i dm
  have a6:=L1 dz c.args.toList
  refine ⟨#[dm]++c.args.map ec,?_,?_⟩
  ·have jX:=hm.2
   unfold bK at jX
   split at jX
   case h_2=>cases jX
   rename_i fn ph
   simp only [Bool.and_eq_true,bne_iff_ne,ne_eq] at jX
   have av:fn.body.isNone=false:=by cases av:fn.body<;>simp_all
   unfold execOp
   simp only [dM]
   have aC:(callFunc g (#[dm]++c.args.map ec)).run P w=.ok (.enter g (#[dm]++c.args.map ec)) w:=by
    simp [callFunc,ph,jX.2]
    intro U
    simp [U] at jX
   have he:(Array.extract (#[Value.iface t dm]++c.args.map ec) 1 (#[Value.iface t dm]++c.args.map ec).size)=c.args.map ec:=by
    apply Array.ext'
    simp
    exact List.take_of_length_le (by simp)
   have h0:(#[Value.iface t dm]++c.args.map ec)[0]?=some (.iface t dm):=by rw [Array.getElem?_append_left (show 0<1 by decide)];rfl
   have ar:(do let d ←resolve ec c o.type;invoke d.target d.args)=callMethod (.iface t dm) name (c.args.map ec):=by
    simp only [resolve,jh,Be,pure_bind,invoke,h0,he]
   rw [ar]
   simp only [callMethod,Sem.run_bind,run_program,Result.andThen_ok,hm.1,aC]
  ·simpa using bx.cons ak a6
theorem ann {P:Program} {o:Oper} {bV:Operand→V} {ec:Operand→Value} {h:J} {l:Nat} {args:List V} (ad:gS P o bV h=some (.round l args)) {ρ:Ren} {B:Nat} {bg w:World}
  (R:bt ρ B bg h w) (dz:∀ x,a1 ρ (bV x) (ec x)):∃ args',execOp ec o=Instr.yield l args'∧bx ρ args args'.toList:=by
 have key:∃ c,o.op=.call c∧pe P c o.type bV h=some (.round l args):=by
  unfold gS at ad
  split at ad
  all_goals first
   | (rename_i c dM;exact ⟨c,dM,ad⟩)
   | (simp [jW,lM,x2] at ad;done)
   | (unfold jW at ad;split at ad<;>simp at ad;done)
   | (unfold lM at ad;split at ad<;>simp at ad;done)
   | (unfold x2 at ad;split at ad<;>simp at ad;done)
   | (split at ad<;>(try (unfold jW at ad;split at ad))<;>simp at ad;done)
   | (split at ad<;>(try (unfold lM at ad;split at ad))<;>simp at ad;done)
 obtain ⟨c,dM,aF⟩:=key
 unfold pe at aF
 split at aF
 ·split at aF<;>simp at aF
 ·split at aF<;>simp at aF
 ·rename_i JK aC
  split at aF
  case h_1=>split at aF<;>(try (split at aF))<;>simp at aF
  case h_3=>cases aF
  rename_i ck Bd
  simp at aF
  obtain ⟨rfl,rfl⟩:=aF
  have aN:=dz JK
  rw [Bd] at aN
  generalize Be:ec JK=v' at aN
  cases aN with
  | func fn gm jb ak bs=>
  rename_i ui pg
  have a6:=L1 dz c.args.toList
  have h1:ui=#[]:=Array.eq_empty_of_size_eq_zero gm.symm
  have ae:pg=#[]:=Array.eq_empty_of_size_eq_zero jb.symm
  subst h1 ae
  refine ⟨c.args.map ec,?_,by simpa using a6⟩
  unfold execOp
  simp only [dM]
  simp [resolve,aC,Be,Deferred.ofValue,invoke]
 ·obtain ⟨_,_,_,_,_,bN⟩:=Rg aF;cases bN
theorem ano {P:Program} {o:Oper} {bV:Operand→V} {ec:Operand→Value} {h:J} {l:List (V×J)} (ad:gS P o bV h=some (.alts l)) {ρ:Ren} {B:Nat} {bg w:World}
  (R:bt ρ B bg h w) (dz:∀ x,a1 ρ (bV x) (ec x)):∃ v h',(v,h') ∈ l∧pY P (execOp ec o) ρ B bg w v h':=by
 have key:∃ it,o.op=.next it false∧HK (bV it) h=some l:=by
  unfold gS at ad
  split at ad
  all_goals first
   | (rename_i it dM;cases aG:HK (bV it) h with
     | none=>simp [aG] at ad
     | some ck=>simp [aG] at ad;subst ad;exact ⟨it,dM,aG⟩)
   | (simp [jW,lM,x2] at ad;done)
   | (unfold jW at ad;split at ad<;>simp at ad;done)
   | (unfold lM at ad;split at ad<;>simp at ad;done)
   | (unfold x2 at ad;split at ad<;>simp at ad;done)
   | (unfold pe at ad;split at ad<;>(split at ad)<;>simp at ad;done)
   | (split at ad<;>(try (unfold jW at ad;split at ad))<;>simp at ad;done)
   | (split at ad<;>(try (unfold lM at ad;split at ad))<;>simp at ad;done)
   | (
     exfalso;unfold pe at ad;split at ad
     ·split at ad<;>simp at ad
     ·split at ad<;>simp at ad
     ·split at ad
      ·split at ad
       ·simp at ad
       ·split at ad<;>simp at ad
      ·simp at ad
      ·cases ad
     ·obtain ⟨_,_,_,_,_,bN⟩:=Rg ad;cases bN)
 obtain ⟨it,dM,aG⟩:=key
 obtain ⟨v,h',hm,bs⟩:=am6 (P:=P) (ty:=o.type) aG R (dz it)
 refine ⟨v,h',hm,?_⟩
 unfold execOp
 simp only [dM]
 exact bs.next
theorem anp {P:Program} {o:Oper} {bV:Operand→V} {ec:Operand→Value} {h:J} (ad:gS P o bV h=some .panic) {ρ:Ren} {B:Nat} {bg w:World}
  (R:bt ρ B bg h w) (dz:∀ x,a1 ρ (bV x) (ec x)):∃ t v',(execOp ec o).run P w=.halt (.panic (.iface t v')) w:=by
 have key:(∃ x,o.op=.panic x∧∃ t v,bV x=.iface t v)∨(∃ c x,o.op=.call c∧c.callee=.builtin .panic∧c.args.toList=[x]∧∃ t v,bV x=.iface t v):=by
  unfold gS at ad
  split at ad
  all_goals first
   | (rename_i x dM;cases ak:bV x<;>simp [ak] at ad;exact .inl ⟨x,dM,_,_,ak⟩)
   | (simp [jW,lM,x2] at ad;done)
   | (unfold jW at ad;split at ad<;>simp at ad;done)
   | (unfold lM at ad;split at ad<;>simp at ad;done)
   | (unfold x2 at ad;split at ad<;>simp at ad;done)
   | (split at ad<;>(try (unfold jW at ad;split at ad))<;>simp at ad;done)
   | (split at ad<;>(try (unfold lM at ad;split at ad))<;>simp at ad;done)
   | (
     rename_i c dM
     unfold pe at ad
     split at ad
     ·rename_i jh
      split at ad
      ·rename_i t v heq
       cases aM:c.args.toList with
       | nil=>simp [aM] at heq
       | cons x r=>
        rw [aM] at heq
        simp at heq
        obtain ⟨h1,rfl⟩:=heq
        exact .inr ⟨c,x,dM,jh,aM,t,v,h1⟩
      ·cases ad
     ·split at ad<;>simp at ad
     ·split at ad
      ·split at ad
       ·simp at ad
       ·split at ad<;>simp at ad
      ·simp at ad
      ·cases ad
     ·obtain ⟨_,_,_,_,_,bN⟩:=Rg ad;cases bN)
 have run:∀ x t v,bV x=.iface t v→∃ t v',ec x=.iface t v'∧(Instr.panic (ec x)).run P w=.halt (.panic (.iface t v')) w:=fun x t v he=>by
  have ak:=dz x
  rw [he] at ak
  generalize ec x=dm at ak
  cases ak with
  | iface t aN=>exact ⟨t,_,rfl,by simp [Instr.panic,goPanic,Sem.run]⟩
 rcases key with ⟨x,dM,t,v,he⟩ | ⟨c,x,dM,jh,qE,t,v,he⟩
 ·obtain ⟨t,v',h1,ae⟩:=run x t v he
  refine ⟨t,v',?_⟩
  unfold execOp
  simp [dM,ae]
 ·obtain ⟨t,v',h1,ae⟩:=run x t v he
  refine ⟨t,v',?_⟩
  have a6:c.args=#[x]:=by apply Array.ext';simpa using qE
  unfold execOp
  simp [dM,resolve,jh,a6,invoke,builtin,ae]
class Rj where
 prop:Prop
def x3 [p:Rj]:Prop:=p.prop
theorem au {p:Prop} (h:p):@x3 ⟨p⟩:=h
inductive ed where
 | normal
 | exit (id:Nat)
 | goto (l:Nat)
 | ret
 | panic
def JL (nv:List PanicEntry):Prop:=∃ t v',nv=[{ v:=.iface t v',recovered:=false }]
def wg:ed→Exit→Prop
 | .normal,.normal=>True
 | .exit i,.exit j=>i=j
 | .goto i,.goto j=>i=j
 | .ret,.ret=>True
 | .panic,.panic nv=>JL nv
 | _,_=>False
def di (P:Program) (f:FuncId) (args:List V) (h:J) (R:V→J→Prop) (E:J→Prop):Prop :=
 ∀ (ρ:Ren) (B:Nat) (bg w:World) (args':Array Value),bt ρ B bg h w→bx ρ args args'.toList →
  Calls P f args' w fun e w'=>(∃ (ρ':Ren) (r:V) (dY:Value) (h':J),e=.returned dY∧a1 ρ' r dY∧bt ρ' B bg h' w'∧ρ.le ρ'∧R r h') ∨
   (∃ (ρ':Ren) (nv:List PanicEntry) (h':J),e=.panicked nv∧JL nv∧bt ρ' B bg h' w'∧ρ.le ρ'∧E h')
def ab (P:Program) (f:FuncId) (args:List V) (h:J) (R:V→J→Prop):Prop:=di P f args h R fun _=>False
def oH (P:Program) (l:Nat) (args:List V) (h:J) (R:V→J→Prop):Prop :=
 ∀ (ρ:Ren) (B:Nat) (bg w:World) (args':Array Value),bt ρ B bg h w→bx ρ args args'.toList →
  ∃ fn tmps assign body,(Instr.yield l args').run P w=.ok (.round l fn tmps assign body) w∧RoundIn Fence.wide 0 P l fn tmps assign body w fun e w'=>
   ∃ (ρ':Ren) (r:V) (dY:Value) (h':J),e=.returned dY∧a1 ρ' r dY∧bt ρ' B bg h' w'∧ρ.le ρ'∧R r h'
theorem oH.mono {P:Program} {l:Nat} {args:List V} {h:J} {R ij:V→J→Prop} (aF:oH P l args h R) (aU:∀ r h',R r h'→ij r h'):oH P l args h ij :=
 fun ρ B bg w args' hw a6=>let ⟨fn,tmps,assign,body,h1,ae⟩:=aF ρ B bg w args' hw a6
  ⟨fn,tmps,assign,body,h1,ae.mono fun _ _ ⟨ρ',r,dY,h',ar,aT,cg,h8,hQ⟩=>⟨ρ',r,dY,h',ar,aT,cg,h8,aU _ _ hQ⟩⟩
structure zu (F:Fence):Prop where
 fn:∀ f,F.fn f
 depth:F.depth=none
 calls:∀ {n:Nat} {P:Program} {f:FuncId} {args:Array Value} {w:World} {R:Ending→World→Prop},Calls P f args w R→CallsIn F n P f args w R
 round:∀ {n:Nat} {P:Program} {l:Nat} {f:FuncId} {tmps:Array Value} {a b:Code} {w:World} {R:Ending→World→Prop},RoundIn Fence.wide 0 P l f tmps a b w R→RoundIn F n P l f tmps a b w R
theorem zu.wide:zu Fence.wide:=⟨fun _=>trivial,rfl,fun h=>callsIn_wide.2 h,fun h=>⟨trivial,fun c cs _=>h.2 c cs (room_wide _)⟩⟩
theorem zu.inRound (l:Nat):zu (Fence.wide.inRound l):=⟨fun _=>trivial,rfl,fun {n P f args w R} h=>show CallsIn Fence.wide n P f args w R from callsIn_wide.2 h,fun h=>⟨trivial,fun c cs _=>h.2 c cs (room_wide _)⟩⟩
theorem di.mono {P:Program} {f:FuncId} {args:List V} {h:J} {R ij:V→J→Prop} {E Rk:J→Prop} (aF:di P f args h R E) (aU:∀ r h',R r h'→ij r h') (he:∀ h',E h'→Rk h'):di P f args h ij Rk :=
 fun ρ B bg w args' hw a6=>(aF ρ B bg w args' hw a6).mono fun _ _ U=>by
  rcases U with ⟨ρ',r,dY,h',h1,ae,aA,bk,bN⟩ | ⟨ρ',nv,h',h1,ae,aA,bk,bN⟩
  ·exact .inl ⟨ρ',r,dY,h',h1,ae,aA,bk,aU _ _ bN⟩
  ·exact .inr ⟨ρ',nv,h',h1,ae,aA,bk,he _ bN⟩
theorem ab.mono {P:Program} {f:FuncId} {args:List V} {h:J} {R ij:V→J→Prop} (aF:ab P f args h R) (aU:∀ r h',R r h'→ij r h'):ab P f args h ij :=
 di.mono aF aU fun _ h=>h
theorem ab.e {P:Program} {f:FuncId} {args:List V} {h:J} {R:V→J→Prop} {E:J→Prop} (aF:ab P f args h R):di P f args h R E :=
 di.mono aF (fun _ _ h=>h) fun _ h=>h.elim
def qF (n:Nat) (B:Nat) (bg:World) (ρ:Ren) (Q:ed→aE→J→Prop) (e:Exit) (a:Act) (w:World):Prop :=
 ∃ (ρ':Ren) (x:ed) (f:aE) (h:J),wg x e∧bt ρ' B bg h w∧hN ρ' n f a∧ρ.le ρ'∧Q x f h
theorem qF.le {n B:Nat} {bg:World} {ρ ρ1:Ren} (hle:ρ.le ρ1) {Q:ed→aE→J→Prop} {e:Exit} {a:Act} {w:World} (h:qF n B bg ρ1 Q e a w):qF n B bg ρ Q e a w :=
 let ⟨ρ',x,f,h',ak,hw,aC,aM,af⟩:=h
 ⟨ρ',x,f,h',ak,hw,aC,hle.trans aM,af⟩
def aP (P:Program) (n:Nat) (c:Code) (Q:ed→aE→J→Prop) (f:aE) (h:J):Prop :=
 ∀ (ρ:Ren) (B:Nat) (bg:World) (a:Act) (w:World),bt ρ B bg h w→hN ρ n f a→c.wp P (qF n B bg ρ Q) a w
theorem aP.mono {P:Program} {n:Nat} {c:Code} {Q HM:ed→aE→J→Prop} {f:aE} {h:J} (ad:aP P n c Q f h) (af:∀ e f h,Q e f h→HM e f h):aP P n c HM f h :=
 fun ρ B bg a w hw aC=>wp_mono (ad ρ B bg a w hw aC) fun _ _ _ ⟨ρ',x,cx,h',ak,cY,dp,aM,e0⟩=>⟨ρ',x,cx,h',ak,cY,dp,aM,af _ _ _ e0⟩
def sR (f:aE) (h:J) (f2:aE) (ae:J):Prop :=
 ∀ (ρ:Ren) (B:Nat) (bg w:World) (n:Nat) (a:Act),bt ρ B bg h w→hN ρ n f a→∃ ρ',ρ.le ρ'∧bt ρ' B bg ae w∧hN ρ' n f2 a
theorem aP.cast {P:Program} {n:Nat} {c:Code} {Q:ed→aE→J→Prop} {f f2:aE} {h ae:J} (aF:sR f h f2 ae) (ad:aP P n c Q f2 ae):aP P n c Q f h :=
 fun ρ B bg a w hw aC=>let ⟨ρ',hle,cY,dp⟩:=aF ρ B bg w n a hw aC;wp_mono (ad ρ' B bg a w cY dp) fun _ _ _ aW=>aW.le hle
def aK (r:V) (h:J) (eb:V) (ae:J):Prop :=
 ∀ (ρ:Ren) (B:Nat) (bg w:World) (dY:Value),bt ρ B bg h w→a1 ρ r dY→∃ ρ',ρ.le ρ'∧bt ρ' B bg ae w∧a1 ρ' eb dY
theorem di.cast {P:Program} {f:FuncId} {args:List V} {h:J} {R:V→J→Prop} {E:J→Prop} (aF:di P f args h (fun r h'=>∃ eb ae,aK r h' eb ae∧R eb ae) E):di P f args h R E :=
 fun ρ B bg w args' hw a6=>(aF ρ B bg w args' hw a6).mono fun _ _ U=>by
  rcases U with ⟨ρ',r,dY,h',h1,ae,aA,bk,eb,jn,HN,e1⟩ | U
  ·obtain ⟨ρ2,hle,oG,JM⟩:=HN ρ' B bg _ dY aA ae
   exact .inl ⟨ρ2,eb,dY,jn,h1,JM,oG,bk.trans hle,e1⟩
  ·exact .inr U
theorem ab.cast {P:Program} {f:FuncId} {args:List V} {h:J} {R:V→J→Prop} (aF:ab P f args h (fun r h'=>∃ eb ae,aK r h' eb ae∧R eb ae)):ab P f args h R:=di.cast aF
def andThen (K:aE→J→Prop) (Q:ed→aE→J→Prop):ed→aE→J→Prop
 | .normal,f,h=>K f h
 | e,f,h=>Q e f h
theorem aP.seq {P:Program} {n:Nat} {x y:Code} {Q:ed→aE→J→Prop} {f:aE} {h:J} (ad:aP P n x (andThen (aP P n y Q) Q) f h):aP P n (.seq x y) Q f h:=by
 intro ρ B bg a w hw aC
 refine wp_seq (wp_mono (ad ρ B bg a w hw aC) fun e mq w' ⟨ρ',x,cx,h',ak,cY,dp,aM,e0⟩=>?_)
 cases x<;>cases e<;>simp only [wg] at ak
 ·exact wp_mono (e0 ρ' B bg mq w' cY dp) fun _ _ _ aW=>aW.le aM
 ·exact ⟨ρ',_,cx,h',by exact ak,cY,dp,aM,e0⟩
 ·exact ⟨ρ',_,cx,h',by exact ak,cY,dp,aM,e0⟩
 ·exact ⟨ρ',.ret,cx,h',trivial,cY,dp,aM,e0⟩
 ·exact ⟨ρ',.panic,cx,h',by exact ak,cY,dp,aM,e0⟩
theorem aP.cond {P:Program} {n:Nat} {c:Operand} {x y:Code} {Q:ed→aE→J→Prop} {f:aE} {h:J} {t:Bool} (aF:f.eval h c=.bool t)
  (ad:aP P n (if t then x else y) Q f h):aP P n (.cond c x y) Q f h:=by
 intro ρ B bg a w hw aC
 have aN:=aC.eval hw.heap c
 rw [aF] at aN
 exact wp_cond (D1 aN rfl) (ad ρ B bg a w hw aC)
def PX (id:Nat) (Q:ed→aE→J→Prop):ed→aE→J→Prop
 | .exit j,f,h=>if j=id then Q .normal f h else Q (.exit j) f h
 | e,f,h=>Q e f h
theorem aP.block {P:Program} {n id:Nat} {c:Code} {Q:ed→aE→J→Prop} {f:aE} {h:J} (ad:aP P n c (PX id Q) f h):aP P n (.block id c) Q f h:=by
 intro ρ B bg a w hw aC
 refine wp_block (wp_mono (ad ρ B bg a w hw aC) fun e mq w' ⟨ρ',x,cx,h',ak,cY,dp,aM,e0⟩=>?_)
 cases x<;>cases e<;>simp only [wg] at ak
 ·exact ⟨ρ',.normal,cx,h',trivial,cY,dp,aM,e0⟩
 ·subst ak
  simp only [PX] at e0
  simp only [Exit.inBlock]
  split
  ·rename_i he
   simp only [he,if_true] at e0
   exact ⟨ρ',.normal,cx,h',trivial,cY,dp,aM,e0⟩
  ·rename_i he
   simp only [he,if_false] at e0
   exact ⟨ρ',.exit _,cx,h',rfl,cY,dp,aM,e0⟩
 ·exact ⟨ρ',.goto _,cx,h',ak,cY,dp,aM,e0⟩
 ·exact ⟨ρ',.ret,cx,h',trivial,cY,dp,aM,e0⟩
 ·exact ⟨ρ',.panic,cx,h',ak,cY,dp,aM,e0⟩
theorem aP.skip {P:Program} {n:Nat} {Q:ed→aE→J→Prop} {f:aE} {h:J} (af:Q .normal f h):aP P n .skip Q f h :=
 fun ρ _ _ _ _ hw aC=>wp_skip ⟨ρ,.normal,f,h,trivial,hw,aC,Ren.le.refl ρ,af⟩
theorem aP.label {P:Program} {n l:Nat} {Q:ed→aE→J→Prop} {f:aE} {h:J} (af:Q .normal f h):aP P n (.label l) Q f h :=
 fun ρ _ _ _ _ hw aC=>wp_label ⟨ρ,.normal,f,h,trivial,hw,aC,Ren.le.refl ρ,af⟩
theorem aP.exit {P:Program} {n id:Nat} {Q:ed→aE→J→Prop} {f:aE} {h:J} (af:Q (.exit id) f h):aP P n (.exit id) Q f h :=
 fun ρ _ _ _ _ hw aC=>wp_exit ⟨ρ,.exit id,f,h,rfl,hw,aC,Ren.le.refl ρ,af⟩
theorem aP.goto {P:Program} {n l:Nat} {Q:ed→aE→J→Prop} {f:aE} {h:J} (af:Q (.goto l) f h):aP P n (.goto l) Q f h :=
 fun ρ _ _ _ _ hw aC=>wp_goto ⟨ρ,.goto l,f,h,rfl,hw,aC,Ren.le.refl ρ,af⟩
theorem aP.ret {P:Program} {n:Nat} {Q:ed→aE→J→Prop} {f:aE} {h:J} (af:Q .ret f h):aP P n .ret Q f h :=
 fun ρ _ _ _ _ hw aC=>wp_ret ⟨ρ,.ret,f,h,trivial,hw,aC,Ren.le.refl ρ,af⟩
theorem aP.loop {P:Program} {n:Nat} {c:Code} {Q:ed→aE→J→Prop} {f:aE} {h:J} (Yi:aE→J→Prop) (μ:aE→J→Nat) (h0:Yi f h)
  (round:∀ f h,Yi f h→aP P n c (andThen (fun cx h'=>@x3 ⟨Yi cx h'∧μ cx h'<μ f h⟩) Q) f h):aP P n (.loop c) Q f h:=by
 intro ρ B bg a w hw aC
 have key:∀ m f h,Yi f h→μ f h<m→∀ ρ1:Ren,ρ.le ρ1→∀ a w,bt ρ1 B bg h w→hN ρ1 n f a→Code.rounds P c (qF n B bg ρ Q) m a w:=by
  intro m
  induction m with
  | zero=>intro f h _ hm;omega
  | succ m ih=>
   intro f h Rl hm ρ1 hle a w hw aC
   rw [rounds_succ]
   refine wp_mono (round f h Rl ρ1 B bg a w hw aC) fun e mq w' ⟨ρ',x,cx,h',ak,cY,dp,aM,e0⟩=>?_
   cases x<;>cases e<;>simp only [wg] at ak
   ·exact ih cx h' e0.1 (by have:=e0.2;omega) ρ' (hle.trans aM) mq w' cY dp
   ·exact ⟨ρ',.exit _,cx,h',ak,cY,dp,hle.trans aM,e0⟩
   ·exact ⟨ρ',.goto _,cx,h',ak,cY,dp,hle.trans aM,e0⟩
   ·exact ⟨ρ',.ret,cx,h',trivial,cY,dp,hle.trans aM,e0⟩
   ·exact ⟨ρ',.panic,cx,h',ak,cY,dp,hle.trans aM,e0⟩
 exact wp_loop_rounds (μ f h+1) (key _ f h h0 (Nat.lt_succ_self _) ρ (Ren.le.refl ρ) a w hw aC)
theorem aP.bG {P:Program} {n:Nat} {c:Code} {Q:ed→aE→J→Prop} {f:aE} {h:J} {α:Type} (Yi:α→aE→J→Prop) (μ:α→Nat) (eo:α) (h0:Yi eo f h)
  (round:∀ x f h,Yi x f h→aP P n c (andThen (fun cx h'=>@x3 ⟨∃ y,Yi y cx h'∧μ y<μ x⟩) Q) f h):aP P n (.loop c) Q f h:=by
 intro ρ B bg a w hw aC
 have key:∀ m x f h,Yi x f h→μ x<m→∀ ρ1:Ren,ρ.le ρ1→∀ a w,bt ρ1 B bg h w→hN ρ1 n f a→Code.rounds P c (qF n B bg ρ Q) m a w:=by
  intro m
  induction m with
  | zero=>intro x f h _ hm;omega
  | succ m ih=>
   intro x f h Rl hm ρ1 hle a w hw aC
   rw [rounds_succ]
   refine wp_mono (round x f h Rl ρ1 B bg a w hw aC) fun e mq w' ⟨ρ',dm,cx,h',ak,cY,dp,aM,e0⟩=>?_
   cases dm<;>cases e<;>simp only [wg] at ak
   ·obtain ⟨y,bs,aH⟩:=e0
    exact ih y cx h' bs (by omega) ρ' (hle.trans aM) mq w' cY dp
   ·exact ⟨ρ',.exit _,cx,h',ak,cY,dp,hle.trans aM,e0⟩
   ·exact ⟨ρ',.goto _,cx,h',ak,cY,dp,hle.trans aM,e0⟩
   ·exact ⟨ρ',.ret,cx,h',trivial,cY,dp,hle.trans aM,e0⟩
   ·exact ⟨ρ',.panic,cx,h',ak,cY,dp,hle.trans aM,e0⟩
 exact wp_loop_rounds (μ eo+1) (key _ eo f h h0 (Nat.lt_succ_self _) ρ (Ren.le.refl ρ) a w hw aC)
def mr (ops:List Oper) (g:Option (Nat×Bool)) (f:aE):Option Bool :=
 match g with
 | none=>some true
 | some (j,want)=>match (ops[j]?).bind (·.dst) with
  | some d=>match f d with
   | .top=>none
   | .bool b=>some (b==want)
   | _=>some false
  | none=>some false
theorem Yj {ρ:Ren} {n:Nat} {f:aE} {a:Act} (aC:hN ρ n f a) (ops:Array Oper) (o:Oper) {b:Bool} (av:mr ops.toList o.guard f=some b):Region.wanted o (yielded ops a.tmps)=b:=by
 unfold Region.wanted
 unfold mr at av
 cases aB:o.guard with
 | none=>simp [aB] at av;simp [av]
 | some p=>
  obtain ⟨j,want⟩:=p
  simp only [aB] at av⊢
  have e:ops.toList[j]?=ops[j]?:=by simp
  rw [e] at av
  unfold yielded
  cases bb:(ops[j]?).bind (·.dst) with
  | none=>simp [bb] at av;subst av;rfl
  | some d=>
   simp only [bb] at av⊢
   have aN:=aC.tmps d
   cases bw:a.tmps[d]? with
   | none=>
    have hu:a.tmps.getD d undef=undef:=by simp [bw]
    rw [hu] at aN
    generalize f d=x at aN av
    unfold undef at aN
    cases aN with
    | top=>simp at av
    | tuple ad ak=>simp at av;subst av;simp [bw]
   | some u=>
    have hu:a.tmps.getD d undef=u:=by simp [bw]
    rw [hu] at aN
    generalize f d=x at aN av
    cases aN<;>simp at av<;>subst av<;>simp [bw]
def mV (P:Program) (o:Oper) (next exc:aE→J→Prop) (f:aE) (h:J):Prop :=
 match gS P o (f.eval h) h with
 | some (.val v h')=>next (f.put o.dst v) h'
 | some (.call g args)=>di P g args h (fun r h'=>next (f.put o.dst r) h') (fun h'=>exc f h')
 | some (.alts l)=>∀ v h',(v,h') ∈ l→next (f.put o.dst v) h'
 | some .panic=>exc f h
 | some (.round l args)=>oH P l args h (fun r h'=>next (f.put o.dst r) h')
 | none=>False
def so (P:Program) (ops:List Oper):List Oper→(aE→J→Prop)→(aE→J→Prop)→aE→J→Prop
 | [],K,_,f,h=>K f h
 | o::rest,K,E,f,h=>match mr ops o.guard f with
  | some true=>mV P o (so P ops rest K E) E f h
  | some false=>so P ops rest K E (f.put o.dst (.tuple [])) h
  | none=>False
def codeOk (n:Nat):Code→Bool
 | .region _ ops _=>ops.toList.all fun o=>zC n o.dst
 | .seq a b=>codeOk n a&&codeOk n b
 | .cond c a b=>codeOk n a&&codeOk n b
 | .block _ b=>codeOk n b
 | .loop b=>codeOk n b
 | .scope b=>codeOk n b
 | .rangeFunc ..=>false
 | .refuse _=>false
 | _=>true
theorem anq {P:Program} {o:Oper} {bV:Operand→V} {h:J} {s:Step} (ad:gS P o bV h=some s) (ro:Option Nat) (ec:Operand→Value):o.semAt ro ec=execOp ec o :=
 Oper.semAt_eq ro ec o fun c aF=>by unfold gS at ad;rw [aF] at ad;simp at ad
theorem aaW {F:Fence} (jY:zu F) {rm:Nat} {P:Program} {n:Nat} {o:Oper} (bb:zC n o.dst=true) {ρ0 ρ:Ren} {B:Nat} {bg w:World} {f:aE} {h:J} {a:Act} {next exc:aE→J→Prop}
  {next':Act→World→Prop} {HM:Exit→Act→World→Prop} (hle:ρ0.le ρ) (hw:bt ρ B bg h w) (aC:hN ρ n f a) (af:mV P o next exc f h)
  (vm:∀ ρ f h a w,ρ0.le ρ→bt ρ B bg h w→hN ρ n f a→next f h→next' a w) (Rm:∀ ρ f h a w nv,ρ0.le ρ→bt ρ B bg h w→hN ρ n f a→JL nv→exc f h→HM (.panic nv) a w) :
  o.wpIn F rm P a w next' HM:=by
 unfold mV at af
 unfold Oper.wpIn
 refine ⟨fun f _=>jY.fn f,?_⟩
 have dz:=aC.eval hw.heap
 have ZO:F.depth.isSome=true→1≤rm:=fun U=>by rw [jY.depth] at U;cases U
 have fin:∀ v h',pY P (execOp a.eval o) ρ B bg w v h'→next (f.put o.dst v) h'→Oper.uponIn F rm P o a next' HM ((execOp a.eval o).run P w):=fun v h' bs aG=>by
  obtain ⟨ρ',v',w',eg,aN,cY,kK⟩:=bs
  rcases eg with eg | ⟨eg,rfl⟩
  ·rw [eg,Oper.uponIn_value]
   exact vm ρ' _ _ _ _ (hle.trans kK) cY ((aC.mono kK).put aN o.dst bb) aG
  ·rw [eg,Oper.uponIn_skip]
   exact vm ρ' _ _ _ _ (hle.trans kK) cY ((aC.mono kK).put aN o.dst bb) aG
 cases he:gS P o (f.eval h) h with
 | none=>simp [he] at af
 | some s=>
  rw [anq he]
  cases s with
  | val v h'=>simp only [he] at af;exact fin v h' (anl he hw dz) af
  | alts l=>
   simp only [he] at af
   obtain ⟨v,h',hm,bs⟩:=ano he hw dz
   exact fin v h' bs (af v h' hm)
  | panic=>
   simp only [he] at af
   obtain ⟨t,v',eg⟩:=anp he hw dz
   rw [eg,Oper.uponIn_panic]
   exact Rm ρ f h a w _ hle hw aC ⟨t,v',rfl⟩ af
  | call g args=>
   simp only [he] at af
   obtain ⟨args',eg,a6⟩:=anm he hw dz
   rw [eg,Oper.uponIn_enter]
   refine ⟨ZO,(jY.calls (af ρ B bg w args' hw a6)).mono fun e w' U=>?_⟩
   rcases U with ⟨ρ',r,dY,h',sY,aN,cY,kK,e1⟩ | ⟨ρ',nv,h',sY,qh,cY,kK,bC⟩
   ·subst sY
    exact vm ρ' _ _ _ _ (hle.trans kK) cY ((aC.mono kK).put aN o.dst bb) e1
   ·subst sY
    exact Rm ρ' f h' a w' nv (hle.trans kK) cY (aC.mono kK) qh bC
  | round l args=>
   simp only [he] at af
   obtain ⟨args',eg,a6⟩:=ann he hw dz
   obtain ⟨fn,tmps,assign,body,bs,aU⟩:=af ρ B bg w args' hw a6
   rw [eg,bs,Oper.uponIn_round]
   refine ⟨ZO,(jY.round aU).mono fun e w' U=>?_⟩
   obtain ⟨ρ',r,dY,h',sY,aN,cY,kK,e1⟩:=U
   subst sY
   exact vm ρ' _ _ _ _ (hle.trans kK) cY ((aC.mono kK).put aN o.dst bb) e1
theorem Yk {F:Fence} (jY:zu F) {rm:Nat} {P:Program} {n:Nat} {ops:Array Oper} (ba:ops.toList.all (fun o=>zC n o.dst)=true) {Q:ed→aE→J→Prop} {ρ0:Ren} {B:Nat} {bg:World} :
  ∀ (l:List Oper) (k:Nat),l=ops.toList.drop k→∀ (ρ:Ren) (f:aE) (h:J) (a:Act) (w:World),ρ0.le ρ→bt ρ B bg h w→hN ρ n f a →
   so P ops.toList l (Q .normal) (Q .panic) f h→wpOpsIn F rm P ops (qF n B bg ρ0 Q) (List.range' k l.length) a w
 | [],k,aM,ρ,f,h,a,w,hle,hw,aC,af=>by
  simp only [List.length_nil,List.range'_zero,wpOpsIn]
  exact ⟨ρ,.normal,f,h,trivial,hw,aC,hle,af⟩
 | o::rest,k,aM,ρ,f,h,a,w,hle,hw,aC,af=>by
  have hk:ops.toList[k]?=some o:=by
   have:=congrArg (·[0]?) aM
   simpa using this.symm
  have lN:rest=ops.toList.drop (k+1):=by
   have:=congrArg List.tail aM
   simpa [List.tail_drop] using this
  have bc:ops[k]?=some o:=by simpa using hk
  have bb:zC n o.dst=true:=(List.all_eq_true.1 ba) o (List.mem_of_getElem? hk)
  simp only [List.length_cons,List.range'_succ,wpOpsIn,bc]
  unfold so at af
  cases wh:mr ops.toList o.guard f with
  | none=>simp [wh] at af
  | some b=>
   rw [Yj aC ops o wh]
   cases b with
   | true=>
    simp only [wh] at af
    simp only [if_true]
    exact aaW jY bb hle hw aC af (fun ρ f h a w hle hw aC aG=>Yk jY ba rest (k+1) lN ρ f h a w hle hw aC aG)
     (fun ρ f h a w nv hle hw aC qh bC=>⟨ρ,.panic,f,h,qh,hw,aC,hle,bC⟩)
   | false=>
    simp only [wh] at af
    simp only [Bool.false_eq_true,if_false]
    exact ⟨fun f _=>jY.fn f,Yk jY ba rest (k+1) lN ρ _ _ _ _ hle hw (aC.put (Ri _) o.dst bb) af⟩
theorem aP.region {P:Program} {n id:Nat} {ops:Array Oper} (ba:ops.toList.all (fun o=>zC n o.dst)=true) {Q:ed→aE→J→Prop} {f:aE} {h:J}
  (af:so P ops.toList ops.toList (Q .normal) (Q .panic) f h):aP P n (.region id ops false) Q f h:=by
 intro ρ B bg a w hw aC
 refine wpIn_wide.1 (wpIn_region (n:=0) ?_)
 have:=Yk zu.wide (rm:=0) (P:=P) ba (ρ0:=ρ) ops.toList 0 (by simp) ρ f h a w (Ren.le.refl ρ) hw aC af
 rwa [Array.length_toList,←List.range_eq_range'] at this
def Pure (P:Program) (ca:FuncId) (args:List V) (h:J) (v:V):Prop:=ab P ca args h fun r h'=>r=v∧h'=h
def HO (P:Program) (o:Oper) (h:J) (f:aE) (v:V):Prop :=
 gS P o (f.eval h) h=some (.val v h)∨∃ g args,gS P o (f.eval h) h=some (.call g args)∧Pure P g args h v
def qK (P:Program) (ops:List Oper) (es:List Nat) (K E:aE→J→Prop):Nat→List Oper→aE→J→Prop
 | _,[],f,h=>K f h
 | k,o::rest,f,h=>if es.contains k then (match mr ops o.guard f with
   | some true=>mV P o (fun cx h'=>qK P ops es K E (k+1) rest cx h') E f h
   | some false=>qK P ops es K E (k+1) rest (f.put o.dst (.tuple [])) h
   | none=>False)
  else (match mr ops o.guard f with
   | some true=>∃ v,HO P o h f v∧qK P ops es K E (k+1) rest (f.put o.dst v) h
   | some false=>qK P ops es K E (k+1) rest (f.put o.dst (.tuple [])) h
   | none=>False)
def xz (P:Program) (n:Nat):Code→(ed→aE→J→Prop)→aE→J→Prop
 | .skip,Q,f,h=>Q .normal f h
 | .region id ops false,Q,f,h=>so P ops.toList ops.toList (Q .normal) (Q .panic) f h
 | .region id ops true,Q,f,h=>aP P n (.region id ops true) Q f h
 | .seq a b,Q,f,h=>xz P n a (andThen (fun f h=>xz P n b Q f h) Q) f h
 | .cond c a b,Q,f,h=>match f.eval h c with
  | .bool true=>xz P n a Q f h
  | .bool false=>xz P n b Q f h
  | _=>False
 | .block id b,Q,f,h=>xz P n b (PX id Q) f h
 | .loop b,Q,f,h=>aP P n (.loop b) Q f h
 | .scope b,Q,f,h=>aP P n (.scope b) Q f h
 | .exit id,Q,f,h=>Q (.exit id) f h
 | .goto l,Q,f,h=>Q (.goto l) f h
 | .label _,Q,f,h=>Q .normal f h
 | .ret,Q,f,h=>Q .ret f h
 | _,_,_,_=>False
theorem L2 {P:Program} {n:Nat}:∀ (c:Code) (Q:ed→aE→J→Prop) (f:aE) (h:J),codeOk n c=true→xz P n c Q f h→aP P n c Q f h
 | .skip,Q,f,h,_,af=>.skip af
 | .region id ops false,Q,f,h,ba,af=>.region (by simpa [codeOk] using ba) af
 | .region id ops true,Q,f,h,_,af=>af
 | .seq a b,Q,f,h,ba,af=>by
  simp only [codeOk,Bool.and_eq_true] at ba
  refine .seq ((L2 a _ f h ba.1 af).mono fun e cx h' U=>?_)
  cases e with
  | normal=>exact L2 b Q cx h' ba.2 U
  | _=>exact U
 | .cond c a b,Q,f,h,ba,af=>by
  simp only [codeOk,Bool.and_eq_true] at ba
  unfold xz at af
  split at af
  ·rename_i aF;exact .cond aF (L2 a Q f h ba.1 af)
  ·rename_i aF;exact .cond aF (L2 b Q f h ba.2 af)
  ·exact af.elim
 | .block id b,Q,f,h,ba,af=>.block (L2 b _ f h (by simpa [codeOk] using ba) af)
 | .loop b,Q,f,h,_,af=>af
 | .scope b,Q,f,h,_,af=>af
 | .exit id,Q,f,h,_,af=>.exit af
 | .goto l,Q,f,h,_,af=>.goto af
 | .label _,Q,f,h,_,af=>.label af
 | .ret,Q,f,h,_,af=>.ret af
 | .rangeFunc ..,Q,f,h,ba,_=>by simp [codeOk] at ba
 | .refuse _,Q,f,h,ba,_=>by simp [codeOk] at ba
def nw (args:List V):aE:=fun t=>args.getD t .top
def vd (P:Program) (f:aE) (h:J):ResultVar→Option V
 | .tmp t=>some (f t)
 | .cell a t=>D3 P t (f a) h
def wY (P:Program) (rs:List ResultVar) (f:aE) (h:J):Option V :=
 match rs with
 | [r]=>vd P f h r
 | _=>match rs.mapM (vd P f h) with
  | some vs=>some (.tuple vs)
  | none=>none
def Cw (P:Program) (fn:Func) (R:V→J→Prop) (E:J→Prop):ed→aE→J→Prop
 | .normal,f,h | .ret,f,h=>match wY P fn.results.toList f h with
  | some r=>R r h
  | none=>False
 | .panic,f,h=>E h
 | _,_,_=>False
theorem anr {P:Program} {ρ:Ren} {B n:Nat} {bg w:World} {f:aE} {h:J} {a:Act} (hw:bt ρ B bg h w) (aC:hN ρ n f a) {g:ResultVar→Sem Value}
  (eO:∀ t,g (.tmp t)=pure (a.tmps.getD t undef)) (lV:∀ c t,g (.cell c t)=(do loadVar t (←asAddr (a.tmps.getD c undef)))) {r:ResultVar} {v:V} (aU:vd P f h r=some v) :
  ∃ v',(g r).run P w=.ok v' w∧a1 ρ v v':=by
 cases r with
 | tmp t=>
  obtain rfl:f t=v:=by simpa [vd] using aU
  rw [eO]
  exact ⟨_,Sem.run_pure ..,aC.tmps t⟩
 | cell c t=>
  simp only [vd] at aU
  obtain ⟨⟨aue,a6⟩,v',eg,aN⟩:=aiM aU hw (aC.tmps c)
  refine ⟨v',?_,aN⟩
  rw [lV]
  rw [a6] at eg⊢
  simpa [Instr.loadAt,Instr.sureAddr,asAddr] using eg
theorem aaX {P:Program} {ρ:Ren} {B n:Nat} {bg w:World} {f:aE} {h:J} {a:Act} (hw:bt ρ B bg h w) (aC:hN ρ n f a) {g:ResultVar→Sem Value}
  (eO:∀ t,g (.tmp t)=pure (a.tmps.getD t undef)) (lV:∀ c t,g (.cell c t)=(do loadVar t (←asAddr (a.tmps.getD c undef)))):∀ (rs:List ResultVar) (vs:List V),rs.mapM (vd P f h)=some vs →
  vs.length=rs.length∧∃ nY,(rs.mapM g).run P w=.ok nY w∧bx ρ vs nY
 | [],vs,hm=>by
  simp at hm
  subst hm
  exact ⟨rfl,[],by simp,.nil ρ⟩
 | r::rs,vs,hm=>by
  simp only [List.mapM_cons,Option.bind_eq_bind,Option.pure_def] at hm
  cases aU:vd P f h r with
  | none=>simp [aU] at hm
  | some v=>
   cases o7:rs.mapM (vd P f h) with
   | none=>simp [aU,o7] at hm
   | some us=>
    simp [aU,o7] at hm
    subst hm
    obtain ⟨v',h1,ae⟩:=anr hw aC eO lV aU
    obtain ⟨aM,ajb,aA,bk⟩:=aaX hw aC eO lV rs us o7
    refine ⟨by simp [aM],v'::ajb,?_,.cons ae bk⟩
    simp only [List.mapM_cons,Sem.run_bind,h1,aA,Result.andThen_ok,Sem.run_pure]
def L3 (tmps:Array Value):ResultVar→Sem Value
 | .tmp t=>pure (tmps.getD t undef)
 | .cell a t=>do loadVar t (←asAddr (tmps.getD a undef))
theorem ans (fn:Func) (tmps:Array Value):results fn tmps=(do let vs ←fn.results.mapM (L3 tmps);pure (if h:vs.size=1 then vs[0] else .tuple vs)):=rfl
theorem aaY {P:Program} {ρ:Ren} {B n:Nat} {bg w:World} {f:aE} {h:J} {a:Act} {fn:Func} (hw:bt ρ B bg h w) (aC:hN ρ n f a) {r:V} (vn:wY P fn.results.toList f h=some r) :
  ∃ dY,(results fn a.tmps).run P w=.ok dY w∧a1 ρ r dY:=by
 rw [ans,Array.mapM_eq_mapM_toList]
 unfold wY at vn
 split at vn
 ·rename_i b5 heq
  have hm:[b5].mapM (vd P f h)=some [r]:=by simp [vn]
  rw [heq]
  obtain ⟨_,nY,h1,ae⟩:=aaX hw aC (g:=L3 a.tmps) (fun _=>rfl) (fun _ _=>rfl) [b5] [r] hm
  obtain ⟨v',nV,rfl,aN,bw⟩:=ae.fh
  obtain rfl:=bw.eq_nil
  refine ⟨v',?_,aN⟩
  simp only [Sem.run_bind,Sem.run_map,h1,Result.andThen_ok]
  simp
 ·rename_i bZ
  split at vn
  case h_2=>cases vn
  rename_i vs o4
  obtain rfl:_=r:=by simpa using vn
  obtain ⟨Yl,nY,h1,ae⟩:=aaX hw aC (g:=L3 a.tmps) (fun _=>rfl) (fun _ _=>rfl) _ vs o4
  have lf:nY.length≠1:=by
   rw [←ae.1,Yl]
   intro aF
   obtain ⟨r,aU⟩:=List.length_eq_one_iff.1 aF
   exact bZ r aU
  refine ⟨.tuple nY.toArray,?_,.tuple ae.arr.1 ae.arr.2⟩
  simp only [Sem.run_bind,Sem.run_map,h1,Result.andThen_ok]
  simp [lf]
theorem aaZ {ρ:Ren} {n:Nat} {args:List V} {args':Array Value} (a6:bx ρ args args'.toList) (hlen:args.length≤n) (bb:ρ.dfr=[]):hN ρ n (nw args) { tmps:=args'++Array.replicate (n - args'.size) undef,defers:=[] }:=by
 have bz:args'.size=args.length:=by have:=a6.1;simpa using this.symm
 refine ⟨fun t=>?_,by simp;omega,bb.symm⟩
 simp only [nw]
 by_cases bw:t<args.length
 ·obtain ⟨v',h1,ae⟩:=a6.get (List.getElem?_eq_getElem bw)
  have ri:args'[t]?=some v':=by simpa using h1
  simp only [List.getD,List.getElem?_eq_getElem bw,Option.getD_some]
  have:(args'++Array.replicate (n - args'.size) undef).getD t undef=v':=by
   rw [Array.getD_eq_getD_getElem?,Array.getElem?_append_left (by omega),ri]
   rfl
  rw [this]
  exact ae
 ·simp only [List.getD,List.getElem?_eq_none (show args.length≤t by omega),Option.getD_none]
  exact .top _
theorem di.enter {P:Program} {ca:FuncId} {fn:Func} {c:Code} (ph:P.funcs[ca]?=some fn) (av:fn.body=some c) (ba:codeOk fn.ntmps c=true) {args:List V} (hlen:args.length≤fn.ntmps)
  {h:J} {R:V→J→Prop} {E:J→Prop} (af:xz P fn.ntmps c (Cw P fn R E) (nw args) h):di P ca args h R E:=by
 intro ρ B bg w args' hw a6
 refine calls_of_wp ph av ?_
 have fin:∀ (ρ':Ren) (f:aE) (h':J) (mq:Act) (w':World),Ren.le { ρ with dfr:=[] } ρ'→bt ρ' B bg h' w'→hN ρ' fn.ntmps f mq→(match wY P fn.results.toList f h' with | some r=>R r h' | none=>False) →
   mq.defers=[]∧∃ v,(results fn mq.tmps).run P w'=.ok v w'∧((∃ (ρ':Ren) (r:V) (dY:Value) (h':J),Ending.returned v=.returned dY∧a1 ρ' r dY∧bt ρ' B bg h' w'∧ρ.le ρ'∧R r h') ∨
    (∃ (ρ':Ren) (nv:List PanicEntry) (h':J),Ending.returned v=.panicked nv∧JL nv∧bt ρ' B bg h' w'∧ρ.le ρ'∧E h')):=by
  intro ρ' f h' mq w' aM cY dp e0
  refine ⟨dp.defers.trans aM.dfr,?_⟩
  cases vn:wY P fn.results.toList f h' with
  | none=>simp [vn] at e0
  | some r=>
  simp only [vn] at e0
  obtain ⟨dY,h1,ae⟩:=aaY cY dp vn
  exact ⟨dY,h1,.inl ⟨_,r,dY,h',rfl,ae.dfr ρ.dfr,cY.dfr ρ.dfr,aM.ub,e0⟩⟩
 refine wp_mono (L2 c _ _ h ba af { ρ with dfr:=[] } B bg _ w (hw.dfr []) (aaZ (a6.dfr []) hlen rfl)) fun e mq w' ⟨ρ',x,f,h',ak,cY,dp,aM,e0⟩=>?_
 cases x<;>cases e<;>simp only [wg] at ak
 ·exact fin ρ' f h' mq w' aM cY dp e0
 ·exact e0.elim
 ·exact e0.elim
 ·exact fin ρ' f h' mq w' aM cY dp e0
 ·exact ⟨dp.defers.trans aM.dfr,.inr ⟨_,_,h',rfl,ak,cY.dfr ρ.dfr,aM.ub,e0⟩⟩
theorem nr {α:Sort _} {a b:α} (h:a=b):a=b:=h
class inductive xI where
 | fn (run:ed→aE→J→Prop)
 | seq (P:Program) (n:Nat) (b:Code) (Q:xI)
 | km (id:Nat) (Q:xI)
def xI.go:xI→ed→aE→J→Prop
 | .fn r=>r
 | .seq P n b Q=>andThen (fun f h=>xz P n b Q.go f h) Q.go
 | .km id Q=>PX id Q.go
class inductive jo where
 | fn (run exc:aE→J→Prop)
 | out (Q:xI)
 | ops (P:Program) (ol l:List Oper) (K:jo)
 | rest (P:Program) (ol:List Oper) (es:List Nat) (k:Nat) (l:List Oper) (K:jo)
def jo.exc:jo→aE→J→Prop
 | .fn _ e=>e
 | .out Q=>Q.go .panic
 | .ops _ _ _ K=>K.exc
 | .rest _ _ _ _ _ K=>K.exc
def jo.go:jo→aE→J→Prop
 | .fn r _=>r
 | .out Q=>Q.go .normal
 | .ops P ol l K=>so P ol l K.go K.exc
 | .rest P ol es k l K=>qK P ol es K.go K.exc k l
def rj (P:Program) (n:Nat) (c:Code) [Q:xI] (f:aE) (h:J):Prop:=xz P n c Q.go f h
def lZ (P:Program) (ol l:List Oper) [K:jo] (f:aE) (h:J):Prop:=so P ol l K.go K.exc f h
def ik (P:Program) (o:Oper) [K:jo] (f:aE) (h:J):Prop:=mV P o K.go K.exc f h
def kA (x:ed) [Q:xI] (f:aE) (h:J):Prop:=Q.go x f h
def o8 [K:jo] (f:aE) (h:J):Prop:=K.go f h
def Ym (v:V) [p:Rj] [q:Rj]:Prop:=match v with | .bool true=>p.prop | .bool false=>q.prop | _=>False
section
variable {P:Program} {n id:Nat} {ops:Array Oper} {l:List Oper} {Q:xI} {K:jo} {f:aE} {h:J}
theorem ant:@rj P n .skip Q f h=@kA .normal Q f h:=nr rfl
theorem anu:@rj P n (.region id ops false) Q f h=@lZ P ops.toList ops.toList (.out Q) f h:=nr rfl
theorem anv {a b:Code}:@rj P n (.seq a b) Q f h=@rj P n a (.seq P n b Q) f h:=nr rfl
theorem anw {p q:Rj}:@Ym (.bool true) p q=p.prop:=nr rfl
theorem anx {p q:Rj}:@Ym (.bool false) p q=q.prop:=nr rfl
theorem anz {c:Operand} {a b:Code}:@rj P n (.cond c a b) Q f h=@Ym (f.eval h c) ⟨@rj P n a Q f h⟩ ⟨@rj P n b Q f h⟩:=by
 show (match f.eval h c with | .bool true=>xz P n a Q.go f h | .bool false=>xz P n b Q.go f h | _=>False)=_
 unfold Ym
 cases f.eval h c with
 | bool t=>cases t<;>rfl
 | _=>rfl
theorem anA {b:Code}:@rj P n (.block id b) Q f h=@rj P n b (.km id Q) f h:=nr rfl
theorem anB:@rj P n (.exit id) Q f h=@kA (.exit id) Q f h:=nr rfl
theorem anC:@rj P n (.goto id) Q f h=@kA (.goto id) Q f h:=nr rfl
theorem anD:@rj P n .ret Q f h=@kA .ret Q f h:=nr rfl
theorem anE {b:Code}:@rj P n (.loop b) Q f h=aP P n (.loop b) Q.go f h:=nr rfl
theorem anF {b:Code}:@rj P n (.scope b) Q f h=aP P n (.scope b) Q.go f h:=nr rfl
theorem anG:@rj P n (.region id ops true) Q f h=aP P n (.region id ops true) Q.go f h:=nr rfl
theorem anH {b:Code}:@kA .normal (.seq P n b Q) f h=@rj P n b Q f h:=nr rfl
theorem anI {b:Code} {j:Nat}:@kA (.exit j) (.seq P n b Q) f h=@kA (.exit j) Q f h:=nr rfl
theorem anJ {b:Code} {j:Nat}:@kA (.goto j) (.seq P n b Q) f h=@kA (.goto j) Q f h:=nr rfl
theorem anK {b:Code}:@kA .ret (.seq P n b Q) f h=@kA .ret Q f h:=nr rfl
theorem anL {b:Code}:@kA .panic (.seq P n b Q) f h=@kA .panic Q f h:=nr rfl
theorem anM:@kA .normal (.km id Q) f h=@kA .normal Q f h:=nr rfl
theorem anN {j:Nat}:@kA (.exit j) (.km id Q) f h=if j=id then @kA .normal Q f h else @kA (.exit j) Q f h:=nr rfl
theorem anO:@kA .ret (.km id Q) f h=@kA .ret Q f h:=nr rfl
theorem anP:@kA .panic (.km id Q) f h=@kA .panic Q f h:=nr rfl
theorem anQ {x:ed} {Q:ed→aE→J→Prop}:@kA x (.fn Q) f h=Q x f h:=nr rfl
theorem anR:@o8 (.out Q) f h=@kA .normal Q f h:=nr rfl
theorem anS {ol:List Oper}:@o8 (.ops P ol l K) f h=@lZ P ol l K f h:=nr rfl
theorem anT {K E:aE→J→Prop}:@o8 (.fn K E) f h=K f h:=nr rfl
theorem anU {ol:List Oper}:@lZ P ol [] K f h=@o8 K f h:=nr rfl
theorem ajc {x:ed}:xI.go Q x f h=@kA x Q f h:=nr rfl
theorem anV:jo.exc (.out Q) f h=@kA .panic Q f h:=nr rfl
theorem anW {ol:List Oper}:jo.exc (.ops P ol l K) f h=jo.exc K f h:=nr rfl
theorem anX {K:aE→J→Prop} {Q:ed→aE→J→Prop}:andThen K Q .normal f h=K f h:=nr rfl
theorem anY {K:aE→J→Prop} {Q:ed→aE→J→Prop}:andThen K Q (.exit id) f h=Q (.exit id) f h:=nr rfl
theorem anZ {K:aE→J→Prop} {Q:ed→aE→J→Prop}:andThen K Q .ret f h=Q .ret f h:=nr rfl
theorem dw {c:Code} {Q:ed→aE→J→Prop} (ba:codeOk n c=true) (af:@rj P n c (.fn Q) f h):aP P n c Q f h:=L2 c Q f h ba af
theorem di.ao {ca:FuncId} {fn:Func} {c:Code} (ph:P.funcs[ca]?=some fn) (av:fn.body=some c) (ba:codeOk fn.ntmps c=true) {args:List V} (hlen:args.length≤fn.ntmps)
  {h:J} {R:V→J→Prop} {E:J→Prop} (af:@rj P fn.ntmps c (.fn (Cw P fn (fun r h=>@x3 ⟨R r h⟩) (fun h=>@x3 ⟨E h⟩))) (nw args) h):di P ca args h R E:=di.enter ph av ba hlen af
theorem ab.ao {ca:FuncId} {fn:Func} {c:Code} (ph:P.funcs[ca]?=some fn) (av:fn.body=some c) (ba:codeOk fn.ntmps c=true) {args:List V} (hlen:args.length≤fn.ntmps)
  {h:J} {R:V→J→Prop} (af:@rj P fn.ntmps c (.fn (Cw P fn (fun r h=>@x3 ⟨R r h⟩) fun _=>False)) (nw args) h):ab P ca args h R:=di.enter ph av ba hlen af
variable {d:Option Tmp} {ty:TypeId} {pos:String} {dN:Array Edge} {ol:List Oper}
def pZ (o:Option V) (d:Option Tmp) [K:jo] (f:aE) (h:J):Prop:=match o with | some v=>K.go (f.put d v) h | none=>False
def x4 (o:Option (V×J)) (d:Option Tmp) [K:jo] (f:aE):Prop:=match o with | some (v,h)=>K.go (f.put d v) h | none=>False
def thenS (o:Option J) (d:Option Tmp) [K:jo] (f:aE):Prop:=match o with | some h=>K.go (f.put d .top) h | none=>False
theorem an0 {v:V}:@pZ (some v) d K f h=@o8 K (f.put d v) h:=nr rfl
theorem an1 {v:V} {h':J}:@x4 (some (v,h')) d K f=@o8 K (f.put d v) h':=nr rfl
theorem an2 {h':J}:@thenS (some h') d K f=@o8 K (f.put d .top) h':=nr rfl
theorem an3 {op:Op}:@lZ P ol (⟨d,op,ty,pos,dN,none⟩::l) K f h=@ik P ⟨d,op,ty,pos,dN,none⟩ (.ops P ol l K) f h:=nr rfl
def G1:List Oper→Nat→Option Tmp
 | [],_=>none
 | o::_,0=>o.dst
 | _::r,j+1=>G1 r j
theorem aa0:∀ (l:List Oper) (j:Nat),G1 l j=(l[j]?).bind (·.dst)
 | [],j=>by simp [G1]
 | o::r,0=>by simp [G1]
 | o::r,j+1=>by simp [G1,aa0 r j]
def Hk (v:V) (o:Oper) (P:Program) (ol l:List Oper) [K:jo] (f:aE) (h:J):Prop :=
 match v,o.guard with
 | .bool c,some (_,b)=>if c=b then @ik P o (.ops P ol l K) f h else @lZ P ol l K (f.put o.dst (.tuple [])) h
 | .top,_=>False
 | _,_=>@lZ P ol l K (f.put o.dst (.tuple [])) h
theorem an4 {op:Op} {j:Nat} {b:Bool}:@lZ P ol (⟨d,op,ty,pos,dN,some (j,b)⟩::l) K f h =
  (match G1 ol j with | some t=>@Hk (f t) ⟨d,op,ty,pos,dN,some (j,b)⟩ P ol l K f h | none=>@lZ P ol l K (f.put d (.tuple [])) h):=by
 rw [aa0]
 show so P ol (⟨d,op,ty,pos,dN,some (j,b)⟩::l) K.go K.exc f h=_
 simp only [so,mr]
 cases bw:(ol[j]?).bind (·.dst) with
 | none=>rfl
 | some t=>
  simp only [Hk]
  cases aC:f t<;>try rfl
  rename_i c
  simp only
  by_cases aF:c=b
  ·subst aF;simp only [beq_self_eq_true,if_true];rfl
  ·have:(c==b)=false:=by simp [aF]
   simp only [this,if_neg aF]
   rfl
theorem an5 {b:Bool} {op:Op} {j:Nat}:@Hk (.bool b) ⟨d,op,ty,pos,dN,some (j,b)⟩ P ol l K f h=@ik P ⟨d,op,ty,pos,dN,some (j,b)⟩ (.ops P ol l K) f h:=if_pos rfl
theorem an6 {op:Op} {j:Nat}:@Hk (.bool true) ⟨d,op,ty,pos,dN,some (j,false)⟩ P ol l K f h=@lZ P ol l K (f.put d (.tuple [])) h:=nr rfl
theorem an7 {op:Op} {j:Nat}:@Hk (.bool false) ⟨d,op,ty,pos,dN,some (j,true)⟩ P ol l K f h=@lZ P ol l K (f.put d (.tuple [])) h:=nr rfl
theorem an8 {op:Op} {j:Nat} {b:Bool} {vs:List V}:@Hk (.tuple vs) ⟨d,op,ty,pos,dN,some (j,b)⟩ P ol l K f h=@lZ P ol l K (f.put d (.tuple [])) h:=nr rfl
theorem an9 {o:Oper} {r:List Oper}:G1 (o::r) 0=o.dst:=nr rfl
theorem aoa {o:Oper} {r:List Oper} {j:Nat}:G1 (o::r) (j+1)=G1 r j:=nr rfl
variable {g:Option (Nat×Bool)}
theorem x5 {o:Oper} {x:Option V} (he:gS P o (f.eval h) h=lM x h):@ik P o K f h=@pZ x o.dst K f h:=by
 unfold ik mV;rw [he];cases x<;>rfl
theorem L4 {o:Oper} {x:Option (V×J)} (he:gS P o (f.eval h) h=jW x):@ik P o K f h=@x4 x o.dst K f:=by
 unfold ik mV;rw [he];cases x<;>rfl
theorem ajd {o:Oper} {x:Option J} (he:gS P o (f.eval h) h=x2 x):@ik P o K f h=@thenS x o.dst K f:=by
 unfold ik mV;rw [he];cases x<;>rfl
theorem aob {x:Operand}:@ik P ⟨d,.move x,ty,pos,dN,g⟩ K f h=@o8 K (f.put d (f.eval h x)) h:=nr rfl
theorem aoc {x:Operand}:@ik P ⟨d,.assign x,ty,pos,dN,g⟩ K f h=@o8 K (f.put d (f.eval h x)) h:=nr rfl
def PY (c a b:V):Option V:=match c with | .bool t=>some (if t then a else b) | _=>none
theorem aod {c a b:Operand}:@ik P ⟨d,.pick c a b,ty,pos,dN,g⟩ K f h=@pZ (PY (f.eval h c) (f.eval h a) (f.eval h b)) d K f h:=by
 unfold ik mV gS PY pZ;simp only;cases f.eval h c<;>rfl
theorem aoe {a b:V}:PY (.bool true) a b=some a:=nr rfl
theorem aof {a b:V}:PY (.bool false) a b=some b:=nr rfl
theorem aog {e:TypeId}:@ik P ⟨d,.alloc e,ty,pos,dN,g⟩ K f h=@x4 (PO P e h) d K f:=L4 rfl
theorem aoh {e:TypeId} {x:Operand}:@ik P ⟨d,.box e x,ty,pos,dN,g⟩ K f h=@x4 (Cr e (f.eval h x) h) d K f:=L4 rfl
theorem aoi {t:TypeId} {ps:Array (Nat×Operand)}:@ik P ⟨d,.build t ps,ty,pos,dN,g⟩ K f h=@pZ (wd P t (ps.toList.map fun p=>(p.1,f.eval h p.2))) d K f h:=x5 rfl
theorem aoj {t:TypeId} {len:Nat} {ps:Array (Nat×Operand)}:@ik P ⟨d,.buildSlice t len ps,ty,pos,dN,g⟩ K f h=@x4 (lk P t len (ps.toList.map fun p=>(p.1,f.eval h p.2)) h) d K f:=L4 rfl
theorem aok {t:TypeId} {a:Operand}:@ik P ⟨d,.load t a,ty,pos,dN,g⟩ K f h=@pZ (D3 P t (f.eval h a) h) d K f h:=x5 rfl
theorem aol {t:TypeId} {a x:Operand}:@ik P ⟨d,.store t a x,ty,pos,dN,g⟩ K f h=@thenS (PM P t (f.eval h a) (f.eval h x) h) d K f:=ajd rfl
def Ee (x:V):Option V:=match x with | .ptr i o=>some (.ptr i o) | .at cs=>some (.at cs) | .func (.func ca) xs ys=>some (.func (.func ca) xs ys) | _=>none
theorem aom {i o:Nat}:Ee (.ptr i o)=some (.ptr i o):=nr rfl
theorem aon {x:Operand}:@ik P ⟨d,.nilCheck x,ty,pos,dN,g⟩ K f h=@pZ (Ee (f.eval h x)) d K f h:=by
 unfold ik mV gS Ee pZ;simp only
 generalize f.eval h x=y
 cases y<;>try rfl
 rename_i fn xs ys
 cases fn<;>rfl
theorem aoo {op:BinOp} {t Yh:TypeId} {x y:Operand}:@ik P ⟨d,.binOp op t x y Yh,ty,pos,dN,g⟩ K f h=@pZ (ev P op t x y (f.eval h x) (f.eval h y)) d K f h:=x5 rfl
theorem aop {op:UnOp} {t:TypeId} {x:Operand}:@ik P ⟨d,.unOp op t x,ty,pos,dN,g⟩ K f h=@pZ (Ea P op (f.eval h x)) d K f h:=x5 rfl
def aa1 (o:Option V) (b:Option (V×J)) (d:Option Tmp) [K:jo] (f:aE) (h:J):Prop:=match o with | some v=>K.go (f.put d v) h | none=>@x4 b d K f
theorem aoq {v:V} {b:Option (V×J)}:@aa1 (some v) b d K f h=@o8 K (f.put d v) h:=nr rfl
theorem aor {s t:TypeId} {x:Operand}:@ik P ⟨d,.convert s t x,ty,pos,dN,g⟩ K f h=@aa1 (qJ P s t (f.eval h x) h) (DC P s t (f.eval h x) h) d K f h:=by
 have he:gS P ⟨d,.convert s t x,ty,pos,dN,g⟩ (f.eval h) h=(match qJ P s t (f.eval h x) h with | some v=>some (.val v h) | none=>jW (DC P s t (f.eval h x) h)):=rfl
 unfold aa1
 cases aF:qJ P s t (f.eval h x) h with
 | some v=>
  rw [aF] at he
  exact x5 (x:=some v) he
 | none=>
  rw [aF] at he
  exact L4 he
theorem aos {t:TypeId} {r:Option Operand}:@ik P ⟨d,.makeMap t r,ty,pos,dN,g⟩ K f h=@x4 (Q6 P t (r.map (f.eval h)) h) d K f:=L4 rfl
theorem aot {t:TypeId} {x y:Operand}:@ik P ⟨d,.makeSlice t x y,ty,pos,dN,g⟩ K f h=@x4 (GW P t (f.eval h x) (f.eval h y) h) d K f:=L4 rfl
theorem aou {t:TypeId} {x:Operand} {lo hi mx:Option Operand}:@ik P ⟨d,.slice t x lo hi mx,ty,pos,dN,g⟩ K f h=@pZ (kz P t (f.eval h x) (lo.map (f.eval h)) (hi.map (f.eval h)) (mx.map (f.eval h))) d K f h:=x5 rfl
theorem aov {t:TypeId} {x:Operand} {k:Nat}:@ik P ⟨d,.fieldAddr t x k,ty,pos,dN,g⟩ K f h=@pZ (LX P t (f.eval h x) k) d K f h:=x5 rfl
theorem aow {t:TypeId} {x y:Operand}:@ik P ⟨d,.indexAddr t x y,ty,pos,dN,g⟩ K f h=@pZ (ir P t (f.eval h x) (f.eval h y)) d K f h:=x5 rfl
theorem aox {t:TypeId} {x y:Operand}:@ik P ⟨d,.index t x y,ty,pos,dN,g⟩ K f h=@pZ (X9 P t (f.eval h x) (f.eval h y)) d K f h:=x5 rfl
theorem aoy {t:TypeId} {x y:Operand} {ok:Bool}:@ik P ⟨d,.lookup t x y ok,ty,pos,dN,g⟩ K f h=@pZ (n5 P t (f.eval h x) (f.eval h y) ok h) d K f h:=x5 rfl
theorem aoz {t:TypeId} {m k x:Operand}:@ik P ⟨d,.mapUpdate t m k x,ty,pos,dN,g⟩ K f h=@thenS (xZ P t (f.eval h m) (f.eval h k) (f.eval h x) h) d K f:=ajd rfl
theorem aoA {t:TypeId} {x:Operand}:@ik P ⟨d,.range t x,ty,pos,dN,g⟩ K f h=@x4 (PS P t (f.eval h x) h) d K f:=L4 rfl
def Yn (l:Option (List (V×J))) (d:Option Tmp) [K:jo] (f:aE):Prop:=match l with | some l=>∀ v h',(v,h') ∈ l→@o8 K (f.put d v) h' | none=>False
theorem aoB {it:Operand}:@ik P ⟨d,.next it false,ty,pos,dN,g⟩ K f h=@Yn (HK (f.eval h it) h) d K f:=by
 unfold ik mV gS Yn;simp only;cases HK (f.eval h it) h<;>rfl
theorem aoC {x:Operand}:@ik P ⟨d,.entry x,ty,pos,dN,g⟩ K f h=@pZ (PT (f.eval h x) h) d K f h:=x5 rfl
theorem aoD {x:Operand} {t e:TypeId} {ok:Bool}:@ik P ⟨d,.typeAssert x t e ok,ty,pos,dN,g⟩ K f h=@pZ (gZ P (f.eval h x) e ok) d K f h:=x5 rfl
def x6 (x:V) (k:Nat):Option V:=match x with | .tuple vs=>vs[k]? | _=>none
theorem aoE {v:V} {vs:List V}:x6 (.tuple (v::vs)) 0=some v:=nr rfl
theorem aoF {v:V} {vs:List V} {k:Nat}:x6 (.tuple (v::vs)) (k+1)=x6 (.tuple vs) k:=by simp [x6]
theorem aoG {x:Operand} {k:Nat}:@ik P ⟨d,.extract x k,ty,pos,dN,g⟩ K f h=@pZ (x6 (f.eval h x) k) d K f h:=by
 unfold ik mV gS x6 pZ;simp only
 cases f.eval h x with
 | tuple vs=>simp only;cases vs[k]?<;>rfl
 | _=>rfl
def L5 (b:Option Bool) (t:TypeId) (x:V):Option V:=match b with | some false=>some (.iface t x) | _=>none
theorem aoH {t:TypeId} {x:V}:L5 (some false) t x=some (.iface t x):=nr rfl
theorem aoI {t:TypeId} {x:Operand}:@ik P ⟨d,.makeInterface t x,ty,pos,dN,g⟩ K f h=@pZ (L5 (DB P t) t (f.eval h x)) d K f h:=by
 unfold ik mV gS L5 pZ;simp only
 cases DB P t with
 | none=>rfl
 | some b=>cases b<;>rfl
theorem aoJ {fn:Fn} {xs ys:Array Operand}:@ik P ⟨d,.makeFunc fn xs ys,ty,pos,dN,g⟩ K f h=@o8 K (f.put d (.func fn (xs.toList.map (f.eval h)) (ys.toList.map (f.eval h)))) h:=nr rfl
def L6 (x:V) [K:jo] (f:aE) (h:J):Prop:=match x with | .iface _ _=>K.exc f h | _=>False
theorem aoK {t:TypeId} {v:V}:@L6 (.iface t v) K f h=K.exc f h:=nr rfl
theorem aoL {x:Operand}:@ik P ⟨d,.panic x,ty,pos,dN,g⟩ K f h=@L6 (f.eval h x) K f h:=by
 unfold ik mV gS L6;simp only;cases f.eval h x<;>rfl
theorem aoM {t:TypeId} {x:Operand}:@ik P ⟨d,.call ⟨.builtin .len,#[x],#[t]⟩,ty,pos,dN,g⟩ K f h=@pZ (fU P t (f.eval h x) h) d K f h:=by
 unfold ik mV gS pe vb pZ;simp only [List.map_cons,List.map_nil];cases fU P t (f.eval h x) h<;>rfl
theorem aoN {t tx:TypeId} {x y:Operand}:@ik P ⟨d,.call ⟨.builtin .append,#[x,y],#[t,tx]⟩,ty,pos,dN,g⟩ K f h=@x4 (n2 P t tx (f.eval h x) (f.eval h y) h) d K f:=by
 unfold ik mV gS pe vb x4;simp only [List.map_cons,List.map_nil];cases n2 P t tx (f.eval h x) (f.eval h y) h<;>rfl
theorem aoO {t tx:TypeId} {x y:Operand}:@ik P ⟨d,.call ⟨.builtin .copy,#[x,y],#[t,tx]⟩,ty,pos,dN,g⟩ K f h=@x4 (GX P t (f.eval h x) (f.eval h y) h) d K f:=by
 unfold ik mV gS pe vb x4;simp only [List.map_cons,List.map_nil];cases GX P t (f.eval h x) (f.eval h y) h<;>rfl
theorem aoP {t:TypeId} {x:Operand}:@ik P ⟨d,.call ⟨.builtin .cap,#[x],#[t]⟩,ty,pos,dN,g⟩ K f h=@pZ (zG P t (f.eval h x)) d K f h:=by
 unfold ik mV gS pe vb pZ;simp only [List.map_cons,List.map_nil];cases zG P t (f.eval h x)<;>rfl
theorem aoQ {t tx:TypeId} {x y:Operand}:@ik P ⟨d,.call ⟨.builtin .delete,#[x,y],#[t,tx]⟩,ty,pos,dN,g⟩ K f h=@x4 ((G0 P t (f.eval h x) (f.eval h y) h).map fun h'=>(.tuple [],h')) d K f:=by
 unfold ik mV gS pe vb x4;simp only [List.map_cons,List.map_nil];cases G0 P t (f.eval h x) (f.eval h y) h<;>rfl
theorem aoR {t:TypeId} {x:Operand}:@ik P ⟨d,.call ⟨.builtin .clear,#[x],#[t]⟩,ty,pos,dN,g⟩ K f h=@x4 ((Bb P t (f.eval h x) h).map fun h'=>(.tuple [],h')) d K f:=by
 unfold ik mV gS pe vb x4;simp only [List.map_cons,List.map_nil];cases Bb P t (f.eval h x) h<;>rfl
def wi (P:Program) (bi:Builtin) (ts:Array TypeId) (ty:TypeId) (cs:Array Bool) (x y:V):Option V :=
 match jO [x,y] with
 | some as=>match e8 P (builtin bi ts ty cs as.toArray) with
  | some (.value v)=>some (kR v)
  | _=>none
 | none=>none
theorem aoS {t t2:TypeId} {x y:Operand}:@ik P ⟨d,.call ⟨.builtin .min,#[x,y],#[t,t2]⟩,ty,pos,dN,g⟩ K f h=@pZ (wi P .min #[t,t2] ty (Bc #[x,y]) (f.eval h x) (f.eval h y)) d K f h :=
 x5 (by
  unfold gS pe vb wi lM
  simp only [List.map_cons,List.map_nil]
  cases jO [f.eval h x,f.eval h y] with
  | none=>rfl
  | some as=>
   simp only
   generalize e8 P _=r
   cases r with
   | none=>rfl
   | some n=>cases n<;>rfl)
theorem aoT {t t2:TypeId} {x y:Operand}:@ik P ⟨d,.call ⟨.builtin .max,#[x,y],#[t,t2]⟩,ty,pos,dN,g⟩ K f h=@pZ (wi P .max #[t,t2] ty (Bc #[x,y]) (f.eval h x) (f.eval h y)) d K f h :=
 x5 (by
  unfold gS pe vb wi lM
  simp only [List.map_cons,List.map_nil]
  cases jO [f.eval h x,f.eval h y] with
  | none=>rfl
  | some as=>
   simp only
   generalize e8 P _=r
   cases r with
   | none=>rfl
   | some n=>cases n<;>rfl)
theorem aoU {ts:Array TypeId} {cs:Array Bool} {k:IntKind} {a b:Int}:wi P .min ts ty cs (.int k a) (.int k b)=some (.int k (min a b)):=by
 have e:(if b<a then b else a)=min a b:=by rw [Int.min_def];split<;>split<;>omega
 rw [←e]
 rfl
theorem aoV {ts:Array TypeId} {cs:Array Bool} {k:IntKind} {a b:Int}:wi P .max ts ty cs (.int k a) (.int k b)=some (.int k (max a b)):=by
 have e:(if a<b then b else a)=max a b:=by rw [Int.max_def];split<;>split<;>omega
 rw [←e]
 rfl
def Rn (P:Program) (ca:FuncId) (args:List V) (h:J) (d:Option Tmp) [K:jo] (f:aE):Prop:=bK P ca=false∧∃ v h',Dp P ca args h=some (v,h')∧K.go (f.put d v) h'
def Ef (P:Program) (ca:FuncId) (args:List V) (h:J) (d:Option Tmp) [K:jo] (f:aE):Prop:=(bK P ca=true∧di P ca args h (fun r h'=>K.go (f.put d r) h') (fun h'=>K.exc f h'))∨@Rn P ca args h d K f
open Classical in
theorem aoW {ca:FuncId} {args:Array Operand} {ts:Array TypeId}:@ik P ⟨d,.call ⟨.value (.func ca),args,ts⟩,ty,pos,dN,g⟩ K f h=@Ef P ca (args.toList.map (f.eval h)) h d K f:=by
 unfold ik mV gS pe Ef Rn
 simp only [aE.eval]
 by_cases aF:bK P ca=true
 ·simp [aF]
 ·cases a6:Dp P ca (args.toList.map (f.eval h)) h with
  | none=>simp [aF,a6]
  | some p=>obtain ⟨v,h'⟩:=p;simp [aF,a6];exact ⟨fun U=>⟨v,h',⟨rfl,rfl⟩,U⟩,fun ⟨_,_,⟨ar,aT⟩,U⟩=>by subst ar;subst aT;exact U⟩
def Yo (P:Program) (Ro:V) (args:List V) (h:J) (d:Option Tmp) [K:jo] (f:aE):Prop:=match Ro with | .func (.func ca) xs ys=>@Ef P ca (xs++args++ys) h d K f | .func (.yield l) [] []=>oH P l args h (fun r h'=>K.go (f.put d r) h') | _=>False
theorem GT {t:Tmp} {args:Array Operand} {ts:Array TypeId}:@ik P ⟨d,.call ⟨.value (.tmp t),args,ts⟩,ty,pos,dN,g⟩ K f h=@Yo P (f t) (args.toList.map (f.eval h)) h d K f:=by
 unfold ik mV gS pe Yo Ef Rn
 simp only [aE.eval]
 generalize f t=v
 cases v<;>try rfl
 rename_i fn xs ys
 cases fn<;>try rfl
 case yield l=>cases xs<;>cases ys<;>rfl
 rename_i ca
 simp only
 by_cases aF:bK P ca=true
 ·simp [aF]
 ·cases a6:Dp P ca (xs++args.toList.map (f.eval h)++ys) h with
  | none=>simp at a6;simp [aF,a6]
  | some p=>obtain ⟨v,h'⟩:=p;simp at a6;simp [aF,a6];exact ⟨fun U=>⟨v,h',⟨rfl,rfl⟩,U⟩,fun ⟨_,_,⟨ar,aT⟩,U⟩=>by subst ar;subst aT;exact U⟩
def L7 (P:Program) (x:V) (name:String) (args:List V) (h:J) (d:Option Tmp) [K:jo] (f:aE):Prop:=match x with | .iface t v=>∃ g,iu P t name g∧@Ef P g (v::args) h d K f | _=>False
theorem LE {r:Operand} {name:String} {args:Array Operand} {ts:Array TypeId}:@ik P ⟨d,.call ⟨.invoke r name,args,ts⟩,ty,pos,dN,g⟩ K f h=@L7 P (f.eval h r) name (args.toList.map (f.eval h)) h d K f:=by
 unfold ik mV gS pe L7
 simp only
 generalize f.eval h r=v
 cases v<;>try rfl
 rename_i t x
 by_cases U:∃ g,iu P t name g
 ·obtain ⟨g,hm⟩:=U
  rw [ang hm]
  refine propext ⟨fun ad=>⟨g,hm,.inl ⟨hm.2,ad⟩⟩,?_⟩
  rintro ⟨aje,jV,aF⟩
  have e:=hm.uniq jV
  subst e
  rcases aF with ⟨_,aF⟩ | ⟨aF,_⟩
  ·exact aF
  ·rw [hm.2] at aF;cases aF
 ·have:zI P (.iface t x) name (args.toList.map (f.eval h))=none:=by
   unfold zI
   simp only [dif_neg U]
  rw [this]
  exact propext ⟨False.elim,fun ⟨g,hm,_⟩=>U ⟨g,hm⟩⟩
theorem aa2 {t:TypeId} {x:V} {name:String} {args:List V} {ca:FuncId} (hm:iu P t name ca):@L7 P (.iface t x) name args h d K f=@Ef P ca (x::args) h d K f:=by
 refine propext ⟨?_,fun aF=>⟨ca,hm,aF⟩⟩
 rintro ⟨g,aB,aF⟩
 have e:=hm.uniq aB
 subst e
 exact aF
theorem aoX {ca:FuncId} {xs ys args:List V}:@Yo P (.func (.func ca) xs ys) args h d K f=@Ef P ca (xs++args++ys) h d K f:=nr rfl
theorem ajf {l:Nat} {args:List V} {R:V→J→Prop} (ad:oH P l args h R) (hk:∀ r h',R r h'→@o8 K (f.put d r) h'):@Yo P (.func (.yield l) [] []) args h d K f:=ad.mono hk
theorem bU {ca:FuncId} {args:List V} {R:V→J→Prop} (aF:bK P ca=true) (ad:ab P ca args h R) (hk:∀ r h',R r h'→@o8 K (f.put d r) h'):@Ef P ca args h d K f :=
 .inl ⟨aF,ad.e.mono hk fun _ h=>h⟩
theorem wj {ca:FuncId} {args:List V} {R:V→J→Prop} {E:J→Prop} (aF:bK P ca=true) (ad:di P ca args h R E) (hk:∀ r h',R r h'→@o8 K (f.put d r) h') (he:∀ h',E h'→jo.exc K f h'):@Ef P ca args h d K f :=
 .inl ⟨aF,ad.mono hk he⟩
theorem bB {ca:FuncId} {args:List V} {v:V} (aF:bK P ca=true) (ad:Pure P ca args h v) (hk:@o8 K (f.put d v) h):@Ef P ca args h d K f :=
 bU aF ad fun r h' ⟨ar,aT⟩=>by subst ar;subst aT;exact hk
theorem Yp {ca:FuncId} {args:List V} {v:V} (aF:bK P ca=false) (bc:x1 P ca) (a6:wc h args=some v) (hk:@o8 K (f.put d v) h):@Ef P ca args h d K f:=.inr ⟨aF,v,h,ane bc a6,hk⟩
theorem aoY {t:Tmp} {v:V} {k:Nat}:aE.put f (some t) v k=if k=t then v else f k:=nr rfl
theorem aoZ {v:V} {k:Nat}:aE.put f none v k=f k:=nr rfl
theorem ao0 {t:Tmp}:aE.eval f h (.tmp t)=f t:=nr rfl
theorem eval_const {v:Value}:aE.eval f h (.const v)=jQ v:=nr rfl
theorem eval_func {k:FuncId}:aE.eval f h (.func k)=.func (.func k) [] []:=nr rfl
theorem JN {k:Nat} {cs:List V} (aB:h.glob k=some cs):aE.eval f h (.global k)=.at cs:=by simp [aE.eval,aB]
theorem ao1 {a:V} {l:List V}:nw (a::l) 0=a:=nr rfl
theorem ao2 {a:V} {l:List V} {n:Nat}:nw (a::l) (n+1)=nw l n:=nr rfl
end
theorem ao3 {k:IntKind} {n:Int}:jQ (.int k n)=.int k n:=nr rfl
theorem ao4 {b:Bool}:jQ (.bool b)=.bool b:=nr rfl
theorem ao5 {s:ByteArray}:jQ (.string s)=.string s:=nr rfl
theorem ao6:jQ (.pointer none)=.cZ:=nr rfl
theorem ao7:jQ (.slice none 0 0)=.ah:=nr rfl
theorem ao8:jQ (.map none)=.oQ:=nr rfl
theorem ao9:jQ .nilFunc=.nilFunc:=nr rfl
theorem apa:jQ .nilIface=.nilIface:=nr rfl
section
variable {P:Program} {fn:Func} {R:V→J→Prop} {E:J→Prop} {f:aE} {h:J}
theorem aI:Cw P fn R E .ret f h=(match wY P fn.results.toList f h with | some r=>R r h | none=>False):=nr rfl
theorem mG:Cw P fn R E .normal f h=(match wY P fn.results.toList f h with | some r=>R r h | none=>False):=nr rfl
theorem wk:Cw P fn R E .panic f h=E h:=nr rfl
theorem ac {t:Tmp}:wY P [.tmp t] f h=some (f t):=nr rfl
theorem kd:wY P [] f h=some (.tuple []):=nr rfl
theorem cW {t u:Tmp}:wY P [.tmp t,.tmp u] f h=some (.tuple [f t,f u]):=nr rfl
theorem r6 {t u v:Tmp}:wY P [.tmp t,.tmp u,.tmp v] f h=some (.tuple [f t,f u,f v]):=nr rfl
end
theorem G2 {P:Program} {t:TypeId} {d:TypeDesc} (h:P.underlying t=some d):e8 P (underlying t)=some d:=by
 unfold underlying program
 rw [mf]
 simp only [e8,Option.bind_some,h]
 rfl
section
variable {P:Program} {t:TypeId} {xo yo:Operand} {k Yq:IntKind} {a b:Int}
theorem Yr {op:BinOp} {x y:V} {a b v:Value} (ak:r4 x=some a) (bs:r4 y=some b) (aB:eqGuard op t xo yo a b=pure ()) (h:e8 P (binOp op t a b)=some v):ev P op t xo yo x y=some (kR v):=by
 unfold ev
 simp only [ak,bs]
 have e:(do eqGuard op t xo yo a b;binOp op t a b)=binOp op t a b:=by rw [aB];rfl
 rw [e,h]
 rfl
theorem x7 {op:BinOp} {v:Value} (h:e8 P (binOp op t (.int k a) (.int Yq b))=some v):ev P op t xo yo (.int k a) (.int Yq b)=some (kR v):=Yr rfl rfl (by cases op<;>rfl) h
theorem apb:ev P .add t xo yo (.int k a) (.int k b)=some (.int k (k.wrap (a+b))):=x7 (v:=.int k (k.wrap (a+b))) (by simp [binOp,Op.intArith];rfl)
theorem apc:ev P .sub t xo yo (.int k a) (.int k b)=some (.int k (k.wrap (a - b))):=x7 (v:=.int k (k.wrap (a - b))) (by simp [binOp,Op.intArith];rfl)
theorem apd:ev P .mul t xo yo (.int k a) (.int k b)=some (.int k (k.wrap (a * b))):=x7 (v:=.int k (k.wrap (a * b))) (by simp [binOp,Op.intArith];rfl)
theorem ape:ev P .eql t xo yo (.int k a) (.int k b)=some (.bool (a==b)):=x7 (v:=.bool (a==b)) (by simp [binOp,Op.intCmp];rfl)
theorem apf:ev P .neq t xo yo (.int k a) (.int k b)=some (.bool (a !=b)):=x7 (v:=.bool (a !=b)) (by simp [binOp,Op.intCmp];rfl)
theorem apg:ev P .lss t xo yo (.int k a) (.int k b)=some (.bool (decide (a<b))):=x7 (v:=.bool (decide (a<b))) (by simp [binOp,Op.intCmp];rfl)
theorem aph:ev P .leq t xo yo (.int k a) (.int k b)=some (.bool (decide (a≤b))):=x7 (v:=.bool (decide (a≤b))) (by simp [binOp,Op.intCmp];rfl)
theorem api:ev P .gtr t xo yo (.int k a) (.int k b)=some (.bool (decide (b<a))):=x7 (v:=.bool (decide (b<a))) (by simp [binOp,Op.intCmp];rfl)
theorem apj:ev P .geq t xo yo (.int k a) (.int k b)=some (.bool (decide (b≤a))):=x7 (v:=.bool (decide (b≤a))) (by simp [binOp,Op.intCmp];rfl)
theorem zg (av:0≤b):ev P .shl t xo yo (.int k a) (.int Yq b)=some (.int k (k.wrap (a * 2 ^ (min b.toNat k.bits)))) :=
 x7 (v:=.int k (k.wrap (a * 2 ^ (min b.toNat k.bits)))) (by simp only [binOp,Op.shift,if_neg (show ¬b<0 by omega)];rfl)
theorem G3 (av:0≤b):ev P .shr t xo yo (.int k a) (.int Yq b)=some (.int k (a.fdiv (2 ^ (min b.toNat k.bits)))) :=
 x7 (v:=.int k (a.fdiv (2 ^ (min b.toNat k.bits)))) (by simp only [binOp,Op.shift,if_neg (show ¬b<0 by omega)];rfl)
theorem ajg (av:b≠0):ev P .quo t xo yo (.int k a) (.int k b)=some (.int k (k.wrap (a.tdiv b))) :=
 x7 (v:=.int k (k.wrap (a.tdiv b))) (by simp only [binOp,Op.intDiv,ne_eq,not_true,if_false,if_neg av];rfl)
theorem L8 (av:b≠0):ev P .rem t xo yo (.int k a) (.int k b)=some (.int k (a.tmod b)) :=
 x7 (v:=.int k (a.tmod b)) (by simp only [binOp,Op.intDiv,ne_eq,not_true,if_false,if_neg av];rfl)
def Cx (k:IntKind) (a b:Int):Int:=k.wrap ((BitVec.ofInt k.bits a &&& BitVec.ofInt k.bits b).toNat:Int)
def xA (k:IntKind) (a b:Int):Int:=k.wrap ((BitVec.ofInt k.bits a ||| BitVec.ofInt k.bits b).toNat:Int)
def rk (k:IntKind) (a b:Int):Int:=k.wrap ((BitVec.ofInt k.bits a ^^^ BitVec.ofInt k.bits b).toNat:Int)
def PZ (k:IntKind) (a b:Int):Int:=k.wrap ((BitVec.ofInt k.bits a &&& ~~~(BitVec.ofInt k.bits b)).toNat:Int)
theorem apk:ev P .and t xo yo (.int k a) (.int k b)=some (.int k (Cx k a b)):=x7 (v:=.int k (Cx k a b)) (by simp only [binOp,ne_eq,not_true,if_false];rfl)
theorem apl:ev P .or t xo yo (.int k a) (.int k b)=some (.int k (xA k a b)):=x7 (v:=.int k (xA k a b)) (by simp only [binOp,ne_eq,not_true,if_false];rfl)
theorem apm:ev P .xor t xo yo (.int k a) (.int k b)=some (.int k (rk k a b)):=x7 (v:=.int k (rk k a b)) (by simp only [binOp,ne_eq,not_true,if_false];rfl)
theorem apn:ev P .andNot t xo yo (.int k a) (.int k b)=some (.int k (PZ k a b)):=x7 (v:=.int k (PZ k a b)) (by simp only [binOp,ne_eq,not_true,if_false];rfl)
theorem apo {b:Bool}:Ea P .not (.bool b)=some (.bool (!b)):=nr rfl
theorem apq:Ea P .neg (.int k a)=some (.int k (k.wrap (0 - a))):=nr rfl
def nx (P:Program) (t:TypeId):Option IntKind:=match P.underlying t with | some (.int k)=>some k | _=>none
theorem iZ {src dst:TypeId} {h:J} {bo k2:IntKind} (ad:nx P src=some bo) (bb:nx P dst=some k2):qJ P src dst (.int k a) h=some (.int k2 (k2.wrap a)):=by
 have h1:P.underlying src=some (.int bo):=by
  unfold nx at ad;split at ad
  ·rename_i hu;simp at ad;subst ad;exact hu
  ·cases ad
 have ae:P.underlying dst=some (.int k2):=by
  unfold nx at bb;split at bb
  ·rename_i hu;simp at bb;subst bb;exact hu
  ·cases bb
 unfold qJ
 have e:(r3 (.int k a)).bind (fun x=>e8 P (convert src dst x))=some (.int k2 (k2.wrap a)):=by
  show e8 P (convert src dst (.int k a))=_
  unfold convert
  rw [mf,G2 h1,Option.bind_some,mf,G2 ae]
  rfl
 rw [e]
 rfl
def Rp (P:Program) (t:TypeId):Bool:=match P.underlying t with | some .bool=>true | _=>false
theorem apr {t:TypeId} (h:Rp P t=true):P.underlying t=some .bool:=by
 unfold Rp at h;split at h
 ·assumption
 ·cases h
theorem aps {t:TypeId} (hu:Rp P t=true) (x y:Bool):e8 P (Op.equal t (.bool x) (.bool y))=some (x==y):=by
 unfold Op.equal Op.maxDepth Op.equalIn
 rw [mf,G2 (apr hu)]
 rfl
theorem apt {x y:Bool} (hu:Rp P t=true):ev P .neq t xo yo (.bool x) (.bool y)=some (.bool (x !=y)):=by
 refine Yr (v:=.bool (x !=y)) rfl rfl rfl ?_
 show e8 P (do pure (Value.bool (!(←Op.equal t (.bool x) (.bool y)))))=_
 rw [mf,aps hu]
 rfl
end
def eF (P:Program) (t:TypeId):Option Nat:=(P.underlying t).bind D9
section
variable {P:Program} {t:TypeId} {xo yo:Operand} {x y:V} {k:Nat}
theorem HP (h:eF P t=some k):∃ d,P.underlying t=some d∧D9 d=some k:=by
 unfold eF at h
 cases hu:P.underlying t with
 | none=>simp [hu] at h
 | some d=>simp [hu] at h;exact ⟨d,rfl,h⟩
theorem apu (h:eF P t=some k) (aW:r4 x=none∨r4 y=none) (aG:(JB x=some k∧JC y=some k)∨(JC x=some k∧JB y=some k)):ev P .eql t xo yo x y=some (.bool false):=by
 obtain ⟨d,hu,bb⟩:=HP h
 have a6:m6 d x y=true:=by
  unfold m6
  rw [bb]
  rcases aG with ⟨h1,ae⟩ | ⟨h1,ae⟩<;>simp [h1,ae]
 unfold ev
 split
 ·rename_i h1 ae;rw [h1,ae] at aW;simp at aW
 ·rw [hu];simp only [a6,if_true]
theorem apv (h:eF P t=some k) (aW:r4 x=none∨r4 y=none) (aG:(JB x=some k∧JC y=some k)∨(JC x=some k∧JB y=some k)):ev P .neq t xo yo x y=some (.bool true):=by
 obtain ⟨d,hu,bb⟩:=HP h
 have a6:m6 d x y=true:=by
  unfold m6
  rw [bb]
  rcases aG with ⟨h1,ae⟩ | ⟨h1,ae⟩<;>simp [h1,ae]
 unfold ev
 split
 ·rename_i h1 ae;rw [h1,ae] at aW;simp at aW
 ·rw [hu];simp only [a6,if_true]
theorem apw {i o:Nat} (h:eF P t=some 0):ev P .eql t xo yo (.ptr i o) .cZ=some (.bool false):=apu h (.inl rfl) (.inr ⟨rfl,rfl⟩)
theorem apx {i o:Nat} (h:eF P t=some 0):ev P .neq t xo yo (.ptr i o) .cZ=some (.bool true):=apv h (.inl rfl) (.inr ⟨rfl,rfl⟩)
theorem ajh (h:eF P t=some 0):e8 P (Op.equal t (.pointer none) (.pointer none))=some true:=by
 obtain ⟨d,hu,bb⟩:=HP h
 unfold Op.equal Op.maxDepth Op.equalIn
 rw [mf,G2 hu]
 cases d<;>simp [D9] at bb
 rfl
theorem apy (h:eF P t=some 0):ev P .eql t xo yo .cZ .cZ=some (.bool true):=by
 refine Yr (v:=.bool true) rfl rfl rfl ?_
 show e8 P (do pure (Value.bool (←Op.equal t (.pointer none) (.pointer none))))=_
 rw [mf,ajh h]
 rfl
theorem apz (h:eF P t=some 0):ev P .neq t xo yo .cZ .cZ=some (.bool false):=by
 refine Yr (v:=.bool false) rfl rfl rfl ?_
 show e8 P (do pure (Value.bool (!(←Op.equal t (.pointer none) (.pointer none)))))=_
 rw [mf,ajh h]
 rfl
end
theorem apA {k:IntKind} {n:Int}:(V.int k n).cells=some [.int k n]:=nr rfl
theorem apB {b:Bool}:(V.bool b).cells=some [.bool b]:=nr rfl
theorem apC:V.cZ.cells=some [.cZ]:=nr rfl
theorem apD {i o:Nat}:(V.ptr i o).cells=some [.ptr i o]:=nr rfl
theorem apE {i o n m:Nat}:(V.bp i o n m).cells=some [.bp i o n m]:=nr rfl
theorem apF {n:Nat} {cs:List V}:(V.ag n cs).cells=some [.ag n cs]:=nr rfl
theorem apG {i:Nat}:(V.map i).cells=some [.map i]:=nr rfl
theorem apH {fn:Fn} {xs ys:List V}:(V.func fn xs ys).cells=some [.func fn xs ys]:=nr rfl
theorem apI {t:TypeId} {v:V}:(V.iface t v).cells=some [.iface t v]:=nr rfl
theorem apJ {cs:List V}:(V.agg cs).cells=some cs:=nr rfl
theorem L9 {k:IntKind} {n:Int}:(V.int k n).one=true:=nr rfl
theorem apK {b:Bool}:(V.bool b).one=true:=nr rfl
theorem apL:V.ah.one=true:=nr rfl
theorem apM {i o n m:Nat}:(V.bp i o n m).one=true:=nr rfl
theorem apN {n:Nat} {cs:List V}:(V.ag n cs).one=true:=nr rfl
theorem Ok {fn:Fn} {xs ys:List V}:(V.func fn xs ys).one=true:=nr rfl
theorem all_nil:([]:List V).all (·.one)=true:=nr rfl
theorem all_cons {v:V} {l:List V}:(v::l).all (·.one)=(v.one&&l.all (·.one)):=nr rfl
section
variable {P:Program} {t tx e:TypeId} {x y v:V} {h:J} {k:Nat}
def ee (P:Program) (s:TypeId) (k:Nat):Option Nat :=
 match P.underlying s with
 | some (.struct dT)=>match dT[k]? with
  | some f=>match dQ P f.type with
   | some (_+1)=>some f.offset
   | _=>none
  | none=>none
 | _=>none
def Ys (off:Option Nat) (x:V):Option V :=
 match off,x with
 | some off,.ptr i o=>some (.ptr i (o+off))
 | some off,.at cs=>if off≤cs.length then some (.at (cs.drop off)) else none
 | _,_=>none
theorem apO:LX P t x k=Ys (ee P t k) x:=by
 unfold LX ee
 cases P.underlying t with
 | none=>rfl
 | some d=>
  cases d<;>try rfl
  rename_i dT
  simp only
  cases dT[k]? with
  | none=>rfl
  | some f=>
   simp only
   cases dQ P f.type with
   | none=>rfl
   | some n=>cases n<;>simp only [Ys]<;>cases x<;>rfl
theorem apP {i o off:Nat}:Ys (some off) (.ptr i o)=some (.ptr i (o+off)):=nr rfl
theorem apQ {cs:List V} {off:Nat}:Ys (some off) (.at cs)=if off≤cs.length then some (.at (cs.drop off)) else none:=nr rfl
def loadT (P:Program) (t:TypeId):Option (Option Nat) :=
 match wU P t,dQ P t with
 | some true,some n=>some (some n)
 | some false,some _=>some none
 | _,_=>none
def cX (ty:Option (Option Nat)) (p:Option (List V)):Option V :=
 match ty,p with
 | some (some n),some cs=>if n≤cs.length then some (.agg (cs.take n)) else none
 | some none,some (v::_)=>some v
 | _,_=>none
theorem aji:D3 P t x h=cX (loadT P t) (jp h x):=by
 unfold D3 loadT
 cases jp h x with
 | none=>cases wU P t with
  | none=>rfl
  | some b=>cases b<;>cases dQ P t<;>rfl
 | some cs=>cases wU P t with
  | none=>cases cs<;>rfl
  | some b=>cases b<;>cases dQ P t<;>cases cs<;>rfl
theorem apR {v:V} {r:List V}:cX (some none) (some (v::r))=some v:=nr rfl
theorem ajj {n:Nat} {cs:List V}:cX (some (some n)) (some cs)=if n≤cs.length then some (.agg (cs.take n)) else none:=nr rfl
def da (o:aV) (n:Nat):Option (List V):=match o with | .cells c _ _=>if n≤c.length then some (c.drop n) else none | _=>none
theorem apS {i o:Nat}:jp h (.ptr i o)=da (h.get i) o:=by
 simp only [jp,da]
 cases h.get i<;>rfl
theorem apT {cs:List V}:jp h (.at cs)=some cs:=nr rfl
theorem P0 {c:List V} {e:TypeId} {ex:Option Nat} {n:Nat}:da (.cells c e ex) n=if n≤c.length then some (c.drop n) else none:=nr rfl
def bM (n:Option Nat) (ob:aV) (o:Nat) (vs:List V):Option aV :=
 match n,ob with
 | some n,.cells c e ex=>if vs.length=n∧vs.all (·.one)=true∧o+n≤c.length then some (.cells (lay c o vs) e ex) else none
 | _,_=>none
def aa3 (n:Option Nat) (x:V) (vs:Option (List V)) (h:J):Option J :=
 match x,vs with
 | .ptr i o,some vs=>(bM n (h.get i) o vs).map fun ob=>h.set i ob
 | _,_=>none
theorem apU:PM P t x v h=aa3 (dQ P t) x v.cells h:=by
 unfold PM aa3
 cases x<;>try rfl
 rename_i i o
 cases v.cells with
 | none=>rfl
 | some vs=>
  simp only [bM]
  cases h.get i<;>cases dQ P t<;>simp
  rename_i c e ex n
  by_cases U:vs.length=n
  ·subst U;split<;>rfl
  ·simp [U]
theorem apV {i o:Nat} {n:Option Nat} {vs:List V}:aa3 n (.ptr i o) (some vs) h=(bM n (h.get i) o vs).map fun ob=>h.set i ob:=nr rfl
theorem apW (c:List V) (o:Nat) (v:V) (bc:o<c.length):lay c o [v]=c.set o v:=by
 unfold lay
 rw [List.set_eq_take_append_cons_drop,if_pos bc]
 simp
theorem apX (v:V) (vs c:List V) (o:Nat) (aM:o+(vs.length+1)≤c.length):lay c o (v::vs)=lay (c.set o v) (o+1) vs:=by
 have bc:o<c.length:=by omega
 have aF:c.set o v=c.take o++v::c.drop (o+1):=by rw [List.set_eq_take_append_cons_drop,if_pos bc]
 have hlen:(c.take o).length=o:=by simp;omega
 unfold lay
 rw [aF]
 have ar:(c.take o++v::c.drop (o+1)).take (o+1)=c.take o++[v]:=by
  rw [List.take_append,hlen,List.take_of_length_le (by omega),show o+1 - o=1 by omega]
  rfl
 have aT:(c.take o++v::c.drop (o+1)).drop (o+1+vs.length)=c.drop (o+(vs.length+1)):=by
  rw [List.drop_append,hlen,List.drop_eq_nil_of_le (by omega),show o+1+vs.length - o=vs.length+1 by omega]
  rw [List.drop_succ_cons,List.drop_drop,List.nil_append]
  congr 1
  omega
 rw [ar,aT]
 simp
theorem aa4:∀ (vs c:List V) (o:Nat),o+vs.length≤c.length→lay c o vs=wa c o vs
 | [],c,o,_=>by simp [lay,wa]
 | v::vs,c,o,aM=>by
  have kK:o+(vs.length+1)≤c.length:=by simpa using aM
  unfold wa
  rw [apX v vs c o kK,aa4 vs (c.set o v) (o+1) (by simp;omega)]
theorem sZ {c:List V} {e:TypeId} {ex:Option Nat} {o:Nat} (aN:v.one=true):bM (some 1) (.cells c e ex) o [v]=if o<c.length then some (.cells (c.set o v) e ex) else none:=by
 simp only [bM,List.length_cons,List.length_nil,all_cons,all_nil,aN,Bool.and_self,true_and]
 by_cases bc:o<c.length
 ·have:(0+1=1∧o+1≤c.length):=⟨rfl,bc⟩
  rw [if_pos bc]
  simp [this.2,apW _ _ _ bc]
 ·rw [if_neg bc]
  simp
  omega
theorem rl {c vs:List V} {e:TypeId} {ex:Option Nat} {o n:Nat} (aG:vs.length=n) (aN:vs.all (·.one)=true):bM (some n) (.cells c e ex) o vs=if o+n≤c.length then some (.cells (wa c o vs) e ex) else none:=by
 simp only [bM,aG,aN,true_and]
 by_cases bc:o+n≤c.length
 ·rw [if_pos bc,if_pos bc,aa4 _ _ _ (by omega)]
 ·rw [if_neg bc,if_neg bc]
theorem apY {c:List V} {o:Nat}:wa c o []=c:=nr rfl
theorem apZ {c r:List V} {o:Nat}:wa c o (v::r)=wa (c.set o v) (o+1) r:=nr rfl
theorem ap0:PO P e h=(iA P e).map fun zs=>(.ptr h.n 0,h.push (.cells zs e none)):=by
 unfold PO;cases iA P e<;>rfl
theorem ap1:Cr e x h=x.cells.map fun cs=>(.ptr h.n 0,h.push (.cells cs e none)):=by
 unfold Cr;cases x.cells<;>rfl
def e5 (P:Program) (t:TypeId):Option Nat:=match P.underlying t with | some (.slice e)=>dQ P e | _=>none
def vD (P:Program) (t:TypeId):Option (Nat×Nat):=match P.underlying t with | some (.array n e)=>(dQ P e).map fun s=>(n,s) | _=>none
def x8 (bp:Option Nat) (Rq:Option (Nat×Nat)) (x:V) (n:Int):Option V :=
 match bp,Rq,x with
 | some sz,_,.bp i o len _=>if 0≤n∧n<len then some (.ptr i (o+n.toNat * sz)) else none
 | some sz,_,.ag len cs=>if 0≤n∧n<len∧n.toNat * sz≤cs.length then some (.at (cs.drop (n.toNat * sz))) else none
 | _,some (len,sz),.ptr i o=>if 0≤n∧n<len then some (.ptr i (o+n.toNat * sz)) else none
 | _,some (len,sz),.at cs=>if 0≤n∧n<len∧n.toNat * sz≤cs.length then some (.at (cs.drop (n.toNat * sz))) else none
 | _,_,_=>none
theorem Rr {kk:IntKind} {n:Int}:ir P t x (.int kk n)=x8 (e5 P t) (vD P t) x n:=by
 unfold ir e5 vD
 cases P.underlying t with
 | none=>rfl
 | some d=>
  cases d<;>try rfl
  ·rename_i e
   simp only
   cases ad:dQ P e with
   | none=>cases x<;>simp [x8,ad]
   | some sz=>cases x<;>simp [x8,ad]
  ·rename_i len e
   simp only
   cases ad:dQ P e with
   | none=>cases x<;>simp [x8,ad]
   | some sz=>cases x<;>simp [x8,ad]
theorem Yt {i o len cap sz:Nat} {Rq:Option (Nat×Nat)} {n:Int}:x8 (some sz) Rq (.bp i o len cap) n=if 0≤n∧n<len then some (.ptr i (o+n.toNat * sz)) else none:=nr rfl
theorem ajk {len sz:Nat} {cs:List V} {Rq:Option (Nat×Nat)} {n:Int}:x8 (some sz) Rq (.ag len cs) n=if 0≤n∧n<len∧n.toNat * sz≤cs.length then some (.at (cs.drop (n.toNat * sz))) else none:=nr rfl
theorem ap2 {len sz:Nat} {cs:List V} {n:Int}:x8 none (some (len,sz)) (.at cs) n=if 0≤n∧n<len∧n.toNat * sz≤cs.length then some (.at (cs.drop (n.toNat * sz))) else none:=nr rfl
def ajl (kind:Option Nat) (x:V) (h:J):Option V :=
 match kind,x with
 | some 1,.bp _ _ n _=>some (.int .i64 n)
 | some 1,.ag n _=>some (.int .i64 n)
 | some 1,.ah=>some (.int .i64 0)
 | some 1,.z0=>some (.int .i64 0)
 | some 2,.oQ=>some (.int .i64 0)
 | some 2,.map i=>match h.get i with
  | .map es _=>some (.int .i64 es.length)
  | _=>none
 | _,_=>none
theorem Rs {kind:Nat} (hk:eF P t=some kind) (x9:kind=1∨kind=2):fU P t x h=ajl (some kind) x h:=by
 obtain ⟨d,hu,bb⟩:=HP hk
 unfold fU
 rw [hu]
 cases d<;>simp [D9] at bb<;>subst bb<;>simp at x9
 all_goals cases x<;>try rfl
theorem DD (hk:eF P t=some 1) {i o n c:Nat}:fU P t (.bp i o n c) h=some (.int .i64 n):=Rs hk (.inl rfl)
theorem aa5 (hk:eF P t=some 1) {n:Nat} {cs:List V}:fU P t (.ag n cs) h=some (.int .i64 n):=Rs hk (.inl rfl)
theorem Bf (hk:eF P t=some 1):fU P t .ah h=some (.int .i64 0):=Rs hk (.inl rfl)
theorem DE (hk:eF P t=some 1):fU P t .z0 h=some (.int .i64 0):=Rs hk (.inl rfl)
theorem P1 (hk:eF P t=some 2) {i:Nat} {es:List (Nat×V×V)} {c:Nat} (aB:h.get i=.map es c):fU P t (.map i) h=some (.int .i64 es.length):=by
 rw [Rs hk (.inr rfl)];simp [ajl,aB]
structure qi where
 e:TypeId
 zs:List V
 sz:Nat
 an:Nat
def jq (P:Program) (t:TypeId):Option qi :=
 match A0 P t with
 | none=>none
 | some e=>match iA P e,dQ P e,PJ P e with
  | some zs,some sz,some an=>if zs.length=sz then some ⟨e,zs,sz,an⟩ else none
  | _,_,_=>none
theorem wm {T:qi} (cS:jq P t=some T):A0 P t=some T.e∧iA P T.e=some T.zs∧dQ P T.e=some T.sz∧PJ P T.e=some T.an∧T.zs.length=T.sz∧P.underlying t=some (.slice T.e):=by
 unfold jq at cS
 split at cS
 ·cases cS
 ·rename_i e he
  split at cS
  ·rename_i zs sz an h1 ae aA
   split at cS
   ·rename_i aM
    simp at cS
    subst cS
    refine ⟨he,h1,ae,aA,aM,?_⟩
    unfold A0 at he
    split at he
    ·rename_i hu;rw [hu];simpa using he
    ·cases he
   ·cases cS
  ·cases cS
end
structure I (h h':J) (own:Nat→Prop):Prop where
 n:h.n≤h'.n
 get:∀ j,j<h.n→¬own j→h'.get j=h.get j
 glob:h'.glob=h.glob
def none_:Nat→Prop:=fun _=>False
theorem I.refl (h:J) (own:Nat→Prop):I h h own:=⟨Nat.le_refl _,fun _ _ _=>rfl,rfl⟩
theorem I.trans {h h1 ae:J} {o lX:Nat→Prop} (a:I h h1 o) (b:I h1 ae lX) (bc:∀ k,k<h.n→lX k→o k):I h ae o :=
 ⟨Nat.le_trans a.n b.n,fun j aX bZ=>(b.get j (Nat.lt_of_lt_of_le aX a.n) fun aF=>bZ (bc j aX aF)).trans (a.get j aX bZ),b.glob.trans a.glob⟩
theorem I.trans' {h h1 ae:J} {o:Nat→Prop} (a:I h h1 o) (b:I h1 ae o):I h ae o:=a.trans b fun _ _ h=>h
theorem I.mono {h h':J} {o o':Nat→Prop} (a:I h h' o) (hm:∀ k,o k→o' k):I h h' o':=⟨a.n,fun j aX bZ=>a.get j aX fun aF=>bZ (hm j aF),a.glob⟩
theorem I.up {h h':J} {o:Nat→Prop} (a:I h h' none_):I h h' o:=a.mono fun _ h=>h.elim
theorem I.push (h:J) (o:aV) (own:Nat→Prop):I h (h.push o) own:=⟨by simp [J.push],fun j aX _=>by simp [J.push,show j≠h.n by omega],rfl⟩
theorem I.set (h:J) (i:Nat) (o:aV):I h (h.set i o) (·=i):=⟨Nat.le_refl _,fun j aX bZ=>by simp [J.set];intro U;exact absurd U bZ,rfl⟩
theorem I.iQ {h0 h:J} {own:Nat→Prop} (k:I h0 h own) {i:Nat} (hi:h0.n≤i) (o:aV):I h0 (h.set i o) own :=
 k.trans (I.set h i o) fun j aX aF=>by omega
theorem I.a8 {h0 h:J} {own:Nat→Prop} (k:I h0 h own) (o:aV):I h0 (h.push o) own:=k.trans' (I.push h o own)
def aR:V→Option Nat
 | .bp i _ _ _=>some i
 | _=>none
def bn (v:V):Nat→Prop:=fun k=>aR v=some k
def Own (h:J) (e:TypeId) (sz:Nat) (v:V) (cs:List V):Prop :=
 ((v=.ah∨v=.z0)∧cs=[]) ∨
 ∃ i len cap c ex,v=.bp i 0 len cap∧i<h.n∧h.get i=.cells c e ex∧cs.length=len * sz∧c.take (len * sz)=cs ∧
  ((cap<cN∧cap * sz≤c.length∧len≤cap)∨(cap=cN∧ex=some sz))
theorem Own.ah (h:J) (e:TypeId) (sz:Nat):Own h e sz .ah []:=.inl ⟨.inl rfl,rfl⟩
theorem Own.z0 (h:J) (e:TypeId) (sz:Nat):Own h e sz .z0 []:=.inl ⟨.inr rfl,rfl⟩
theorem Own.aj {h h':J} {e:TypeId} {sz:Nat} {v:V} {cs:List V} {own:Nat→Prop} (bc:Own h e sz v cs) (hk:I h h' own) (bZ:∀ k,aR v=some k→¬own k):Own h' e sz v cs:=by
 rcases bc with bc | ⟨i,len,cap,c,ex,rfl,hi,aB,rest⟩
 ·exact .inl bc
 ·exact .inr ⟨i,len,cap,c,ex,rfl,Nat.lt_of_lt_of_le hi hk.n,(hk.get i hi (bZ i rfl)).trans aB,rest⟩
theorem Own.aQ {h h':J} {e:TypeId} {sz:Nat} {v:V} {cs:List V} (bc:Own h e sz v cs) (hk:I h h' none_):Own h' e sz v cs:=bc.aj hk fun _ _ h=>h
theorem Own.lt {h:J} {e:TypeId} {sz:Nat} {v:V} {cs:List V} (bc:Own h e sz v cs):∀ k,aR v=some k→k<h.n:=by
 intro k hk
 rcases bc with ⟨rfl | rfl,_⟩ | ⟨i,len,cap,c,ex,rfl,hi,_⟩
 ·simp [aR] at hk
 ·simp [aR] at hk
 ·simp [aR] at hk;omega
theorem Own.fresh {h:J} {e:TypeId} {sz:Nat} (c:List V) (len cap:Nat) (aF:c.length=cap * sz) (aM:len≤cap) (hu:cap<cN) :
  Own (h.push (.cells c e none)) e sz (.bp h.n 0 len cap) (c.take (len * sz)) :=
 .inr ⟨h.n,len,cap,c,none,rfl,by simp [J.push],by simp [J.push],by rw [List.length_take,aF];exact Nat.min_eq_left (Nat.mul_le_mul_right _ aM),rfl,.inl ⟨hu,by omega,aM⟩⟩
theorem Own.grown {h:J} {e:TypeId} {sz i len:Nat} {cs:List V} (hi:i<h.n) (aB:h.get i=.cells cs e (some sz)) (aM:cs.length=len * sz) :
  Own h e sz (.bp i 0 len cN) cs :=
 .inr ⟨i,len,cN,cs,some sz,rfl,hi,aB,aM,by rw [←aM];exact List.take_length,.inr ⟨rfl,rfl⟩⟩
def bQ (h:J) (a b:V):Prop:=aR b=aR a∨∀ k,aR b=some k→h.n≤k
theorem ajm {P:Program} {t tx:TypeId} {T:qi} (cS:jq P t=some T) (eH:0<T.sz)
  {h:J} {s x:V} {cs:List V} (bc:Own h T.e T.sz s cs) {n:Nat} {news:List V} (eh:iC P T.sz tx x h=some (n,news)) (aG:news.length=n * T.sz)
  (h1:(cs.length+news.length) * T.an≤lim) (ae:cs.length+news.length≤lim) :
  ∃ v h',n2 P t tx s x h=some (v,h')∧Own h' T.e T.sz v (cs++news)∧I h h' (bn s)∧bQ h s v:=by
 obtain ⟨he,b4,bz,lz,iP,_⟩:=wm cS
 unfold n2
 simp only [he,b4,bz,lz,iP,if_true,eh]
 have start:∀ s:V,(s=.ah∨s=.z0)→cs=[]→∃ v h',(if n=0 then some (s,h) else if n * T.an≤lim∧n≤lim then some (.bp h.n 0 n cN,h.push (.cells news T.e (some T.sz))) else none)=some (v,h')∧Own h' T.e T.sz v (cs++news)∧I h h' (bn s)∧bQ h s v:=fun s ad dZ=>by
  subst dZ
  by_cases h0:n=0
  ·subst h0
   have:news=[]:=List.eq_nil_of_length_eq_zero (by simpa using aG)
   subst this
   exact ⟨s,h,by simp,.inl ⟨ad,rfl⟩,I.refl _ _,.inl rfl⟩
  ·have Hl:n≤news.length:=by rw [aG];exact Nat.le_mul_of_pos_right n eH
   have bd:n * T.an≤lim:=Nat.le_trans (Nat.mul_le_mul_right T.an (by omega)) h1
   have bH:n≤lim:=by omega
   exact ⟨.bp h.n 0 n cN,h.push (.cells news T.e (some T.sz)),by simp [h0,bd,bH],Own.grown (by simp [J.push]) (by simp [J.push]) (by simpa using aG),I.push _ _ _,.inr fun k hk=>by simp [aR] at hk;omega⟩
 rcases bc with ⟨rfl | rfl,dZ⟩ | ⟨i,len,cap,c,ex,rfl,hi,aB,hlen,cu,fA⟩
 ·exact start _ (.inl rfl) dZ
 ·exact start _ (.inr rfl) dZ
 ·by_cases h0:n=0
  ·subst h0
   have:news=[]:=List.eq_nil_of_length_eq_zero (by simpa using aG)
   subst this
   exact ⟨.bp i 0 len cap,h,by simp,by rw [List.append_nil];exact .inr ⟨i,len,cap,c,ex,rfl,hi,aB,hlen,cu,fA⟩,I.refl _ _,.inl rfl⟩
  ·have Hl:len+n≤cs.length+news.length:=by
    rw [aG,hlen,←Nat.add_mul];exact Nat.le_mul_of_pos_right _ eH
   have bd:(len+n) * T.an≤lim:=Nat.le_trans (Nat.mul_le_mul_right T.an Hl) h1
   have bH:len+n≤lim:=by omega
   have dk:len * T.sz≤c.length:=by
    have:=congrArg List.length cu
    rw [List.length_take,hlen] at this
    omega
   simp only [h0,bd,bH,and_self,if_true,if_false,aB]
   rcases fA with ⟨se,vk,hle⟩ | ⟨rfl,rfl⟩
   ·simp only [se,if_true]
    by_cases gI:len+n≤cap
    ·have hf:0+(len+n) * T.sz≤c.length:=by rw [Nat.zero_add];exact Nat.le_trans (Nat.mul_le_mul_right _ gI) vk
     have hll:(lay c (len * T.sz) news).length=c.length:=qc _ _ _ (by rw [aG,←Nat.add_mul];omega)
     simp only [gI,if_true,hf]
     refine ⟨_,_,rfl,.inr ⟨i,len+n,cap,lay c (0+len * T.sz) news,ex,rfl,hi,by simp [J.set],by simp [hlen,aG,Nat.add_mul],?_,.inl ⟨se,?_,gI⟩⟩,⟨Nat.le_refl _,fun j aX bZ=>?_,rfl⟩,.inl rfl⟩
     ·simp only [Nat.zero_add,lay,cu,Nat.add_mul,←aG]
      have:(cs++news).length=len * T.sz+news.length:=by simp [hlen]
      rw [←this]
      exact List.take_left
     ·rw [Nat.zero_add,hll];exact vk
     ·simp only [J.set]
      rw [if_neg (by intro dJ;subst dJ;simp [bn,aR] at bZ)]
    ·simp only [gI,if_false]
     have HQ:0+len * T.sz≤c.length:=by omega
     simp only [HQ,if_true,List.drop_zero,cu]
     exact ⟨_,_,rfl,Own.grown (by simp [J.push]) (by simp [J.push]) (by simp [hlen,aG,Nat.add_mul]),I.push _ _ _,.inr fun k hk=>by simp [aR] at hk;omega⟩
   ·simp only [Nat.lt_irrefl,if_false,true_and,dk,and_self,if_true]
    refine ⟨_,_,rfl,Own.grown (by simp [J.push,J.set]) (by simp [J.push,J.set,cu]) (by simp [hlen,aG,Nat.add_mul]),⟨by simp [J.push,J.set],fun j aX bZ=>?_,rfl⟩,.inr fun k hk=>by simp [aR] at hk;omega⟩
    have h1:j≠i:=by intro dJ;subst dJ;simp [bn,aR] at bZ
    have ae:j≠h.n:=by omega
    simp [J.push,J.set,h1,ae]
theorem Own.src {P:Program} {t e:TypeId} {h:J} {sz:Nat} {v:V} {cs:List V} (bc:Own h e sz v cs) (hk:eF P t=some 1) (b3:cs.all (·.one)=true) (bz:0<sz) :
  ∃ n,iC P sz t v h=some (n,cs)∧cs.length=n * sz:=by
 obtain ⟨d,hu,bb⟩:=HP hk
 cases d<;>simp [D9] at bb
 rcases bc with ⟨rfl | rfl,rfl⟩ | ⟨i,len,cap,c,ex,rfl,hi,aB,hlen,cu,_⟩
 ·exact ⟨0,by simp [iC,hu],by simp⟩
 ·exact ⟨0,by simp [iC,hu],by simp⟩
 ·refine ⟨len,?_,hlen⟩
  have dk:len * sz≤c.length:=by
   have:=congrArg List.length cu
   rw [List.length_take,hlen] at this
   omega
  simp only [iC,hu,aB,List.drop_zero,cu,b3,Nat.zero_add]
  rw [if_pos ⟨dk,trivial⟩]
theorem ajn {P:Program} {t:TypeId} {h:J} {sz n:Nat} {cs:List V} (hk:eF P t=some 1) (aM:cs.length=n * sz) (b3:cs.all (·.one)=true):iC P sz t (.ag n cs) h=some (n,cs):=by
 obtain ⟨d,hu,bb⟩:=HP hk
 cases d<;>simp [D9] at bb
 simp only [iC,hu]
 rw [if_pos ⟨aM,b3⟩]
theorem ap3 {α:Type} (z:List α):made z 1=z:=by simp [made]
theorem ap4:∀ (vs c:List V),vs.length=c.length→wa c 0 vs=vs:=by
 intro vs c aM
 rw [←aa4 vs c 0 (by omega)]
 unfold lay
 simp [aM]
theorem JO {P:Program} {t:TypeId} {T:qi} (cS:jq P t=some T) {x:V} {xs:List V} (ak:x.cells=some xs) (aM:xs.length=T.sz) (ad:T.sz≤16777216) {h:J} :
  lk P t 1 [(0,x)] h=some (.bp h.n 0 1 1,h.push (.cells xs T.e none)):=by
 obtain ⟨he,b4,bz,lz,iP,_⟩:=wm cS
 unfold lk
 simp only [he,bz,b4,iP,ap3,Nat.one_mul]
 rw [if_pos ⟨trivial,by omega,by omega⟩]
 simp only [wW,ak,Nat.zero_mul,Nat.zero_add]
 rw [if_pos ⟨aM,by omega⟩,ap4 _ _ (by omega)]
theorem Ma {P:Program} {t:TypeId} {T:qi} (cS:jq P t=some T) (eH:0<T.sz)
  {h:J} {s:V} {cs xs:List V} (bc:Own h T.e T.sz s cs) (aM:xs.length=T.sz) (b3:xs.all (·.one)=true)
  (h1:(cs.length+T.sz) * T.an≤lim) (ae:cs.length+T.sz≤lim) :
  ∃ v h',n2 P t t s (.bp h.n 0 1 1) (h.push (.cells xs T.e none))=some (v,h')∧Own h' T.e T.sz v (cs++xs)∧I h h' (bn s)∧bQ h s v:=by
 obtain ⟨he,b4,bz,lz,iP,hu⟩:=wm cS
 have hk:=I.push h (.cells xs T.e none) none_
 have eh:iC P T.sz t (.bp h.n 0 1 1) (h.push (.cells xs T.e none))=some (1,xs):=by
  simp only [iC,hu,J.push,if_true,Nat.one_mul,Nat.zero_add,List.drop_zero]
  rw [List.take_of_length_le (by omega),if_pos ⟨by omega,b3⟩]
 obtain ⟨v,h',a6,lW,fq,dE⟩:=ajm (tx:=t) cS eH (bc.aQ hk) eh (by omega) (by rw [aM];exact h1) (by rw [aM];exact ae)
 refine ⟨v,h',a6,lW,(hk.up).trans' fq,dE.imp id fun U k q5=>?_⟩
 have:=U k q5
 simp [J.push] at this
 omega
structure Acc (h0 h:J) (e:TypeId) (sz:Nat) (v:V) (cs:List V):Prop where
 own:Own h e sz v cs
 aj:I h0 h none_
 new:∀ k,aR v=some k→h0.n≤k
theorem Acc.nil {h0 h:J} {e:TypeId} {sz:Nat} (k:I h0 h none_):Acc h0 h e sz .ah []:=⟨Own.ah _ _ _,k,by simp [aR]⟩
theorem Acc.elem {P:Program} {t:TypeId} {T:qi} (cS:jq P t=some T) {h0 h:J} {s:V} {cs xs:List V} (a:Acc h0 h T.e T.sz s cs) (eH:0<T.sz) (aM:xs.length=T.sz) (b3:xs.all (·.one)=true)
  (h1:(cs.length+T.sz) * T.an≤lim) (ae:cs.length+T.sz≤lim) :
  ∃ v h',n2 P t t s (.bp h.n 0 1 1) (h.push (.cells xs T.e none))=some (v,h')∧Acc h0 h' T.e T.sz v (cs++xs):=by
 obtain ⟨v,h',a6,lW,fq,dE⟩:=Ma cS eH a.own aM b3 h1 ae
 refine ⟨v,h',a6,lW,a.aj.trans fq fun k hk aF=>?_,fun k hk=>?_⟩
 ·have:=a.new k aF;omega
 ·rcases dE with dE | dE
  ·exact a.new k (dE ▸ hk)
  ·exact Nat.le_trans a.aj.n (dE k hk)
theorem Acc.app {P:Program} {t tx:TypeId} {T:qi} (cS:jq P t=some T) {h0 h:J} {s x:V} {cs news:List V} (a:Acc h0 h T.e T.sz s cs) (eH:0<T.sz) {n:Nat} (eh:iC P T.sz tx x h=some (n,news)) (aG:news.length=n * T.sz)
  (h1:(cs.length+news.length) * T.an≤lim) (ae:cs.length+news.length≤lim) :
  ∃ v h',n2 P t tx s x h=some (v,h')∧Acc h0 h' T.e T.sz v (cs++news):=by
 obtain ⟨v,h',a6,lW,fq,dE⟩:=ajm cS eH a.own eh aG h1 ae
 refine ⟨v,h',a6,lW,a.aj.trans fq fun k hk aF=>?_,fun k hk=>?_⟩
 ·have:=a.new k aF;omega
 ·rcases dE with dE | dE
  ·exact a.new k (dE ▸ hk)
  ·exact Nat.le_trans a.aj.n (dE k hk)
theorem Own.length {h:J} {e:TypeId} {v:V} {cs:List V} {sz:Nat} (bc:Own h e sz v cs) (bz:0<sz) (P:Program) {t:TypeId} (hk:eF P t=some 1):fU P t v h=some (.int .i64 (cs.length / sz:Nat)):=by
 rcases bc with ⟨rfl | rfl,rfl⟩ | ⟨i,len,cap,c,ex,rfl,hi,aB,hlen,_⟩
 ·rw [Bf hk];simp
 ·rw [DE hk];simp
 ·rw [DD hk,hlen,Nat.mul_div_cancel _ bz]
theorem aK.refl (r:V) (h:J):aK r h r h:=fun ρ B bg w dY hw aN=>⟨ρ,Ren.le.refl ρ,hw,aN⟩
theorem aK.trans {r cA eb:V} {h h1 ae:J} (a:aK r h cA h1) (b:aK cA h1 eb ae):aK r h eb ae:=fun ρ B bg w dY hw aN=>
 let ⟨ρ1,ff,c9,v1⟩:=a ρ B bg w dY hw aN
 let ⟨ρ2,eY,b0,v2⟩:=b ρ1 B bg w dY c9 v1
 ⟨ρ2,ff.trans eY,b0,v2⟩
theorem aK.own {h:J} {e:TypeId} {sz:Nat} {v:V} {cs:List V} (bc:Own h e sz v cs) {n:Nat} (aG:cs.length=n * sz) (bz:0<sz):∃ ae,aK v h (.ag n cs) ae∧I h ae (bn v):=by
 rcases bc with ⟨rfl | rfl,rfl⟩ | ⟨i,len,cap,c,ex,rfl,hi,aB,hlen,cu,fA⟩
 ·have h0:n=0:=by
   have:n * sz=0:=by simpa using aG.symm
   rcases Nat.mul_eq_zero.1 this with h | h<;>omega
  subst h0
  refine ⟨h,fun ρ B bg w dY hw aN=>⟨ρ,Ren.le.refl ρ,hw,?_⟩,I.refl _ _⟩
  cases aN
  exact .jE none 0 (by simp)
 ·have h0:n=0:=by
   have:n * sz=0:=by simpa using aG.symm
   rcases Nat.mul_eq_zero.1 this with h | h<;>omega
  subst h0
  exact ⟨h,fun ρ B bg w dY hw aN=>by
   cases aN with
   | z0 a a6=>exact ⟨ρ,Ren.le.refl ρ,hw,.jE a 0 (by simp)⟩,I.refl _ _⟩
 ·have JP:n=len:=by
   have:n * sz=len * sz:=by omega
   exact Nat.eq_of_mul_eq_mul_right bz this
  subst JP
  refine ⟨h.set i .dead,fun ρ B bg w dY hw aN=>?_,(I.set h i .dead).mono fun k hk=>by subst hk;rfl⟩
  obtain ⟨ρ',hle,cY,b,cm,arr,aU,aC,aF,aM⟩:=hw.freeze aB
  obtain ⟨b1,oD,pj,jr,rfl⟩:=aN.kT
  rw [aU] at pj
  simp at pj
  obtain ⟨rfl,rfl⟩:=pj
  have dk:n * sz≤c.length:=by
   have:=congrArg List.length cu
   rw [List.length_take,hlen] at this
   omega
  refine ⟨ρ',hle,cY,.ag 0 n _ aC jr (by rw [hlen];omega) fun k v v' h1 ae=>?_⟩
  have hk:k<n * sz:=by rw [←hlen];exact (List.getElem?_eq_some_iff.1 h1).1
  rw [←cu,List.getElem?_take,if_pos hk] at h1
  refine (aM.2 k v v' h1 ?_).mono hle
  rw [List.getElem?_take,if_pos (by omega),Array.getElem?_toList]
  simpa using ae
def az (l:List V) (h:J) (eY:List V) (ae:J):Prop :=
 ∀ (ρ:Ren) (B:Nat) (bg w:World) (ck:List Value),bt ρ B bg h w→bx ρ l ck→∃ ρ',ρ.le ρ'∧bt ρ' B bg ae w∧bx ρ' eY ck
theorem az.refl (l:List V) (h:J):az l h l h:=fun ρ B bg w ck hw aM=>⟨ρ,Ren.le.refl ρ,hw,aM⟩
theorem az.cons {v v2:V} {l eY:List V} {h h1 ae:J} (a:aK v h v2 h1) (b:az l h1 eY ae):az (v::l) h (v2::eY) ae:=fun ρ B bg w ck hw aM=>by
 obtain ⟨v',nV,rfl,aN,bw⟩:=aM.fh
 obtain ⟨ρ1,ff,c9,v1⟩:=a ρ B bg w v' hw aN
 obtain ⟨ρ2,eY,b0,v2⟩:=b ρ1 B bg w nV c9 (bw.mono ff)
 exact ⟨ρ2,ff.trans eY,b0,.cons (v1.mono eY) v2⟩
theorem aK.tuple {l eY:List V} {h ae:J} (a:az l h eY ae):aK (.tuple l) h (.tuple eY) ae:=fun ρ B bg w dY hw aN=>by
 cases aN with
 | tuple ad ak=>
  obtain ⟨ρ1,ff,c9,v1⟩:=a ρ B bg w _ hw (hd.list ⟨ad,ak⟩)
  exact ⟨ρ1,ff,c9,v1.nt.tuple⟩
def bh (v:V):Prop:=∀ (ρ ρ':Ren) (v':Value),a1 ρ v v'→(∀ b a,ρ.frz b=some a→ρ'.frz b=some a)→a1 ρ' v v'
def bl (l:List V):Prop:=∀ v ∈ l,bh v
theorem bl.nil:bl []:=by simp [bl]
theorem bl.cons {v:V} {l:List V} (h:bh v) (g:bl l):bl (v::l):=by
 intro x ak
 rcases List.mem_cons.1 ak with rfl | ak
 ·exact h
 ·exact g x ak
theorem bl.append {l m:List V} (h:bl l) (g:bl m):bl (l++m):=by
 intro x ak
 rcases List.mem_append.1 ak with ak | ak
 ·exact h x ak
 ·exact g x ak
theorem bl.flatMap {α:Type} {f:α→List V} {l:List α} (h:∀ x ∈ l,bl (f x)):bl (l.flatMap f):=by
 intro v aN
 obtain ⟨x,ak,aN⟩:=List.mem_flatMap.1 aN
 exact h x ak v aN
theorem bl.map {α:Type} {f:α→V} {l:List α} (h:∀ x ∈ l,bh (f x)):bl (l.map f):=by
 intro v aN
 obtain ⟨x,ak,rfl⟩:=List.mem_map.1 aN
 exact h x ak
theorem bh.flat {v:V} {a:Value} (h:r3 v=some a):bh v:=fun ρ ρ' v' aN _=>by
 have:=D1 aN h
 subst this
 cases aN<;>simp [r3] at h<;>first | (constructor;done) | skip
 rename_i xs jR ad ak
 cases xs with
 | nil=>exact .tuple ad (by simp)
 | cons x t=>simp at h
theorem bh.int (k:IntKind) (n:Int):bh (.int k n):=bh.flat rfl
theorem bh.bool (b:Bool):bh (.bool b):=bh.flat rfl
theorem bh.string (s:ByteArray):bh (.string s):=bh.flat rfl
theorem bh.cZ:bh .cZ:=bh.flat rfl
theorem bh.ah:bh .ah:=bh.flat rfl
theorem bh.top:bh .top:=fun ρ ρ' v' aN _=>.top _
theorem bh.ag {n:Nat} {cs:List V} (h:bl cs):bh (.ag n cs):=fun ρ ρ' v' aN aC=>by
 rcases aN.pX with ⟨rfl,rfl,a,wV,a6,rfl⟩ | ⟨b,o,cap,arr,av,aG,bc,ak,rfl⟩
 ·exact .jE a _ a6
 ·exact .ag o n cap (aC _ _ av) aG bc fun k v v' h1 ae=>h v (List.mem_of_getElem? h1) ρ ρ' v' (ak k v v' h1 ae) aC
theorem bh.at {cs:List V} (h:bl cs):bh (.at cs):=fun ρ ρ' v' aN aC=>by
 obtain ⟨b,o,arr,av,bc,ak,rfl⟩:=aN.A3
 exact .at o (aC _ _ av) bc fun k v v' h1 ae=>h v (List.mem_of_getElem? h1) ρ ρ' v' (ak k v v' h1 ae) aC
theorem bh.agg {cs:List V} (h:bl cs):bh (.agg cs):=fun ρ ρ' v' aN aC=>by
 cases aN with
 | agg ad ak=>exact .agg ad fun k v v' h1 ae=>h v (List.mem_of_getElem? h1) ρ ρ' v' (ak k v v' h1 ae) aC
theorem bh.tuple {cs:List V} (h:bl cs):bh (.tuple cs):=fun ρ ρ' v' aN aC=>by
 cases aN with
 | tuple ad ak=>exact .tuple ad fun k v v' h1 ae=>h v (List.mem_of_getElem? h1) ρ ρ' v' (ak k v v' h1 ae) aC
theorem a1.join {ρ ρ':Ren} (hle:ρ.le ρ') {v:V} {a:Value} (h:a1 ρ v a):∀ {b:Value},a1 ρ' v b→a1 ⟨ρ.ren,ρ'.frz,ρ.dfr⟩ v b:=by
 induction h with
 | ptr hi o=>
  intro b av
  obtain ⟨b1,bH,pj,rfl⟩:=av.v7
  rw [hle.ren _ _ hi] at pj
  simp at pj
  obtain ⟨rfl,rfl⟩:=pj
  exact a1.ptr (ρ:=⟨ρ.ren,ρ'.frz,ρ.dfr⟩) hi o
 | bp hi o len cap aM=>
  intro b av
  obtain ⟨b1,bH,pj,jr,rfl⟩:=av.kT
  rw [hle.ren _ _ hi] at pj
  simp at pj
  obtain ⟨rfl,rfl⟩:=pj
  exact a1.bp (ρ:=⟨ρ.ren,ρ'.frz,ρ.dfr⟩) hi o len cap aM
 | map hi=>
  intro b av
  cases av with
  | map pj=>
   rw [hle.ren _ _ hi] at pj
   simp at pj
   obtain ⟨rfl,rfl⟩:=pj
   exact .map hi
 | @ag Ye o n cap arr cs av aG bc ak ih=>
  intro b hP
  rcases hP.pX with ⟨rfl,rfl,a,wV,a6,rfl⟩ | ⟨b1,e4,ny,tu,kU,JQ,q4,ic,rfl⟩
  ·exact .jE a _ a6
  ·refine .ag e4 n ny kU JQ q4 fun k v v' h1 ae=>?_
   have hk:k<cs.length:=(List.getElem?_eq_some_iff.1 h1).1
   exact ih k v _ h1 (Array.getElem?_eq_getElem (by omega)) (ic k v v' h1 ae)
 | @«at» Ye o arr cs av bc ak ih=>
  intro b hP
  obtain ⟨b1,e4,tu,kU,q4,ic,rfl⟩:=hP.A3
  refine .at e4 kU q4 fun k v v' h1 ae=>?_
  have hk:k<cs.length:=(List.getElem?_eq_some_iff.1 h1).1
  exact ih k v _ h1 (Array.getElem?_eq_getElem (by omega)) (ic k v v' h1 ae)
 | func fn ad bw ak bs rf aaA=>
  intro b av
  cases av with
  | func fn jb Rt ic ajo=>
   refine .func fn jb Rt (fun k v v' h1 ae=>?_) (fun k v v' h1 ae=>?_)
   ·have hk:=(List.getElem?_eq_some_iff.1 h1).1
    exact rf k v _ h1 (Array.getElem?_eq_getElem (by omega)) (ic k v v' h1 ae)
   ·have hk:=(List.getElem?_eq_some_iff.1 h1).1
    exact aaA k v _ h1 (Array.getElem?_eq_getElem (by omega)) (ajo k v v' h1 ae)
 | iface t h ih=>intro b av;cases av with | iface t g=>exact .iface t (ih g)
 | agg ad ak rf=>
  intro b av
  cases av with
  | agg jb ic=>
   refine .agg jb fun k v v' h1 ae=>?_
   have hk:=(List.getElem?_eq_some_iff.1 h1).1
   exact rf k v _ h1 (Array.getElem?_eq_getElem (by omega)) (ic k v v' h1 ae)
 | tuple ad ak rf=>
  intro b av
  cases av with
  | tuple jb ic=>
   refine .tuple jb fun k v v' h1 ae=>?_
   have hk:=(List.getElem?_eq_some_iff.1 h1).1
   exact rf k v _ h1 (Array.getElem?_eq_getElem (by omega)) (ic k v v' h1 ae)
 | jE a wV a6=>
  intro b av
  rcases av.pX with ⟨_,_,a,wV,a6,rfl⟩ | ⟨b1,e4,ny,tu,kU,JQ,q4,ic,rfl⟩
  ·exact .jE a _ a6
  ·exact .ag e4 0 ny kU JQ q4 (by simp)
 | z0 a a6=>intro b av;cases av with | z0 a a6=>exact .z0 a a6
 | top=>intro b av;exact .top _
 | _=>intro b av;cases av;constructor
theorem bx.join {ρ ρ':Ren} (hle:ρ.le ρ') {l:List V} {a b:List Value} (h:bx ρ l a) (g:bx ρ' l b):bx ⟨ρ.ren,ρ'.frz,ρ.dfr⟩ l b:=by
 refine ⟨g.1,fun k v v' h1 ae=>?_⟩
 have hk:k<l.length:=(List.getElem?_eq_some_iff.1 h1).1
 exact (h.2 k v _ h1 (List.getElem?_eq_getElem (by rw [←h.1];exact hk))).join hle (g.2 k v v' h1 ae)
theorem bt.forget {ρ ρ':Ren} {B ap5:Nat} {bg ajp w w':World} {h h':J} (R:bt ρ ap5 ajp h w) (ij:bt ρ' B bg h' w') (hle:ρ.le ρ') (hk:I h h' none_):bt ⟨ρ.ren,ρ'.frz,ρ.dfr⟩ B bg h w':=by
 have aH:∀ i,h.get i≠.dead→i<h.n:=fun i hi=>by obtain ⟨_,_,_,_,U,_⟩:=R.heap.live hi;exact U
 refine ⟨⟨R.heap.qb,R.heap.inj,fun i=>?_,ij.heap.frz,fun g cs aB=>?_,ij.heap.base⟩,ij.below⟩
 ·cases aB:h.get i with
  | dead=>trivial
  | cells c e ex=>
   have hi:i<h.n:=aH i (by rw [aB];simp)
   have lX:=R.heap.obj i
   have e4:=ij.heap.obj i
   rw [hk.get i hi (by simp [none_]),aB] at e4
   rw [aB] at lX
   obtain ⟨b,cm,arr,aU,aC,cp,hw,aF,aM,ak⟩:=lX
   obtain ⟨b1,oD,tu,oC,nu,kV,oG,iJ,jr,ic⟩:=e4
   have:=hle.ren i _ aU
   rw [oC] at this
   simp at this
   obtain ⟨rfl,rfl⟩:=this
   exact ⟨b1,oD,tu,aU,nu,kV,oG,iJ,aM.join hle jr,ic⟩
  | map es cl=>
   have hi:i<h.n:=aH i (by rw [aB];simp)
   have lX:=R.heap.obj i
   have e4:=ij.heap.obj i
   rw [hk.get i hi (by simp [none_]),aB] at e4
   rw [aB] at lX
   obtain ⟨b,cm,arr,aU,aC,cp,hw,hm⟩:=lX
   obtain ⟨b1,oD,tu,oC,nu,kV,oG,tK⟩:=e4
   have:=hle.ren i _ aU
   rw [oC] at this
   simp at this
   obtain ⟨rfl,rfl⟩:=this
   refine ⟨b1,oD,tu,aU,nu,kV,oG,tK.1,fun k x y ak bs=>?_⟩
   have mn:k<es.length:=(List.getElem?_eq_some_iff.1 ak).1
   obtain ⟨_,cq,cP⟩:=hm.2 k x _ ak (Array.getElem?_eq_getElem (by rw [←hm.1];exact mn))
   obtain ⟨s0,gA,kL⟩:=tK.2 k x y ak bs
   exact ⟨s0,cq.join hle gA,cP.join hle kL⟩
  | o3 b mk vs=>
   have hi:i<h.n:=aH i (by rw [aB];simp)
   have lX:=R.heap.obj i
   have e4:=ij.heap.obj i
   rw [hk.get i hi (by simp [none_]),aB] at e4
   rw [aB] at lX
   obtain ⟨cm,arr,aU,aC,cp,hw,aM⟩:=lX
   obtain ⟨oD,tu,oC,nu,kV,oG,jr⟩:=e4
   have:=hle.ren i _ aU
   rw [oC] at this
   simp at this
   subst this
   exact ⟨oD,tu,aU,nu,kV,oG,aM.join hle jr⟩
  | iter m s l st=>
   have hi:i<h.n:=aH i (by rw [aB];simp)
   have lX:=R.heap.obj i
   have e4:=ij.heap.obj i
   rw [hk.get i hi (by simp [none_]),aB] at e4
   rw [aB] at lX
   obtain ⟨b,cm,bm,GU,aU,aC,cp,hm,hw⟩:=lX
   obtain ⟨b1,oD,ajq,ajr,oC,nu,kV,tK,oG⟩:=e4
   have:=hle.ren i _ aU
   rw [oC] at this
   simp at this
   obtain ⟨rfl,rfl⟩:=this
   have:=hle.ren m _ hm
   rw [tK] at this
   simp at this
   obtain ⟨rfl,rfl⟩:=this
   exact ⟨b1,oD,ajq,ajr,aU,nu,kV,hm,oG⟩
 ·obtain ⟨arr,aC,aU⟩:=R.heap.glob g cs aB
  obtain ⟨tu,nu,oC⟩:=ij.heap.glob g cs (by rw [hk.glob];exact aB)
  have:=hle.frz g _ aC
  rw [nu] at this
  simp at this
  subst this
  exact ⟨tu,nu,(aU.list.join hle oC.list).nt⟩
theorem di.pure {P:Program} {ca:FuncId} {args:List V} {h:J} {v:V} {E:J→Prop} (aN:bh v) (aF:di P ca args h (fun r h'=>∃ ae,aK r h' v ae∧I h ae none_) (fun h'=>I h h' none_∧E h)) :
  di P ca args h (fun r h'=>r=v∧h'=h) (fun h'=>h'=h∧E h):=by
 intro ρ B bg w args' hw a6
 refine (aF ρ B bg w args' hw a6).mono fun e w' U=>?_
 rcases U with ⟨ρ',r,dY,h',he,aU,cY,hle,ae,HN,hk⟩ | ⟨ρ',nv,h',he,qh,cY,hle,hk,bC⟩
 ·obtain ⟨ρ2,aa6,oG,JM⟩:=HN ρ' B bg w' dY cY aU
  have aM:=hle.trans aa6
  exact .inl ⟨⟨ρ.ren,ρ2.frz,ρ.dfr⟩,v,dY,h,he,aN _ _ _ JM fun _ _ h=>h,hw.forget oG aM hk,⟨fun _ _ h=>h,aM.frz,rfl⟩,rfl,rfl⟩
 ·exact .inr ⟨⟨ρ.ren,ρ'.frz,ρ.dfr⟩,nv,h,he,qh,hw.forget cY hle hk,⟨fun _ _ h=>h,hle.frz,rfl⟩,rfl,bC⟩
theorem Pure.of {P:Program} {ca:FuncId} {args:List V} {h:J} {v:V} (aN:bh v) (aF:ab P ca args h (fun r h'=>∃ ae,aK r h' v ae∧I h ae none_)):Pure P ca args h v:=by
 have:=di.pure (E:=fun _=>False) aN (aF.e)
 exact di.mono this (fun _ _ h=>h) fun _ h=>h.2.elim
theorem Pure.val {P:Program} {ca:FuncId} {args:List V} {h:J} {v:V} (aN:bh v) (aF:ab P ca args h (fun r h'=>r=v∧I h h' none_)):Pure P ca args h v :=
 .of aN (aF.mono fun r h' ⟨e,k⟩=>⟨h',by subst e;exact aK.refl _ _,k⟩)
theorem Acc.cast {h0 h:J} {e:TypeId} {sz:Nat} {v:V} {cs:List V} (a:Acc h0 h e sz v cs) {n:Nat} (aG:cs.length=n * sz) (bz:0<sz):∃ ae,aK v h (.ag n cs) ae∧I h0 ae none_:=by
 obtain ⟨ae,aF,hk⟩:=aK.own a.own aG bz
 exact ⟨ae,aF,a.aj.trans hk fun k aH dE=>by have:=a.new k dE;omega⟩
def P2 (P:Program) (ops:List Oper) (h:J):List Oper→(aE→Prop)→aE→Prop
 | [],K,f=>K f
 | o::rest,K,f=>match mr ops o.guard f with
  | some true=>∃ v,HO P o h f v∧P2 P ops h rest K (f.put o.dst v)
  | some false=>P2 P ops h rest K (f.put o.dst (.tuple []))
  | none=>False
def lA (P:Program) (ops:List Oper) (h:J) (o:Oper) (v:V) (f:aE):Prop :=
 (mr ops o.guard f=some true∧HO P o h f v)∨(mr ops o.guard f=some false∧v=.tuple [])
theorem ap6 {P:Program} {c:Call} {ty:TypeId} {bV ec:Operand→V} {h:J} (he:∀ x ∈ c.operands,bV x=ec x):pe P c ty bV h=pe P c ty ec h:=by
 have qE:c.args.toList.map bV=c.args.toList.map ec:=List.map_congr_left fun x ak=>he x (by simp at ak;simp [Call.operands,ak])
 unfold pe
 rw [qE]
 cases aF:c.callee with
 | value f=>have aC:bV f=ec f:=he f (by simp [Call.operands,aF]);simp only [aC]
 | invoke r m=>have aC:bV r=ec r:=he r (by simp [Call.operands,aF]);simp only [aC]
 | builtin b=>cases b<;>rfl
theorem ap7 {P:Program} {o:Oper} {bV ec:Operand→V} {h:J} (he:∀ x ∈ o.op.operands,bV x=ec x):gS P o bV h=gS P o ec h:=by
 obtain ⟨dst,op,type,pos,after,guard⟩:=o
 have Pr:∀ ps:Array (Nat×Operand),(∀ x ∈ ps.toList.map (·.2),bV x=ec x) →
   (ps.toList.map fun p=>(p.1,bV p.2))=(ps.toList.map fun p=>(p.1,ec p.2)):=fun ps aW=>
  List.map_congr_left fun p hm=>by rw [aW p.2 (List.mem_map.2 ⟨p,hm,rfl⟩)]
 cases op<;>simp only [Op.operands] at he<;>simp only [gS]
 case build t ps=>rw [Pr ps fun x ak=>he x (by simpa using ak)]
 case buildSlice t n ps=>rw [Pr ps fun x ak=>he x (by simpa using ak)]
 case makeFunc fn first captured=>
  rw [List.map_congr_left (l:=first.toList) fun x ak=>he x (by simp at ak;simp [ak]),List.map_congr_left (l:=captured.toList) fun x ak=>he x (by simp at ak;simp [ak])]
 case call c=>exact ap6 he
 case makeMap t r=>cases r<;>simp_all
 case slice t x lo hi mx=>cases lo<;>cases hi<;>cases mx<;>simp_all
 case next it s=>cases s<;>simp_all
 all_goals (first | rfl | (simp_all;done))
theorem aE.eval_put {f:aE} {h:J} {dst:Option Tmp} {v:V} {x:Operand} (ak:∀ d,dst=some d→x≠.tmp d):(f.put dst v).eval h x=f.eval h x:=by
 cases dst with
 | none=>rfl
 | some d=>
  cases x with
  | tmp t=>
   have bZ:t≠d:=fun e=>ak d rfl (e ▸ rfl)
   simp [aE.eval,aE.put,bZ]
  | _=>rfl
theorem aE.put_comm (f:aE) {x y:Option Tmp} (v u:V) (h:∀ d,x=some d→y≠some d):(f.put x v).put y u=(f.put y u).put x v:=by
 cases x with
 | none=>rfl
 | some d=>
  cases y with
  | none=>rfl
  | some e=>
   have bZ:d≠e:=fun he=>h d rfl (he ▸ rfl)
   funext t
   simp only [aE.put]
   by_cases h1:t=e
   ·subst h1;simp [Ne.symm bZ]
   ·simp [h1]
section
variable {P:Program} {ops:Array Oper} {h:J} {md:Region.Mode}
theorem wr (o:Oper) (f:aE) (dst:Option Tmp) (v:V) (aM:∀ d,dst=some d→d ∉ o.looksAt ops):gS P o ((f.put dst v).eval h) h=gS P o (f.eval h) h :=
 ap7 fun x ak=>aE.eval_put fun d bb ya=>aM d bb (by
  subst ya
  exact List.mem_append_left _ (List.mem_filterMap.2 ⟨.tmp d,by simpa using ak,rfl⟩))
theorem aa7 (o:Oper) (f:aE) (dst:Option Tmp) (v:V) (aM:∀ d,dst=some d→d ∉ o.looksAt ops):mr ops.toList o.guard (f.put dst v)=mr ops.toList o.guard f:=by
 cases dst with
 | none=>rfl
 | some d=>
  unfold mr
  cases aB:o.guard with
  | none=>rfl
  | some ap8=>
   obtain ⟨g,want⟩:=ap8
   simp only
   have e:ops.toList[g]?=ops[g]?:=by simp
   rw [e]
   cases bw:(ops[g]?).bind (·.dst) with
   | none=>rfl
   | some t=>
    have bZ:t≠d:=fun e=>aM d rfl (by subst e;simp [Oper.looksAt,aB,bw])
    simp [aE.put,bZ]
theorem lA.put {o:Oper} {v:V} {f:aE} (bs:lA P ops.toList h o v f) (dst:Option Tmp) (u:V) (aM:∀ d,dst=some d→d ∉ o.looksAt ops):lA P ops.toList h o v (f.put dst u):=by
 unfold lA HO at *
 rw [aa7 o f dst u aM,wr o f dst u aM]
 exact bs
theorem lA.HR {o:Oper} {v:V} {f:aE} (dst:Option Tmp) (u:V) (aM:∀ d,dst=some d→d ∉ o.looksAt ops) (bs:lA P ops.toList h o v (f.put dst u)):lA P ops.toList h o v f:=by
 unfold lA HO at *
 rwa [aa7 o f dst u aM,wr o f dst u aM] at bs
end
class Ru where
 h:J
def xJ (P:Program) (ol l:List Oper) [H:Ru] [K:jo] (f:aE):Prop:=P2 P ol H.h l (fun f=>K.go f H.h) f
def uj (P:Program) (o:Oper) (ol l:List Oper) [H:Ru] [K:jo] (f:aE):Prop:=∃ v,HO P o H.h f v∧@xJ P ol l H K (f.put o.dst v)
section
variable {P:Program} {ol l:List Oper} {H:Ru} {K:jo} {f:aE} {d:Option Tmp} {ty:TypeId} {pos:String} {dN:Array Edge} {op:Op} {g:Option (Nat×Bool)}
theorem ap9:@xJ P ol [] H K f=@o8 K f H.h:=nr rfl
theorem aqa:@xJ P ol (⟨d,op,ty,pos,dN,none⟩::l) H K f=@uj P ⟨d,op,ty,pos,dN,none⟩ ol l H K f:=nr rfl
def Hm (v:V) (o:Oper) (P:Program) (ol l:List Oper) [H:Ru] [K:jo] (f:aE):Prop :=
 match v,o.guard with
 | .bool c,some (_,b)=>if c=b then @uj P o ol l H K f else @xJ P ol l H K (f.put o.dst (.tuple []))
 | .top,_=>False
 | _,_=>@xJ P ol l H K (f.put o.dst (.tuple []))
theorem aqb {j:Nat} {b:Bool}:@xJ P ol (⟨d,op,ty,pos,dN,some (j,b)⟩::l) H K f =
  (match G1 ol j with | some t=>@Hm (f t) ⟨d,op,ty,pos,dN,some (j,b)⟩ P ol l H K f | none=>@xJ P ol l H K (f.put d (.tuple []))):=by
 rw [aa0]
 show P2 P ol H.h (⟨d,op,ty,pos,dN,some (j,b)⟩::l) (fun f=>K.go f H.h) f=_
 simp only [P2,mr]
 cases bw:(ol[j]?).bind (·.dst) with
 | none=>rfl
 | some t=>
  simp only [Hm]
  cases aC:f t<;>try rfl
  rename_i c
  simp only
  by_cases aF:c=b
  ·subst aF;simp only [beq_self_eq_true,if_true];rfl
  ·have:(c==b)=false:=by simp [aF]
   simp only [this,if_neg aF]
   rfl
theorem aqc {b:Bool} {j:Nat}:@Hm (.bool b) ⟨d,op,ty,pos,dN,some (j,b)⟩ P ol l H K f=@uj P ⟨d,op,ty,pos,dN,some (j,b)⟩ ol l H K f:=if_pos rfl
theorem aqd {j:Nat}:@Hm (.bool true) ⟨d,op,ty,pos,dN,some (j,false)⟩ P ol l H K f=@xJ P ol l H K (f.put d (.tuple [])):=nr rfl
theorem aqe {j:Nat}:@Hm (.bool false) ⟨d,op,ty,pos,dN,some (j,true)⟩ P ol l H K f=@xJ P ol l H K (f.put d (.tuple [])):=nr rfl
theorem aqf {j:Nat} {b:Bool} {vs:List V}:@Hm (.tuple vs) ⟨d,op,ty,pos,dN,some (j,b)⟩ P ol l H K f=@xJ P ol l H K (f.put d (.tuple [])):=nr rfl
def wo (o:Option V) (d:Option Tmp) (P:Program) (ol l:List Oper) [H:Ru] [K:jo] (f:aE):Prop:=match o with | some v=>@xJ P ol l H K (f.put d v) | none=>False
theorem aqg {v:V}:@wo (some v) d P ol l H K f=@xJ P ol l H K (f.put d v):=nr rfl
theorem yb {o:Oper} {x:Option V} (he:gS P o (f.eval H.h) H.h=lM x H.h):@uj P o ol l H K f=@wo x o.dst P ol l H K f:=by
 unfold uj HO
 rw [he]
 cases x with
 | none=>simp [lM,wo]
 | some v=>
  simp [lM,wo]
theorem aqh {x:Operand}:@uj P ⟨d,.move x,ty,pos,dN,g⟩ ol l H K f=@xJ P ol l H K (f.put d (f.eval H.h x)):=by
 rw [yb (x:=some (f.eval H.h x)) rfl];rfl
theorem aqi {x:Operand}:@uj P ⟨d,.assign x,ty,pos,dN,g⟩ ol l H K f=@xJ P ol l H K (f.put d (f.eval H.h x)):=by
 rw [yb (x:=some (f.eval H.h x)) rfl];rfl
theorem aqj {c a b:Operand}:@uj P ⟨d,.pick c a b,ty,pos,dN,g⟩ ol l H K f=@wo (PY (f.eval H.h c) (f.eval H.h a) (f.eval H.h b)) d P ol l H K f :=
 yb (by unfold gS PY lM;simp only;cases f.eval H.h c<;>rfl)
theorem aqk {t:TypeId} {a:Operand}:@uj P ⟨d,.load t a,ty,pos,dN,g⟩ ol l H K f=@wo (D3 P t (f.eval H.h a) H.h) d P ol l H K f:=yb rfl
theorem aql {t:TypeId} {ps:Array (Nat×Operand)}:@uj P ⟨d,.build t ps,ty,pos,dN,g⟩ ol l H K f=@wo (wd P t (ps.toList.map fun p=>(p.1,f.eval H.h p.2))) d P ol l H K f:=yb rfl
theorem aqm {x:Operand}:@uj P ⟨d,.nilCheck x,ty,pos,dN,g⟩ ol l H K f=@wo (Ee (f.eval H.h x)) d P ol l H K f :=
 yb (by
  unfold gS Ee lM;simp only
  generalize f.eval H.h x=y
  cases y<;>try rfl
  rename_i fn xs ys
  cases fn<;>rfl)
theorem aqn {op:BinOp} {t Yh:TypeId} {x y:Operand}:@uj P ⟨d,.binOp op t x y Yh,ty,pos,dN,g⟩ ol l H K f=@wo (ev P op t x y (f.eval H.h x) (f.eval H.h y)) d P ol l H K f:=yb rfl
theorem aqo {op:UnOp} {t:TypeId} {x:Operand}:@uj P ⟨d,.unOp op t x,ty,pos,dN,g⟩ ol l H K f=@wo (Ea P op (f.eval H.h x)) d P ol l H K f:=yb rfl
theorem aqp {s t:TypeId} {x:Operand}:@uj P ⟨d,.convert s t x,ty,pos,dN,g⟩ ol l H K f=@wo (qJ P s t (f.eval H.h x) H.h) d P ol l H K f:=by
 have he:gS P ⟨d,.convert s t x,ty,pos,dN,g⟩ (f.eval H.h) H.h=(match qJ P s t (f.eval H.h x) H.h with | some v=>some (.val v H.h) | none=>jW (DC P s t (f.eval H.h x) H.h)):=rfl
 cases aF:qJ P s t (f.eval H.h x) H.h with
 | some v=>
  rw [aF] at he
  exact yb (x:=some v) he
 | none=>
  rw [aF] at he
  unfold uj HO wo
  rw [he]
  cases hm:DC P s t (f.eval H.h x) H.h with
  | none=>simp [jW]
  | some p=>
   obtain ⟨v,h'⟩:=p
   have:=ai8 hm
   simp [jW,this]
theorem aqq {t:TypeId} {x:Operand} {lo hi mx:Option Operand}:@uj P ⟨d,.slice t x lo hi mx,ty,pos,dN,g⟩ ol l H K f=@wo (kz P t (f.eval H.h x) (lo.map (f.eval H.h)) (hi.map (f.eval H.h)) (mx.map (f.eval H.h))) d P ol l H K f:=yb rfl
theorem aqr {t:TypeId} {x:Operand} {k:Nat}:@uj P ⟨d,.fieldAddr t x k,ty,pos,dN,g⟩ ol l H K f=@wo (LX P t (f.eval H.h x) k) d P ol l H K f:=yb rfl
theorem aqs {t:TypeId} {x y:Operand}:@uj P ⟨d,.indexAddr t x y,ty,pos,dN,g⟩ ol l H K f=@wo (ir P t (f.eval H.h x) (f.eval H.h y)) d P ol l H K f:=yb rfl
theorem aqt {t:TypeId} {x y:Operand} {ok:Bool}:@uj P ⟨d,.lookup t x y ok,ty,pos,dN,g⟩ ol l H K f=@wo (n5 P t (f.eval H.h x) (f.eval H.h y) ok H.h) d P ol l H K f:=yb rfl
theorem aqu {x:Operand} {k:Nat}:@uj P ⟨d,.extract x k,ty,pos,dN,g⟩ ol l H K f=@wo (x6 (f.eval H.h x) k) d P ol l H K f :=
 yb (by unfold gS x6 lM;simp only;cases f.eval H.h x<;>rfl)
theorem aqv {t:TypeId} {x:Operand}:@uj P ⟨d,.call ⟨.builtin .len,#[x],#[t]⟩,ty,pos,dN,g⟩ ol l H K f=@wo (fU P t (f.eval H.h x) H.h) d P ol l H K f :=
 yb (by unfold gS pe vb lM;simp only [List.map_cons,List.map_nil];cases fU P t (f.eval H.h x) H.h<;>rfl)
theorem aqw {t t2:TypeId} {x y:Operand}:@uj P ⟨d,.call ⟨.builtin .min,#[x,y],#[t,t2]⟩,ty,pos,dN,g⟩ ol l H K f=@wo (wi P .min #[t,t2] ty (Bc #[x,y]) (f.eval H.h x) (f.eval H.h y)) d P ol l H K f :=
 yb (by
  unfold gS pe vb wi lM
  simp only [List.map_cons,List.map_nil]
  cases jO [f.eval H.h x,f.eval H.h y] with
  | none=>rfl
  | some as=>
   simp only
   generalize e8 P _=r
   cases r with
   | none=>rfl
   | some n=>cases n<;>rfl)
theorem aqx {t t2:TypeId} {x y:Operand}:@uj P ⟨d,.call ⟨.builtin .max,#[x,y],#[t,t2]⟩,ty,pos,dN,g⟩ ol l H K f=@wo (wi P .max #[t,t2] ty (Bc #[x,y]) (f.eval H.h x) (f.eval H.h y)) d P ol l H K f :=
 yb (by
  unfold gS pe vb wi lM
  simp only [List.map_cons,List.map_nil]
  cases jO [f.eval H.h x,f.eval H.h y] with
  | none=>rfl
  | some as=>
   simp only
   generalize e8 P _=r
   cases r with
   | none=>rfl
   | some n=>cases n<;>rfl)
end
section
variable {h:J} {o o':aV} {i j:Nat}
theorem eA:(h.push o).n=h.n+1:=nr rfl
theorem iw:(h.set i o).n=h.n:=nr rfl
theorem DF:(h.push o).glob=h.glob:=nr rfl
theorem Yu:(h.set i o).glob=h.glob:=nr rfl
theorem b6:(h.push o).get h.n=o:=by simp [J.push]
theorem kM (hi:i<h.n):(h.push o).get i=h.get i:=by simp [J.push,show i≠h.n by omega]
theorem xK (i:Nat):(h.push o).get i=if i=h.n then o else h.get i:=nr rfl
theorem aL:(h.set i o).get i=o:=by simp [J.set]
theorem jF (bZ:i≠j):(h.set j o).get i=h.get i:=by simp [J.set,bZ]
theorem set_push:(h.push o).set h.n o'=h.push o':=by
 unfold J.push J.set
 simp only
 congr 1
 funext k
 split<;>rfl
theorem set_set:(h.set i o).set i o'=h.set i o':=by
 unfold J.set
 simp only
 congr 1
 funext k
 split<;>rfl
theorem P3 (aB:h.get i=o):h.set i o=h:=by
 unfold J.set
 cases h with
 | mk n get glob=>
  simp only at aB⊢
  congr 1
  funext k
  by_cases hk:k=i
  ·subst hk;simp [aB]
  ·simp [hk]
theorem wq {a b:aV}:((h.push a).push b).get (h.n+1)=b:=by
 have:=b6 (h:=h.push a) (o:=b)
 rwa [eA] at this
theorem ve {a b:aV}:((h.push a).push b).get h.n=a:=by
 rw [kM (by rw [eA];omega),b6]
theorem aqy {a b c:aV}:((h.push a).push b).set (h.n+1) c=(h.push a).push c:=by
 have:=set_push (h:=h.push a) (o:=b) (o':=c)
 rwa [eA] at this
theorem aqz {a b c:aV}:((h.push a).push b).set h.n c=(h.push c).push b:=by
 simp only [J.push,J.set,J.mk.injEq,true_and,and_true]
 funext k
 by_cases h1:k=h.n
 ·subst h1
  simp
 ·simp [h1]
end
def mapOf {α:Type} (kk:IntKind) (enc:α→V) (l:List (Nat×Int×α)):List (Nat×V×V):=l.map fun e=>(e.1,.int kk e.2.1,enc e.2.2)
def db {α:Type} (l:List (Nat×Int×α)) (k:Int):Option α:=(l.find? fun e=>e.2.1==k).map (·.2.2)
def eB {α:Type} (cl:Nat) (l:List (Nat×Int×α)) (k:Int) (a:α):List (Nat×Int×α) :=
 match l with
 | []=>[(cl,k,a)]
 | e::r=>if e.2.1=k then (e.1,k,a)::r else e::eB cl r k a
def mu {α:Type} (cl:Nat) (l:List (Nat×Int×α)) (k:Int):Nat:=if (db l k).isSome then cl else cl+1
section
variable {P:Program} {t hg nW:TypeId} {kk:IntKind} {α:Type} {enc:α→V}
theorem ajs {a b:Int} {d:TypeDesc} (bb:d=.int kk):xH P hg d (.int kk a) (.int kk b)=some (a==b):=by
 subst bb
 simp [xH,r4,r3,vC,Instr.sameNow]
theorem aa8 {k:Int}:∀ (l:List (Nat×Int×α)),va P hg (.int kk) (.int kk k) (mapOf kk enc l)=some (l.findIdx? fun e=>e.2.1==k)
 | []=>rfl
 | e::l=>by
  show (match xH P hg (.int kk) (.int kk k) (.int kk e.2.1) with | some true=>some (some 0) | some false=>(va P hg (.int kk) (.int kk k) (mapOf kk enc l)).map (fun (o:Option Nat)=>o.map (·+1)) | none=>none)=_
  rw [ajs rfl,aa8 l,List.findIdx?_cons]
  by_cases hk:k=e.2.1
  ·subst hk;simp
  ·have h1:(k==e.2.1)=false:=by simp [hk]
   have ae:(e.2.1==k)=false:=by simp [Ne.symm hk]
   simp [h1,ae]
theorem aa9 {b:Bool} {k:Int} {d:TypeDesc} (hu:P.underlying hg=some d) (bb:d=.int kk):Ba P b hg (.int kk k)=true:=by
 subst bb
 unfold Ba
 simp only [r4,r3]
 unfold Instr.checkKey
 rw [mf,G2 hu]
 rfl
theorem Yv {l:List (Nat×Int×α)} {k:Int}:∀ {j:Nat},(l.findIdx? fun e=>e.2.1==k)=some j→∃ e,l[j]?=some e∧e.2.1=k∧db l k=some e.2.2:=by
 induction l with
 | nil=>intro j h;simp at h
 | cons a l ih=>
  intro j h
  rw [List.findIdx?_cons] at h
  unfold db
  rw [List.find?_cons]
  by_cases hk:a.2.1=k
  ·have:(a.2.1==k)=true:=by simp [hk]
   simp only [this,if_true,Option.some.injEq] at h
   subst h
   rw [this]
   exact ⟨a,rfl,hk,rfl⟩
  ·have:(a.2.1==k)=false:=by simp [hk]
   simp [this] at h⊢
   obtain ⟨aqA,nZ,rfl⟩:=h
   obtain ⟨e,h1,ae,aA⟩:=ih nZ
   unfold db at aA
   simp at aA
   exact ⟨e.1,e.2.1,e.2.2,by simpa using h1,ae,by simpa using aA⟩
theorem ajt {l:List (Nat×Int×α)} {k:Int} (h:(l.findIdx? fun e=>e.2.1==k)=none):db l k=none:=by
 unfold db
 rw [List.findIdx?_eq_none_iff] at h
 have:(l.find? fun e=>e.2.1==k)=none:=by
  rw [List.find?_eq_none]
  intro e he
  simp [h e he]
 rw [this]
 rfl
theorem aju {cl:Nat} {a:α} {k:Int}:∀ {l:List (Nat×Int×α)} {j:Nat},(l.findIdx? fun e=>e.2.1==k)=some j→mapOf kk enc (eB cl l k a)=(mapOf kk enc l).modify j fun e=>(e.1,.int kk k,enc a)
 | [],j,h=>by simp at h
 | e::l,j,h=>by
  rw [List.findIdx?_cons] at h
  unfold eB
  by_cases hk:e.2.1=k
  ·have:(e.2.1==k)=true:=by simp [hk]
   simp [this] at h
   subst h
   simp [hk,mapOf]
  ·have:(e.2.1==k)=false:=by simp [hk]
   simp [this] at h
   obtain ⟨aqA,nZ,rfl⟩:=h
   have:=aju (cl:=cl) (a:=a) (l:=l) nZ
   simp only [mapOf] at this
   simp [hk,mapOf,this]
theorem Yw {cl:Nat} {a:α} {k:Int}:∀ {l:List (Nat×Int×α)},(l.findIdx? fun e=>e.2.1==k)=none→eB cl l k a=l++[(cl,k,a)]
 | [],h=>rfl
 | e::l,h=>by
  rw [List.findIdx?_cons] at h
  unfold eB
  by_cases hk:e.2.1=k
  ·have:(e.2.1==k)=true:=by simp [hk]
   simp [this] at h
  ·have:(e.2.1==k)=false:=by simp [hk]
   simp [this] at h
   simp [hk,Yw (cl:=cl) (a:=a) (k:=k) (l:=l) (by simpa using h)]
theorem lookup_int {z:Value} {h:J} {i:Nat} {l:List (Nat×Int×α)} {cl:Nat} {k:Int} {ok:Bool} (hm:gR P t=some (hg,nW,.int kk)) (b4:qH P nW=some z) (aB:h.get i=.map (mapOf kk enc l) cl) :
  n5 P t (.map i) (.int kk k) ok h=some (match db l k with | some a=>(if ok then .tuple [enc a,.bool true] else enc a) | none=>(if ok then .tuple [jQ z,.bool false] else jQ z)):=by
 obtain ⟨_,hu⟩:=HJ hm
 unfold n5
 simp only [hm,b4,aB,aa9 hu rfl,if_true,aa8]
 cases aC:l.findIdx? fun e=>e.2.1==k with
 | none=>rw [ajt aC]
 | some j=>
  obtain ⟨e,h1,ae,aA⟩:=Yv aC
  rw [aA]
  have:(mapOf kk enc l)[j]?=some (e.1,.int kk e.2.1,enc e.2.2):=by simp [mapOf,h1]
  simp only [this]
  rfl
theorem P4 {h:J} {i:Nat} {l:List (Nat×Int×α)} {cl:Nat} {k:Int} {a:α} {v:V} (hm:gR P t=some (hg,nW,.int kk)) (aB:h.get i=.map (mapOf kk enc l) cl) (aN:v=enc a) :
  xZ P t (.map i) (.int kk k) v h=some (h.set i (.map (mapOf kk enc (eB cl l k a)) (mu cl l k))):=by
 subst aN
 obtain ⟨_,hu⟩:=HJ hm
 unfold xZ mu
 simp only [hm,aB,aa9 hu rfl,if_true,aa8]
 cases aC:l.findIdx? fun e=>e.2.1==k with
 | none=>
  rw [ajt aC,Yw aC]
  simp [mapOf]
 | some j=>
  obtain ⟨e,h1,ae,aA⟩:=Yv aC
  have:(mapOf kk enc l)[j]?=some (e.1,.int kk e.2.1,enc e.2.2):=by simp [mapOf,h1]
  rw [aA]
  simp only [this,Option.bind_some,r4,r3]
  have ad:Instr.sameBits 10000 (.int kk e.2.1) (.int kk k)=true:=by rw [ae];simp [Instr.sameBits]
  rw [if_pos ad,aju aC]
  rfl
end
def fH (es:List (Nat×V×V)) (cl:Nat):Prop:=(∀ e ∈ es,e.1<cl)∧(es.map (·.1)).Nodup
theorem fH.nil (cl:Nat):fH [] cl:=⟨by simp,by simp⟩
theorem fH.snoc {es:List (Nat×V×V)} {cl:Nat} (h:fH es cl) (k v:V):fH (es++[(cl,k,v)]) (cl+1):=by
 refine ⟨fun e he=>?_,?_⟩
 ·rcases List.mem_append.1 he with he | he
  ·have:=h.1 e he;omega
  ·simp at he;subst he;simp
 ·rw [List.map_append,List.nodup_append]
  refine ⟨h.2,by simp,fun a a6 b av=>?_⟩
  obtain ⟨e,he,rfl⟩:=List.mem_map.1 a6
  have:=h.1 e he
  simp at av
  omega
theorem Mb {r m cl:Nat} {seen:List Nat} {es:List (Nat×V×V)} {h:J} {d:Option Tmp} {K:jo} {f:aE} (aU:h.get r=.iter m cl seen cl) (hm:h.get m=.map es cl) (ad:fH es cl)
  (h0:qg es seen=[]→@o8 K (f.put d (.tuple [.bool false])) h)
  (h1:∀ e ∈ qg es seen,@o8 K (f.put d (.tuple [.bool true,e.2.1,e.2.2])) (h.set r (.iter m cl (seen++[e.1]) cl))):@Yn (HK (.ptr r 0) h) d K f:=by
 unfold HK
 simp only [aU,hm]
 have ja:¬((!seen.isEmpty&&!es.isEmpty&&es.all (fun e=>decide (cl≤e.1)))=true):=by
  intro U
  simp only [Bool.and_eq_true,Bool.not_eq_true',List.all_eq_true,decide_eq_true_eq] at U
  cases es with
  | nil=>simp at U
  | cons e r=>
   have ae:=U.2 e (by simp)
   have aA:=ad.1 e (by simp)
   omega
 rw [if_neg ja]
 unfold Yn
 intro v h' gh
 rcases List.mem_append.1 gh with gh | gh
 ·split at gh
  ·rename_i dx
   simp at gh
   obtain ⟨rfl,rfl⟩:=gh
   refine h0 ?_
   cases aM:qg es seen with
   | nil=>rfl
   | cons e r=>
    have gh:e ∈ qg es seen:=by rw [aM];simp
    have ae:=List.all_eq_true.1 dx e gh
    have aA:=ad.1 e (List.mem_filter.1 gh).1
    simp at ae
    omega
  ·simp at gh
 ·obtain ⟨e,he,heq⟩:=List.mem_map.1 gh
  simp at heq
  obtain ⟨rfl,rfl⟩:=heq
  exact h1 e he
theorem Mc {r m cl:Nat} {seen:List Nat} {es:List (Nat×V×V)} {h:J} {e:Nat×V×V} (aU:h.get r=.iter m cl (seen++[e.1]) cl) (hm:h.get m=.map es cl) (ad:fH es cl) (he:e ∈ es) :
  PT (.ptr r 0) h=some (.tuple [e.2.1,e.2.2]):=by
 unfold PT
 have aM:(seen++[e.1]).getLast?=some e.1:=by simp
 simp only [aU,hm,aM,if_true]
 have aC:es.find? (fun x=>x.1==e.1)=some e:=by
  have ae:=ad.2
  clear hm ad
  induction es with
  | nil=>simp at he
  | cons a es ih=>
   rw [List.find?_cons]
   rw [List.map_cons,List.nodup_cons] at ae
   rcases List.mem_cons.1 he with rfl | iv
   ·simp
   ·have:a.1≠e.1:=fun U=>ae.1 (by rw [U];exact List.mem_map.2 ⟨e,iv,rfl⟩)
    rw [show (a.1==e.1)=false by simp [this]]
    exact ih iv ae.2
 rw [aC]
 rfl
theorem Rv {es:List (Nat×V×V)} {seen:List Nat} {e:Nat×V×V} (he:e ∈ qg es seen):(qg es (seen++[e.1])).length<(qg es seen).length:=by
 unfold qg at *
 have h1:(es.filter fun x=>!(seen++[e.1]).contains x.1)=(es.filter fun x=>!seen.contains x.1).filter fun x=>x.1 !=e.1:=by
  rw [List.filter_filter]
  congr 1
  funext x
  by_cases h1:seen.contains x.1=true
  ·simp at h1;simp [h1]
  ·by_cases ae:x.1=e.1
   ·simp [ae]
   ·simp at h1;simp [h1,ae]
 rw [h1]
 have:=List.length_filter_lt_length_iff_exists (p:=fun x:Nat×V×V=>x.1 !=e.1) (l:=es.filter fun x=>!seen.contains x.1)
 exact this.2 ⟨e,he,by simp⟩
theorem Md {P:Program} {t:TypeId} {q:TypeId×TypeId×TypeDesc} {i:Nat} {h:J} {es:List (Nat×V×V)} {cl:Nat} (hm:gR P t=some q) (aB:h.get i=.map es cl):PS P t (.map i) h=some (.ptr h.n 0,h.push (.iter i cl [] cl)):=by
 unfold PS
 simp [hm,aB]
theorem aqB {P:Program} {t:TypeId} {h:J}:Q6 P t none h=some (.map h.n,h.push (.map [] 0)):=nr rfl
def l0 (w:World):Ren:={ ren:=fun _=>none,frz:=fun b=>match w.heap[b]? with | some (.cells c _ _)=>some c | _=>none }
def Eg:J:={ n:=0,get:=fun _=>.dead,glob:=fun _=>none }
theorem Rw {w:World} {b:Nat} {c:Array Value} {e:TypeId} {ky:Nat×Nat} (h:w.heap[b]?=some (.cells c e ky)):(l0 w).frz b=some c:=by simp [l0,h]
theorem aba (w:World):bt (l0 w) w.heap.size w Eg w:=by
 refine ⟨⟨fun _ _=>rfl,fun _ _ _ _ _ h=>by simp [Eg] at h,fun _=>trivial,fun b arr av=>?_,fun g cs aB=>by simp [Eg] at aB,Nat.le_refl _⟩,mm.refl _ _⟩
 simp only [l0] at av
 split at av
 ·rename_i c e ky af
  simp at av
  subst av
  exact ⟨e,ky,af⟩
 ·cases av
theorem ab.calls {P:Program} {ca:FuncId} {args:List V} {v:V} {a:Value} (aF:ab P ca args Eg fun r _=>r=v) (aN:r3 v=some a) {w:World}
  {args':Array Value} (a6:bx (l0 w) args args'.toList):Calls P ca args' w fun e w'=>e=.returned a∧Below w.heap.size w w' :=
 (aF (l0 w) w.heap.size w w args' (aba w) a6).mono fun e w' U=>by
  rcases U with ⟨ρ',r,dY,h',he,Ed,hw,_,e1⟩ | ⟨_,_,_,_,_,_,_,bC⟩
  ·subst e1
   rw [D1 Ed aN] at he
   exact ⟨he,hw.below.below⟩
  ·exact bC.elim
def uk (ops:Array Oper):Nat→Nat→Nat→Bool
 | 0,_,_=>false
 | n+1,k,i=>match ops[k]? with
  | some o=>o.after.any fun e=>Region.binds .any e&&(e.on==i||uk ops n e.on i)
  | none=>false
def Down (ops:Array Oper) (listed:Array Bool):Prop:=∀ k o,ops[k]?=some o→listed.getD k false=true→∀ e ∈ o.after,Region.binds .any e=true→listed.getD e.on false=true
theorem abb {ops:Array Oper} {listed:Array Bool} (bb:Down ops listed):∀ (n k i:Nat),(∀ o,ops[k]?=some o→∀ e ∈ o.after,Region.binds .any e=true→listed.getD e.on false=true)→uk ops n k i=true→listed.getD i false=true
 | 0,k,i,_,h=>by simp [uk] at h
 | n+1,k,i,hk,h=>by
  unfold uk at h
  cases bc:ops[k]? with
  | none=>simp [bc] at h
  | some o=>
   simp only [bc] at h
   obtain ⟨j,aX,U⟩:=Array.any_eq_true.1 h
   simp only [Bool.and_eq_true,Bool.or_eq_true,beq_iff_eq] at U
   have hm:o.after[j] ∈ o.after:=Array.getElem_mem aX
   have h1:=hk o bc _ hm U.1
   rcases U.2 with ae | ae
   ·rw [←ae];exact h1
   ·exact abb bb n _ i (fun o' lW e he av=>bb _ o' lW h1 e he av) ae
theorem Down.add {ops:Array Oper} {listed:Array Bool} (bb:Down ops listed) {i:Nat} (aU:i ∈ Region.ready .any ops listed):Down ops (listed.setIfInBounds i true):=by
 obtain ⟨_,o,bc,dx⟩:=mem_ready.1 aU
 intro k o' lW hk e he av
 by_cases tI:k=i
 ·subst tI
  rw [bc] at lW
  obtain rfl:o=o':=by simpa using lW
  exact getD_set_true (dx e he av)
 ·rw [getD_set_ne false (Ne.symm tI)] at hk
  exact getD_set_true (bb k o' lW hk e he av)
def yc (P:Program) (ops:Array Oper) (es:List Nat) (K E:aE→J→Prop):Nat→Array Bool→aE→J→Prop
 | 0,listed,f,h=>Region.ready .any ops listed=[]∧K f h
 | n+1,listed,f,h=>(Region.ready .any ops listed=[]→K f h) ∧
  ∀ i ∈ Region.ready .any ops listed,∀ o,ops[i]?=some o →
   if es.contains i then (match mr ops.toList o.guard f with
    | some true=>mV P o (fun cx h'=>yc P ops es K E n (listed.setIfInBounds i true) cx h') E f h
    | some false=>yc P ops es K E n (listed.setIfInBounds i true) (f.put o.dst (.tuple [])) h
    | none=>False)
   else ∃ v,lA P ops.toList h o v f∧yc P ops es K E n (listed.setIfInBounds i true) (f.put o.dst v) h
theorem P5 {P:Program} {n:Nat} {ops:Array Oper} {es:List Nat} (ba:ops.toList.all (fun o=>zC n o.dst)=true) {ρ0:Ren} {B:Nat} {bg:World} {Q:ed→aE→J→Prop} :
  ∀ (m:Nat) (listed:Array Bool) (f:aE) (h:J) (ρ:Ren) (a:Act) (w:World),ρ0.le ρ→bt ρ B bg h w→hN ρ n f a→yc P ops es (Q .normal) (Q .panic) m listed f h→wpAnyIn Fence.wide 0 P .any ops (qF n B bg ρ0 Q) m listed a w
 | 0,listed,f,h,ρ,a,w,hle,hw,aC,af=>⟨af.1,⟨ρ,.normal,f,h,trivial,hw,aC,hle,af.2⟩⟩
 | m+1,listed,f,h,ρ,a,w,hle,hw,aC,af=>by
  refine ⟨fun h0=>⟨ρ,.normal,f,h,trivial,hw,aC,hle,af.1 h0⟩,fun i hi=>?_⟩
  unfold wpOpIn
  cases bc:ops[i]? with
  | none=>
   obtain ⟨_,o,ZP,_⟩:=mem_ready.1 hi
   rw [bc] at ZP;cases ZP
  | some o=>
   simp only
   have cR:=af.2 i hi o bc
   have bb:zC n o.dst=true:=(List.all_eq_true.1 ba) o (by rw [Array.mem_toList_iff];exact Array.mem_of_getElem? bc)
   by_cases he:es.contains i=true
   ·rw [if_pos he] at cR
    cases wh:mr ops.toList o.guard f with
    | none=>simp [wh] at cR
    | some b=>
     rw [Yj aC ops o wh]
     cases b with
     | true=>
      simp only [wh] at cR
      simp only [if_true]
      exact aaW zu.wide bb hle hw aC cR (fun ρ' cx h' mq w' Eh cY dp aG=>P5 ba m _ cx h' ρ' mq w' Eh cY dp aG)
       (fun ρ' cx h' mq w' nv Eh cY dp qh bC=>⟨ρ',.panic,cx,h',qh,cY,dp,Eh,bC⟩)
     | false=>
      simp only [wh] at cR
      simp only [Bool.false_eq_true,if_false]
      exact ⟨fun _ _=>trivial,P5 ba m _ _ h ρ _ w hle hw (aC.put (Ri _) o.dst bb) cR⟩
   ·rw [if_neg he] at cR
    obtain ⟨v,bs,lN⟩:=cR
    rcases bs with ⟨wh,ad⟩ | ⟨wh,rfl⟩
    ·rw [Yj aC ops o wh]
     simp only [if_true]
     refine aaW zu.wide (next:=fun cx h'=>cx=f.put o.dst v∧h'=h) (exc:=fun _ _=>False) bb hle hw aC ?_ (fun ρ' cx h' mq w' Eh cY dp aG=>?_) (fun _ _ _ _ _ _ _ _ _ _ he=>he.elim)
     ·unfold mV
      rcases ad with ad | ⟨g,args,ad,aW⟩
      ·rw [ad];exact ⟨rfl,rfl⟩
      ·rw [ad]
       exact aW.e.mono (fun r h' ⟨ar,aT⟩=>⟨by rw [ar],aT⟩) fun _ h=>h
     ·obtain ⟨rfl,rfl⟩:=aG
      exact P5 ba m _ _ _ ρ' mq w' Eh cY dp lN
    ·rw [Yj aC ops o wh]
     simp only [Bool.false_eq_true,if_false]
     exact ⟨fun _ _=>trivial,P5 ba m _ _ h ρ _ w hle hw (aC.put (Ri _) o.dst bb) lN⟩
section
variable {P:Program} {ops:Array Oper} {es:List Nat} {K E:aE→J→Prop}
def Cy (ops:Array Oper) (es:List Nat):Nat→Nat→Array Bool→Bool
 | 0,_,listed=>(Region.ready .any ops listed).isEmpty
 | fuel+1,k,listed=>(if es.contains k then Region.ready .any ops listed==[k]
   else (Region.ready .any ops listed).contains k&&Region.free .any ops listed k&&es.all fun e=>listed.getD e true||uk ops ops.size e k)&&Cy ops es fuel (k+1) (listed.setIfInBounds k true)
theorem aqC {o:Oper} {K JR E:aE→J→Prop} (hk:∀ f h,K f h→JR f h) {f:aE} {h:J} (ad:mV P o K E f h):mV P o JR E f h:=by
 unfold mV at *
 split at ad
 ·exact hk _ _ ad
 ·exact ad.mono (fun _ _ h=>hk _ _ h) fun _ h=>h
 ·exact fun v h' hm=>hk _ _ (ad v h' hm)
 ·exact ad
 ·exact ad.mono (fun _ _ h=>hk _ _ h)
 ·exact ad.elim
theorem ajv {listed:Array Bool} {i e:Nat} (h:listed.getD e true=true):(listed.setIfInBounds i true).getD e true=true:=by
 by_cases wb:i=e
 ·subst wb
  by_cases aH:i<listed.size
  ·simp [aH]
  ·simp [aH]
 ·rw [getD_set_ne true wb];exact h
theorem Yx:∀ (l:List Oper) (k:Nat) (listed:Array Bool) (f:aE) (h:J),(∀ j,l[j]?=ops[k+j]?)→Down ops listed →
  Cy ops es l.length k listed=true→qK P ops.toList es K E k l f h→yc P ops es K E l.length listed f h
 | [],_,_,_,_,_,_,cp,af=>⟨by simpa [Cy] using cp,af⟩
 | o::l,k,listed,f,h,aM,mH,cp,af=>by
  have h0:ops[k]?=some o:=by simpa using (aM 0).symm
  have kK:∀ j,l[j]?=ops[k+1+j]?:=fun j=>by have:=aM (j+1);simpa [Nat.add_assoc,Nat.add_comm 1 j] using this
  simp only [List.length_cons,Cy,Bool.and_eq_true] at cp
  obtain ⟨aF,Rx⟩:=cp
  unfold qK at af
  by_cases he:es.contains k=true
  ·rw [if_pos he] at aF af
   have aU:Region.ready .any ops listed=[k]:=by simpa using aF
   refine ⟨fun h=>(by rw [aU] at h;cases h),fun i hi o' lW=>?_⟩
   rw [aU] at hi
   obtain rfl:i=k:=by simpa using hi
   rw [h0] at lW
   obtain rfl:o=o':=by simpa using lW
   rw [if_pos he]
   have Ei:=mH.add (show i ∈ Region.ready .any ops listed by rw [aU];simp)
   cases hw:mr ops.toList o.guard f with
   | none=>simp [hw] at af
   | some b=>
    cases b with
    | true=>
     simp only [hw] at af⊢
     exact aqC (fun cx h' hk=>Yx l (i+1) _ cx h' kK Ei Rx hk) af
    | false=>
     simp only [hw] at af⊢
     exact Yx l (i+1) _ _ h kK Ei Rx af
  ·rw [if_neg he] at aF af
   simp only [Bool.and_eq_true] at aF
   obtain ⟨⟨aU,aC⟩,abc⟩:=aF
   have ly:k ∈ Region.ready .any ops listed:=by simpa using aU
   have:∃ v,lA P ops.toList h o v f∧qK P ops.toList es K E (k+1) l (f.put o.dst v) h:=by
    split at af
    ·rename_i hw;obtain ⟨v,ad,af⟩:=af;exact ⟨v,.inl ⟨hw,ad⟩,af⟩
    ·rename_i hw;exact ⟨.tuple [],.inr ⟨hw,rfl⟩,af⟩
    ·exact af.elim
   obtain ⟨v,bs,bE⟩:=this
   have oI:∀ e ∈ es,listed.getD e true=true∨uk ops ops.size e k=true:=fun e sX=>by
    have:=List.all_eq_true.1 abc e sX
    simpa using this
   refine G4 h0 (by simpa using he) oI l.length listed f h mH (Region.free_spec h0 aC) ly bs (fun e h1=>h1)
    (Yx l (k+1) _ _ h kK (mH.add ly) Rx bE)
where
 G4 {i:Nat} {r7:Oper} {v:V} (hi:ops[i]?=some r7) (wb:es.contains i=false) {Hn:Array Bool} (oI:∀ e ∈ es,Hn.getD e true=true∨uk ops ops.size e i=true)
   (fuel:Nat) (listed:Array Bool) (f:aE) (h:J) (mH:Down ops listed) (Bg:∀ j lO,ops[j]?=some lO→j≠i→listed.getD j true=false→(∀ e ∈ lO.after,Region.binds .any e=true→e.on≠i)→r7.apart ops lO=true)
   (aU:i ∈ Region.ready .any ops listed) (bs:lA P ops.toList h r7 v f) (mv:∀ e,Hn.getD e true=true→listed.getD e true=true)
   (H:yc P ops es K E fuel (listed.setIfInBounds i true) (f.put r7.dst v) h):yc P ops es K E (fuel+1) listed f h:=by
  induction fuel generalizing listed f with
  | zero=>
   refine ⟨fun h=>(by rw [h] at aU;cases aU),fun j aX o bc=>?_⟩
   by_cases dJ:j=i
   ·subst dJ
    rw [hi] at bc
    obtain rfl:r7=o:=by simpa using bc
    rw [if_neg (by rw [wb];exact Bool.false_ne_true)]
    exact ⟨v,bs,H⟩
   ·have:=ready_mono aX dJ
    rw [H.1] at this
    cases this
  | succ fuel ih=>
   refine ⟨fun h=>(by rw [h] at aU;cases aU),fun j aX lO nk=>?_⟩
   by_cases dJ:j=i
   ·subst dJ
    rw [hi] at nk
    obtain rfl:r7=lO:=by simpa using nk
    rw [if_neg (by rw [wb];exact Bool.false_ne_true)]
    exact ⟨v,bs,H⟩
   ·have vo:=(mem_ready.1 aU).1
    obtain ⟨yd,Ry,Ej,dx⟩:=mem_ready.1 aX
    rw [nk] at Ej
    obtain rfl:lO=Ry:=by simpa using Ej
    have JS:¬es.contains j=true:=fun aF=>by
     rcases oI j (by simpa using aF) with h1 | h1
     ·rw [mv j h1] at yd;cases yd
     ·have ae:=abb mH _ j i (fun o' lW e he av=>by
                                   rw [nk] at lW;obtain rfl:lO=o':=by simpa using lW
                                   exact dx e he av) h1
      rcases Nat.lt_or_ge i listed.size with h' | h'
      ·simp [h'] at vo ae;rw [vo] at ae;cases ae
      ·simp [Array.getElem?_eq_none h'] at ae
    have hH:=H.2 j (ready_mono aX dJ) lO nk
    rw [if_neg JS] at hH⊢
    obtain ⟨u,Rz,lN⟩:=hH
    have wZ:∀ e ∈ lO.after,Region.binds .any e=true→e.on≠i:=fun e he av heq=>by
     have h1:=dx e he av
     have h0:=vo
     rw [heq] at h1
     rcases Nat.lt_or_ge i listed.size with h' | h'
     ·simp [h'] at h0 h1;rw [h0] at h1;cases h1
     ·simp [Array.getElem?_eq_none h'] at h1
    obtain ⟨cw,a2,a3⟩:=Oper.apart_spec (Bg j lO nk dJ yd wZ)
    refine ⟨u,Rz.HR r7.dst v cw,?_⟩
    have Bh:∀ k ok,ops[k]?=some ok→k≠i→(listed.setIfInBounds j true).getD k true=false →
      (∀ e ∈ ok.after,Region.binds .any e=true→e.on≠i)→r7.apart ops ok=true:=fun k ok hk tI vo ja=>by
     refine Bg k ok hk tI ?_ ja
     by_cases JT:j=k
     ·subst JT;exact yd
     ·rw [getD_set_ne true JT] at vo;exact vo
    refine ih (listed.setIfInBounds j true) (f.put lO.dst u) (mH.add aX) Bh (ready_mono aU (Ne.symm dJ)) (bs.put lO.dst u a3) (fun e h1=>ajv (mv e h1)) ?_
    rw [Array.setIfInBounds_comm _ _ dJ,←aE.put_comm f v u a2]
    exact lN
end
theorem aP.drawn {P:Program} {n id:Nat} {ops:Array Oper} (es:List Nat) (hm:P.follows .mixedOrders=true) (cp:Cy ops es ops.size 0 (Array.replicate ops.size false)=true) (ba:ops.toList.all (fun o=>zC n o.dst)=true) {Q:ed→aE→J→Prop} {f:aE} {h:J}
  (af:qK P ops.toList es (Q .normal) (Q .panic) 0 ops.toList f h):aP P n (.region id ops true) Q f h:=by
 intro ρ B bg a w hw aC
 refine wpIn_wide.1 (wpIn_region_any (n:=0) hm (P5 (ρ0:=ρ) (es:=es) ba _ _ f h ρ a _ (Ren.le.refl ρ) hw.drew aC ?_))
 have:=Yx (P:=P) (es:=es) ops.toList 0 (Array.replicate ops.size false) f h (by simp) (fun k o bc hk=>by simp [Array.getElem?_replicate] at hk;split at hk<;>simp_all) (by simpa using cp) af
 simpa using this
def Ek (P:Program) (ol:List Oper) (es:List Nat) (k:Nat) (l:List Oper) [K:jo] (f:aE) (h:J):Prop:=qK P ol es K.go K.exc k l f h
theorem aP.pk {P:Program} {n id:Nat} {ops:Array Oper} (es:List Nat) (hm:P.follows .mixedOrders=true) (cp:Cy ops es ops.size 0 (Array.replicate ops.size false)=true) (ba:ops.toList.all (fun o=>zC n o.dst)=true) {Q:xI} {f:aE} {h:J}
  (af:@Ek P ops.toList es 0 ops.toList (.out Q) f h):aP P n (.region id ops true) Q.go f h:=aP.drawn es hm cp ba af
section
variable {P:Program} {ol l:List Oper} {es:List Nat} {k:Nat} {K:jo} {f:aE} {h:J} {d:Option Tmp} {ty:TypeId} {pos:String} {dN:Array Edge} {op:Op} {g:Option (Nat×Bool)}
theorem zK:@Ek P ol es k [] K f h=@o8 K f h:=nr rfl
theorem s3:@o8 (jo.rest P ol es k l K) f h=@Ek P ol es k l K f h:=nr rfl
theorem G5:jo.exc (jo.rest P ol es k l K) f h=jo.exc K f h:=nr rfl
theorem aqD {o:Oper} {h:J} {f:aE} {X E:aE→J→Prop} (aN:∀ v h',gS P o (f.eval h) h=some (.val v h')→h'=h) (ad:mV P o X E f h) (JU:∀ g a,gS P o (f.eval h) h≠some (.call g a)) (ajw:∀ l,gS P o (f.eval h) h≠some (.alts l)) (ZN:gS P o (f.eval h) h≠some .panic) (ajx:∀ l a,gS P o (f.eval h) h≠some (.round l a)) :
  ∃ v,HO P o h f v∧X (f.put o.dst v) h:=by
 unfold mV at ad
 cases he:gS P o (f.eval h) h with
 | none=>simp [he] at ad
 | some s=>
  cases s with
  | val v h'=>simp only [he] at ad;have:=aN v h' he;subst this;exact ⟨v,.inl he,ad⟩
  | call g a=>exact absurd he (JU g a)
  | alts l=>exact absurd he (ajw l)
  | panic=>exact absurd he ZN
  | round l a=>exact absurd he (ajx l a)
def n9:Op→Bool
 | .move _ | .assign _ | .pick .. | .build .. | .load .. | .nilCheck _ | .binOp .. | .unOp .. | .makeInterface .. | .makeFunc .. | .slice .. | .fieldAddr .. | .field .. | .indexAddr .. | .index .. | .lookup .. | .entry _ | .typeAssert .. | .extract ..=>true
 | .convert s d _=>s !=d
 | .call ⟨.builtin .len,_,_⟩ | .call ⟨.builtin .min,_,_⟩ | .call ⟨.builtin .max,_,_⟩=>true
 | _=>false
theorem abd {x:Option V} {h:J} {s:Step} (aX:lM x h=some s):∃ v,s=.val v h:=by
 unfold lM at aX
 split at aX
 ·simp at aX;exact ⟨_,aX.symm⟩
 ·cases aX
theorem Me {o:Oper} (hi:n9 o.op=true) {bV:Operand→V} {s:Step} (he:gS P o bV h=some s):∃ v,s=.val v h:=by
 obtain ⟨dst,op,type,pos,after,guard⟩:=o
 unfold gS at he
 cases op<;>simp [n9] at hi<;>simp only at he
 case move x=>simp at he;exact ⟨_,he.symm⟩
 case assign x=>simp at he;exact ⟨_,he.symm⟩
 case pick c a b=>split at he<;>simp at he;exact ⟨_,he.symm⟩
 case nilCheck x=>split at he<;>simp at he<;>exact ⟨_,he.symm⟩
 case makeInterface t x=>split at he<;>simp at he;exact ⟨_,he.symm⟩
 case makeFunc fn xs ys=>simp at he;exact ⟨_,he.symm⟩
 case extract t k=>split at he<;>first | exact abd he | simp at he
 case convert a b x=>
  cases aF:qJ P a b (bV x) h with
  | some v=>
   rw [aF] at he
   exact ⟨v,(Option.some.inj he).symm⟩
  | none=>
   rw [aF] at he
   have:DC P a b (bV x) h=none:=by
    unfold DC
    split
    ·rw [if_neg (fun e=>hi e.1)]
    ·rfl
   rw [this] at he
   cases he
 case call c=>
  have av:c.callee=.builtin .len∨c.callee=.builtin .min∨c.callee=.builtin .max:=by
   split at hi<;>simp_all
  have El:∀ b,c.callee=.builtin b→(b=.len∨b=.min∨b=.max)→∃ v,s=.val v h:=fun b av aF=>by
   unfold pe at he
   rw [av] at he
   have iv:(match vb P b c.argTypes.toList type (Bc c.args) (c.args.toList.map bV) h with | some (v,h')=>some (Step.val v h') | none=>none)=some s:=by
    rcases aF with rfl | rfl | rfl<;>exact he
   cases a6:vb P b c.argTypes.toList type (Bc c.args) (c.args.toList.map bV) h with
   | none=>rw [a6] at iv;cases iv
   | some p=>
    obtain ⟨v,h'⟩:=p
    rw [a6] at iv
    simp at iv
    subst iv
    have:h'=h:=by
     unfold vb at a6
     rcases aF with rfl | rfl | rfl
     ·split at a6
      ·split at a6<;>simp at a6;exact a6.2.symm
      all_goals first
       | (simp at *;done)
       | (
         split at a6
         ·split at a6<;>simp at a6;exact a6.2.symm
         ·simp at a6)
     all_goals
      split at a6
      all_goals first
       | (simp at *;done)
       | (
         split at a6
         ·split at a6<;>simp at a6;exact a6.2.symm
         ·simp at a6)
    subst this
    exact ⟨v,rfl⟩
  rcases av with av | av | av
  ·exact El _ av (.inl rfl)
  ·exact El _ av (.inr (.inl rfl))
  ·exact El _ av (.inr (.inr rfl))
 all_goals exact abd he
def JV (w:Option Bool) (o:Oper) (P:Program) (ol:List Oper) (es:List Nat) (k:Nat) (l:List Oper) [K:jo] (f:aE) (h:J):Prop :=
 match w with
 | some true=>@ik P o (jo.rest P ol es (k+1) l K) f h
 | some false=>@Ek P ol es (k+1) l K (f.put o.dst (.tuple [])) h
 | none=>False
theorem aqE {o:Oper} (hi:(n9 o.op||es.contains k)=true) (ad:@JV (mr ol o.guard f) o P ol es k l K f h):@Ek P ol es k (o::l) K f h:=by
 unfold Ek qK
 unfold JV at ad
 by_cases he:es.contains k=true
 ·rw [if_pos he]
  cases hw:mr ol o.guard f with
  | none=>simp [hw] at ad
  | some b=>cases b<;>simp only [hw] at ad⊢<;>exact ad
 ·rw [if_neg he]
  have dE:n9 o.op=true:=by
   simp only [Bool.or_eq_true] at hi
   exact hi.resolve_right he
  cases hw:mr ol o.guard f with
  | none=>simp [hw] at ad
  | some b=>
   cases b with
   | false=>simp only [hw] at ad⊢;exact ad
   | true=>
    simp only [hw] at ad⊢
    have dK:mV P o (fun cx h'=>qK P ol es K.go K.exc (k+1) l cx h') K.exc f h:=ad
    exact aqD (fun v h' he=>by obtain ⟨u,hu⟩:=Me dE he;cases hu;rfl) dK
     (fun g a he=>by obtain ⟨u,hu⟩:=Me dE he;cases hu) (fun l he=>by obtain ⟨u,hu⟩:=Me dE he;cases hu) (fun he=>by obtain ⟨u,hu⟩:=Me dE he;cases hu) (fun l a he=>by obtain ⟨u,hu⟩:=Me dE he;cases hu)
theorem s4 {o:Oper} (hi:(n9 o.op||es.contains k)=true):@Ek P ol es k (o::l) K f h=@JV (mr ol o.guard f) o P ol es k l K f h:=by
 refine propext ⟨fun aB=>?_,aqE hi⟩
 unfold Ek qK at aB
 unfold JV
 by_cases he:es.contains k=true
 ·rw [if_pos he] at aB
  cases hw:mr ol o.guard f with
  | none=>simp [hw] at aB
  | some b=>cases b<;>simp only [hw] at aB⊢<;>exact aB
 ·rw [if_neg he] at aB
  have dE:n9 o.op=true:=by
   simp only [Bool.or_eq_true] at hi
   exact hi.resolve_right he
  cases hw:mr ol o.guard f with
  | none=>simp [hw] at aB
  | some b=>
   cases b with
   | false=>simp only [hw] at aB⊢;exact aB
   | true=>
    simp only [hw] at aB⊢
    obtain ⟨v,af,hk⟩:=aB
    show mV P o (fun cx h'=>qK P ol es K.go K.exc (k+1) l cx h') K.exc f h
    unfold mV
    rcases af with af | ⟨g,a,af,_⟩
    ·rw [af];exact hk
    ·obtain ⟨u,hu⟩:=Me (h:=h) dE af;cases hu
theorem s5 {o:Oper}:@JV (some true) o P ol es k l K f h=@ik P o (jo.rest P ol es (k+1) l K) f h:=nr rfl
theorem s6:mr ol none f=some true:=nr rfl
theorem aqF {o:Oper} {ca:FuncId} {args:List V} {v:V} (he:es.contains k=false) (aB:mr ol o.guard f=some true) (bc:gS P o (f.eval h) h=some (.call ca args)) (aW:Pure P ca args h v) (hk:@Ek P ol es (k+1) l K (f.put o.dst v) h):@Ek P ol es k (o::l) K f h:=by
 unfold Ek qK
 rw [if_neg (by simp only [he];simp),aB]
 exact ⟨v,.inr ⟨ca,args,bc,aW⟩,hk⟩
end
end Go.Proofs.YtedkjhifbibpmaaGreatDoor.Ab
