/-
  Rules of the machine on abstract states. Conditions: as each theorem says.
-/
import Derived.Test.YtemdgidnhgcafaaGreatDoorAbA
import Derived.Lib.Overlaps
import Derived.Laws.LoneSync
import Derived.LoopN
import Derived.ScopeJumps
import Derived.Deep.Quiet
import Derived.OrdersIn
import Derived.RangeFuncIn
import Derived.RangeFuncLeaves
import Derived.RangeFuncRecord
import Derived.IntWalk
open Array renaming ext'->avE,getElem?_eq_getElem->avd,getElem?_modify->avP,getElem?_toList->avF,getElem?_eq_some_iff->avl,getElem?_append_left->aAs,eq_empty_of_size_eq_zero->awK,replicate->awb,getElem?_eq_none->axP
open List renaming getElem?_eq_some_iff->VX,getElem?_take->avg,length_take->VV,getElem?_eq_getElem->ME,findIdx?_map->aAr,getElem?_modify->ayk,take_of_length_le->are,length_nil->avi,all_eq_true->avh,mem_of_getElem?->avK,length_cons->ave,mapM_cons->aAu,getD->ava,map_cons->au9,map_nil->avw,set_eq_take_append_cons_drop->ayn,eq_nil_of_length_eq_zero->avA,length->avu,drop_zero->avW,mem_cons->IN,mem_append->avs,mem_map->MF,map_congr_left->awS,findIdx?_cons->axL,find?_cons->avX
open Prod renaming mk->avp
open Nat renaming one_ne_zero->av4,le_refl->BY,lt_succ_self->awc,le_trans->OF,lt_of_lt_of_le->MC,mul_le_mul_right->avo,le_mul_of_pos_right->aAz,add_mul->atY,zero_add->avm,one_mul->awB,mul_eq_zero->awz,lt_or_ge->awr
open Bool renaming and_eq_true->VW,false_eq_true->avO,or_eq_true->avY,false_ne_true->aAC
open Option renaming bind_some->avQ
set_option linter.unusedVariables false
set_option linter.unusedSimpArgs false
namespace Go.Proofs.YtemdgidnhgcafaaGreatDoor.Ab
open Go Go.RowKit
inductive Step where
 | val (v:V) (h:I)
 | call (f:FuncId) (args:List V)
 | alts (l:List (V×I))
 | panic
 | round (l:Nat) (args:List V)
def bT (P:Program) (f:FuncId):Bool :=
 match P.funcs[f]? with
 | some fn => fn.body.isSome && fn.name != "runtime.NumGoroutine"
 | none=>false
def Gj (P:Program) (t:TypeId):Option Bool:=match P.underlying t with | some (.interface _)=>some true | some _=>some false | none=>none
def Gk (P:Program) (t:TypeId) (x:V) (h:I):Option I :=
 match jp P t,x with
 | some _,.ag=>some h
 | some _,.z0=>some h
 | some _,.ah n _=>if n=0 then some h else none
 | some e,.bj i o len _=>
  match gR P e,h.get i with
  | some zs,.cells c bd ex=>
   if len=0 then some h
   else if zs.all (·.one)=true∧o+(made zs len).length≤c.length then some (h.set i (.cells (lay c o (made zs len)) bd ex)) else none
  | _,_=>none
 | _,_=>none
theorem ago {α:Type} (p:α→Bool) (z:List α) (n:Nat) (h:z.all p=true):(made z n).all p=true:=by
 induction n with
 | zero=>rfl
 | succ n ih=>rw [F8,List.all_append,ih,h];rfl
theorem agp {P:Program} {t ty:TypeId} {x:V} {b0:Value} {h h':I} (aa:Gk P t x h=some h') {ρ:Ren} {B:Nat} {aJ w:World} (R:aR ρ B aJ h w) (aj:aB ρ x b0) :
  ∃ w',(Builtin.clear_ #[t] ty #[b0]).run P w=.ok (.tuple #[]) w'∧aR ρ B aJ h' w':=by
 unfold Gk at aa;have bL:∀ e,jp P t=some e→P.underlying t=some (.slice e):=fun e he=>by
  unfold jp at he;split at he
  ·rename_i hu;rw [hu];simpa using he
  ·cases he
 split at aa
 ·rename_i e he;obtain rfl:h=h':=by simpa using aa
  cases aj;exact ⟨w,by simp [Builtin.clear_,run_underlying (bL _ he)],R⟩
 ·rename_i e he;obtain rfl:h=h':=by simpa using aa
  cases aj with
  | z0 a aP=>cases a<;>exact ⟨w,by simp [Builtin.clear_,run_underlying (bL _ he)],R⟩
 ·rename_i e n cs he;split at aa
  case isFalse=>cases aa
  rename_i aK;subst aK;obtain rfl:h=h':=by simpa using aa
  rcases aj.j1 with ⟨_,rfl,a,kN,aP,rfl⟩ | ⟨b,o,cap,arr,al,aG,aN,dC,rfl⟩
  ·cases a with
   | none=>
    obtain rfl:=aP rfl;exact ⟨w,by simp [Builtin.clear_,run_underlying (bL _ he)],R⟩
   | some a=>exact ⟨w,by simp [Builtin.clear_,run_underlying (bL _ he)],R⟩
  ·exact ⟨w,by simp [Builtin.clear_,run_underlying (bL _ he)],R⟩
 ·rename_i e i o len cap he;split at aa
  case h_2=>cases aa
  rename_i zs c bd ex bR az;obtain ⟨b,bA,hi,aw,rfl⟩:=aj.gm;split at aa
  ·rename_i aK;subst aK;obtain rfl:h=h':=by simpa using aa
   exact ⟨w,by simp [Builtin.clear_,run_underlying (bL _ he)],R⟩
  ·rename_i aK;split at aa
   case isFalse=>cases aa
   rename_i ay;obtain rfl:_=h':=by simpa using aa
   obtain ⟨z,E1,eK⟩:=F6 bR;obtain ⟨w',c2,eu⟩:=Hy (P:=P) az R hi o ((eK ρ).made len) (ago _ _ _ ay.1) ay.2;refine ⟨w',?_,eu⟩;obtain ⟨m,rfl⟩:∃ m,len=m+1:=⟨len - 1,by omega⟩
   have s9:(Builtin.zeroCells z.cells (m+1)).toList=made z.cells.toList (m+1):=MI z.cells (m+1);simp [Builtin.clear_,run_underlying (bL _ he),MN E1,s9,c2]
 ·cases aa
def tD (P:Program) (t:TypeId) (x:V):Option V :=
 match P.underlying t,x with
 | some (.slice _),.bj _ _ _ cap=>if cap<cj then some (.int .i64 cap) else none
 | some (.slice _),.ag=>some (.int .i64 0)
 | some (.slice _),.z0=>some (.int .i64 0)
 | _,_=>none
theorem agq {P:Program} {t ty:TypeId} {x v:V} {b0:Value} {h:I} (aa:tD P t x=some v) {ρ:Ren} {B:Nat} {aJ w:World} (R:aR ρ B aJ h w) (aj:aB ρ x b0) :
  bP P (Builtin.cap_ #[t] ty #[b0]) ρ w v:=by
 unfold tD at aa;split at aa
 ·rename_i e i o len cap hu;split at aa
  case isFalse=>cases aa
  rename_i ay;obtain rfl:=Option.some.inj aa;obtain ⟨b,bA,hi,aw,rfl⟩:=aj.gm;have dp:fz bA cap=cap:=by simp [fz,ay]
  exact .mk (by simp [Builtin.cap_,run_underlying hu,dp];rfl) (.int _ _)
 ·rename_i e hu;obtain rfl:=Option.some.inj aa;cases aj;exact .mk (by simp [Builtin.cap_,run_underlying hu];rfl) (.int _ _)
 ·rename_i e hu;obtain rfl:=Option.some.inj aa;cases aj;exact .mk (by simp [Builtin.cap_,run_underlying hu];rfl) (.int _ _)
 ·cases aa
def qj (P:Program) (b:Builtin) (types:List TypeId) (ty:TypeId) (consts:Array Bool) (args:List V) (h:I):Option (V×I) :=
 match b,types,args with
 | .len,[t],[x]=>match dS P t x h with
  | some v=>some (v,h)
  | none=>none
 | .append,[t,tx],[s,x]=>kO P t tx s x h
 | .copy,[t,_],[d,s]=>vx P t d s h
 | .delete,[t,_],[m,k]=>(Gf P t m k h).map fun h'=>(.tuple [],h')
 | .clear,[t],[x]=>(Gk P t x h).map fun h'=>(.tuple [],h')
 | .cap,[t],[x]=>match tD P t x with
  | some v=>some (v,h)
  | none=>none
 | _,_,_=>
  match jA args with
  | some as=>match ey P (builtin b types.toArray ty consts as.toArray) with
   | some (.value v)=>some (gv v,h)
   | _=>none
  | none=>none
theorem HQ {ρ:Ren} {x y:V} {args':Array Value} (aP:aX ρ [x,y] args'.toList):∃ b0 pq,args'=#[b0,pq]∧aB ρ x b0∧aB ρ y pq:=by
 obtain ⟨cJ,iW,he,ln,oc⟩:=aP.dB;obtain ⟨b0,atZ,xl,dC,Rm⟩:=oc.dB;rw [Rm.eq_nil] at xl;exact ⟨cJ,b0,by apply avE;rw [he,xl],ln,dC⟩
theorem MP {ρ:Ren} {x:V} {args':Array Value} (aP:aX ρ [x] args'.toList):∃ b0,args'=#[b0]∧aB ρ x b0:=by
 obtain ⟨b0,iW,he,aj,oc⟩:=aP.dB;rw [oc.eq_nil] at he;exact ⟨b0,by apply avE;simpa using he,aj⟩
def xv (P : Program) (bG : FuncId) : Prop := ∃ fn, P.funcs[bG]? = some fn ∧ (fn.name == "runtime.NumGoroutine") = false ∧ fn.body.isNone = true ∧ Extern.findNext fn = none ∧ Extern.find fn = some (Extern.SlicesOverlaps.overlaps fn.params fn.resultTypes) ∧
 ∃ t e sz u,fn.params=#[t,t]∧fn.resultTypes=#[u]∧P.underlying t=some (.slice e)∧cC P e=some sz
def xw (h:I):List V→Option V
 | [.bj i _ _ _,.bj j _ _ _]=>match h.get i,h.get j with
  | .cells _ _ _,.cells (_::_) _ _=>if i≠j then some (.bool false) else none
  | _,_=>none
 | _=>none
theorem agr {P:Program} {bG:FuncId} {args:List V} {args':Array Value} {v:V} {h:I} (aN:xv P bG) (aa:xw h args=some v) {ρ:Ren} {B:Nat} {aJ w:World} (R:aR ρ B aJ h w) (aP:aX ρ args args'.toList) :
  ∃ v',(callFunc bG args').run P w=.ok (.value v') w∧aB ρ v v':=by
 obtain ⟨fn,h1,ad,aD,bn,bN,t,e,sz,u,aU,aL,hu,bR⟩:=aN;unfold xw at aa;split at aa
 case h_2=>cases aa
 rename_i i o n c j p m d;split at aa
 case h_2=>cases aa
 rename_i kN fh auJ at0 rK yV Al mM qk;split at aa
 case isFalse=>cases aa
 rename_i j9;obtain rfl:=Option.some.inj aa;obtain ⟨ig,cN,rfl,Gl,HN⟩:=HQ aP;obtain ⟨Rn,Wi,Pl,at1,rfl⟩:=Gl.gm;obtain ⟨MQ,Wj,Pm,at2,rfl⟩:=HN.gm;have hq:=R.heap.obj i;rw [mM] at hq;obtain ⟨dK,Wk,Dq,aC,_,_,cV,_⟩:=hq;rw [Pl] at aC;cases aC;have ob:=R.heap.obj j;rw [qk] at ob;obtain ⟨b7,ji,nm,bd,_,_,bS,ez,_⟩:=ob;rw [Pm] at bd;cases bd;have bI:Rn≠MQ:=fun U=>j9 (R.heap.inj i j Rn Wi Wj (by rw [mM];simp) (by rw [qk];simp) Pl (by rw [U];exact Pm))
 refine ⟨.bool false,?_,.bool false⟩;rw [run_callFunc_extern h1 ad aD bn bN,aU,aL];rw [Lib.run_overlaps_apart w t u e hu sz (fun w=>by
   unfold cC at bR;cases ab:P.info? e with
   | none=>simp [ab] at bR
   | some cg=>simp [ab] at bR;simp [sizeOf,typeInfo,ab,bR]) ⟨Rn,o,none⟩ ⟨MQ,p,none⟩ n _ m _ bI fh yV Dq.size nm.size (by simp [World.shape?,cV]) (by simp [World.shape?,bS]) (by simp at ez;omega) (by simp [World.frozen?,cV]) (by simp [World.frozen?,cV])]
 rfl
def HR (P : Program) (bG : FuncId) : Prop := ∃ fn, P.funcs[bG]? = some fn ∧ (fn.name == "runtime.NumGoroutine") = false ∧ fn.body.isNone = true ∧ Extern.findNext fn = none ∧ Extern.find fn = some (Extern.Atomic.loadT (.int .i64)) ∧ ∃ a, fn.params = #[a]
def HS (P : Program) (bG : FuncId) : Prop := ∃ fn, P.funcs[bG]? = some fn ∧ (fn.name == "runtime.NumGoroutine") = false ∧ fn.body.isNone = true ∧ Extern.findNext fn = none ∧ Extern.find fn = some (Extern.Atomic.update (Op.intArith .add) .i64 true) ∧ ∃ a b, fn.params = #[a, b] ∧ a ≠ b
def HT (h:I):List V→Option V
 | [.ptr i o]=>match h.get i with
  | .cells c _ _=>match c[o]? with
   | some (.int .i64 x)=>some (.int .i64 x)
   | _=>none
  | _=>none
 | _=>none
def HU (h:I):List V→Option (V×I)
 | [.ptr i o,.int .i64 y]=>match h.get i with
  | .cells c e ex=>match c[o]? with
   | some (.int .i64 x)=>some (.int .i64 (IntKind.i64.wrap (x+y)),h.set i (.cells (lay c o [.int .i64 (IntKind.i64.wrap (x+y))]) e ex))
   | _=>none
  | _=>none
 | _=>none
theorem cell_of {ρ:Ren} {B:Nat} {h:I} {w:World} (H:pn ρ B h w) {i o:Nat} {c:List V} {e:TypeId} {ex:Option Nat} (az:h.get i=.cells c e ex) {k:IntKind} {x:Int} (ay:c[o]?=some (.int k x)) {b bA:Nat} (hi:ρ.ren i=some (b,bA)) :
  w.cell? ⟨b,o,none⟩=some (.int k x)∧w.frozen? ⟨b,o,none⟩=false:=by
 have aN:=H.obj i;rw [az] at aN;obtain ⟨b7,ji,arr,aL,av,cr,hw,cI,aw,aj⟩:=aN;rw [aL] at hi;simp at hi;obtain ⟨rfl,rfl⟩:=hi;have aM:o<c.length:=(VX.1 ay).1;have h1:(arr.toList.take c.length)[o]?=some arr[o]:=by
  rw [avg,if_pos aM];simp [avd (show o<arr.size by omega)]
 have ad:=aw.2 o _ _ ay h1;generalize aH:arr[o]=v at ad;cases ad;have aD:arr[o]?=some (.int k x):=by rw [avd (show o<arr.size by omega),aH]
 exact ⟨by simp [World.cell?,hw,aD],by simp [World.frozen?,hw]⟩
theorem ags {P:Program} {bG:FuncId} {args:List V} {args':Array Value} {v:V} {h:I} (aN:HR P bG) (aa:HT h args=some v) {ρ:Ren} {B:Nat} {aJ w:World} (R:aR ρ B aJ h w) (aP:aX ρ args args'.toList) :
  ∃ v',(callFunc bG args').run P w=.ok (.value v') w∧aB ρ v v':=by
 obtain ⟨fn,h1,ad,aD,bn,bN,_⟩:=aN;unfold HT at aa;split at aa
 case h_2=>cases aa
 rename_i i o;split at aa
 case h_2=>cases aa
 rename_i c e ex az;split at aa
 case h_2=>cases aa
 rename_i x ay;obtain rfl:=Option.some.inj aa;obtain ⟨b0,rfl,aj⟩:=MP aP;cases aj with
 | ptr hi o=>
 rename_i b bA;obtain ⟨bb,_⟩:=cell_of R.heap az ay hi;exact ⟨_,run_call_load h1 ad aD bn .i64 bN bb,.int _ _⟩
theorem agt {P:Program} {bG:FuncId} {args:List V} {args':Array Value} {v:V} {h h':I} (aN:HS P bG) (aa:HU h args=some (v,h')) {ρ:Ren} {B:Nat} {aJ w:World} (R:aR ρ B aJ h w) (aP:aX ρ args args'.toList) :
  ∃ v' w',(callFunc bG args').run P w=.ok (.value v') w'∧aB ρ v v'∧aR ρ B aJ h' w':=by
 obtain ⟨fn,h1,ad,aD,bn,bN,_⟩:=aN;unfold HU at aa;split at aa
 case h_2=>cases aa
 rename_i i o y;split at aa
 case h_2=>cases aa
 rename_i c e ex az;split at aa
 case h_2=>cases aa
 rename_i x ay;simp only [Option.some.injEq,avp.injEq] at aa;obtain ⟨rfl,rfl⟩:=aa;obtain ⟨ig,cN,rfl,Gl,HN⟩:=HQ aP;cases HN;cases Gl with
 | ptr hi o=>
 rename_i b bA;obtain ⟨bb,bt⟩:=cell_of R.heap az ay hi;have aM:o<c.length:=(VX.1 ay).1;have aH:aX ρ [.int .i64 (IntKind.i64.wrap (x+y))] [.int .i64 (IntKind.i64.wrap (x+y))]:=.cons (.int _ _) (.nil ρ);obtain ⟨w',cE,eu⟩:=Hy (P:=P) az R hi o aH rfl (show o+1≤c.length from aM)
 have c2:(storeCells ⟨b,o,none⟩ [.int .i64 (IntKind.i64.wrap (x+y))]).run P w=.ok () (w.setCell ⟨b,o,none⟩ (.int .i64 (IntKind.i64.wrap (x+y)))):=by
  have c6:(store ⟨b,o,none⟩ (.int .i64 (IntKind.i64.wrap (x+y)))).run P w=.ok () (w.setCell ⟨b,o,none⟩ (.int .i64 (IntKind.i64.wrap (x+y)))):=by
   rw [run_store P w ⟨b,o,none⟩ (.int .i64 (IntKind.i64.wrap (x+y))) _ (by rfl),bb]
   simp [bt]
  simp [storeCells,Addr.add,c6]
 rw [c2] at cE;injection cE with _ hw;subst hw;exact ⟨_,_,run_call_add h1 ad aD bn .i64 bN bb bt (by simp [Op.intArith]),.int _ _,eu⟩
open Classical in
noncomputable def wv (P:Program) (bG:FuncId) (args:List V) (h:I):Option (V×I) :=
 if xv P bG then (match xw h args with | some v=>some (v,h) | none=>none)
 else if HR P bG then (match HT h args with | some v=>some (v,h) | none=>none)
 else if HS P bG then HU h args else none
theorem agu {P:Program} {bG:FuncId} {args:List V} {h:I} {v:V} (aN:xv P bG) (aP:xw h args=some v):wv P bG args h=some (v,h):=by
 unfold wv;rw [if_pos aN,aP]
theorem agv {P:Program} {bG:FuncId} {args:List V} {args':Array Value} {v:V} {h h':I} (aa:wv P bG args h=some (v,h')) {ρ:Ren} {B:Nat} {aJ w:World} (R:aR ρ B aJ h w) (aP:aX ρ args args'.toList) :
  ∃ v' w',(callFunc bG args').run P w=.ok (.value v') w'∧aB ρ v v'∧aR ρ B aJ h' w':=by
 unfold wv at aa;split at aa
 ·rename_i aN;split at aa
  case h_2=>cases aa
  rename_i u hu;simp only [Option.some.injEq,avp.injEq] at aa;obtain ⟨rfl,rfl⟩:=aa;obtain ⟨v',aC,bd⟩:=agr aN hu R aP;exact ⟨v',w,aC,bd,R⟩
 split at aa
 ·rename_i _ aN;split at aa
  case h_2=>cases aa
  rename_i u hu;simp only [Option.some.injEq,avp.injEq] at aa;obtain ⟨rfl,rfl⟩:=aa;obtain ⟨v',aC,bd⟩:=ags aN hu R aP;exact ⟨v',w,aC,bd,R⟩
 split at aa
 ·rename_i _ _ aN;exact agt aN aa R aP
 ·cases aa
def xx (a:Array Operand):Array Bool:=a.map fun | .const _=>true | _=>false
def rL (P:Program) (t:TypeId) (name:String) (f:FuncId):Prop:=(∀ v w,(method (P.types.size+Made.depth) t v name).run P w=.ok (f,v) w)∧bT P f=true
theorem rL.uniq {P:Program} {t:TypeId} {name:String} {f g:FuncId} (av:rL P t name f) (az:rL P t name g):f=g:=by
 have:=(av.1 .nilIface default).symm.trans (az.1 .nilIface default);injection this with h1;injection h1
open Classical in
noncomputable def Dr (P:Program) (x:V) (name:String) (args:List V):Option Step :=
 match x with
 | .iface t v=>if h:∃ f,rL P t name f then some (.call (Classical.choose h) (v::args)) else none
 | _=>none
theorem HV {P:Program} {x:V} {name:String} {args:List V} {s:Step} (aa:Dr P x name args=some s):∃ t v f,x=.iface t v∧rL P t name f∧s=.call f (v::args):=by
 unfold Dr at aa;split at aa
 case h_2=>cases aa
 rename_i t v;split at aa
 case isFalse=>cases aa
 rename_i U;simp only [Option.some.injEq] at aa;exact ⟨t,v,_,rfl,Classical.choose_spec U,aa.symm⟩
open Classical in
noncomputable def kP (P:Program) (c:Call) (ty:TypeId) (bz:Operand→V) (h:I):Option Step :=
 match c.callee with
 | .builtin .panic=>match c.args.toList.map bz with
  | [.iface _ _]=>some .panic
  | _=>none
 | .builtin b=>
  match qj P b c.argTypes.toList ty (xx c.args) (c.args.toList.map bz) h with
  | some (v,h')=>some (.val v h')
  | none=>none
 | .value f=>
  match bz f with
  | .func (.func bG) first captured=>if bT P bG then some (.call bG (first++c.args.toList.map bz++captured)) else (match wv P bG (first++c.args.toList.map bz++captured) h with | some (v,h')=>some (.val v h') | none=>none)
  | .func (.yield l) [] []=>some (.round l (c.args.toList.map bz))
  | _=>none
 | .invoke r name=>Dr P (bz r) name (c.args.toList.map bz)
def gS (o:Option V) (h:I):Option Step:=match o with | some v=>some (.val v h) | none=>none
def fK (o:Option (V×I)):Option Step:=match o with | some (v,h)=>some (.val v h) | none=>none
def rM (o:Option I):Option Step:=match o with | some h=>some (.val .top h) | none=>none
def yW (P:Program) (s d:TypeId) (x:V) (h:I):Option (V×I) :=
 match P.underlying s,x with
 | some (.slice e),.bj i o n _=>
  if s=d∧vz P e=true then
   match h.get i with
   | .cells c _ _=>if o+n≤c.length then some (.ah n ((c.drop o).take n),h.set i .dead) else none
   | _=>none
  else none
 | _,_=>none
theorem agw {P:Program} {s d:TypeId} {x v:V} {h h':I} (aa:yW P s d x h=some (v,h')):h'≠h:=by
 unfold yW at aa;split at aa
 case h_2=>cases aa
 split at aa
 case isFalse=>cases aa
 split at aa
 case h_2=>cases aa
 rename_i c bd ex az;split at aa
 case isFalse=>cases aa
 simp only [Option.some.injEq,avp.injEq] at aa;intro e;rename_i i _ _ _ _ _ _ _;have h1:(h.set i .dead).get i=h.get i:=by rw [aa.2,e]
 rw [az] at h1;simp [I.set] at h1
theorem aR.mark {ρ:Ren} {B:Nat} {aJ:World} {h:I} {w:World} (R:aR ρ B aJ h w) {b:Nat} {arr:Array Value} (av:ρ.frz b=some arr) (cr:B≤b) (k:Nat):aR ρ B aJ h (w.freeze ⟨b,k,none⟩ 1):=by
 have bI:∀ j,b≠j→(w.freeze ⟨b,k,none⟩ 1).heap[j]?=w.heap[j]?:=fun j aV=>by
  simp only [World.freeze,av4,if_false,avP,if_neg aV]
 have heq:∀ c e ho,w.heap[b]?=some (.cells c e ho)→∃ HW,(w.freeze ⟨b,k,none⟩ 1).heap[b]?=some (.cells c e HW):=fun c e ho ab=>by
  simp only [World.freeze,av4,if_false,avP,if_true,ab,Option.map_some];exact ⟨_,rfl⟩
 have bo:(w.freeze ⟨b,k,none⟩ 1).heap.size=w.heap.size:=by
  simp only [World.freeze,av4,if_false,Array.size_modify]
 refine ⟨⟨R.heap.lh,R.heap.inj,fun i=>?_,fun cN ig iJ=>?_,R.heap.glob,by rw [bo];exact R.heap.base⟩,R.below.trans ⟨?_,?_,?_,Nat.le_of_eq bo.symm,fun j aV=>bI j (by omega),?_⟩⟩
 ·by_cases bf:h.get i=.dead
  ·rw [bf];trivial
  ·refine (R.heap.obj i).ai (Ren.le.refl ρ) fun cN c aL=>⟨bI cN ?_,fun h=>h⟩;obtain ⟨b7,bA,iG,_,_,mH,_⟩:=R.heap.live bf;rw [aL] at iG;cases iG;intro e;subst e;rw [av] at mH;cases mH
 ·obtain ⟨e,ho,ab⟩:=R.heap.frz cN ig iJ;by_cases aV:b=cN
  ·subst aV;obtain ⟨HW,h1⟩:=heq _ _ _ ab;exact ⟨e,HW,h1⟩
  ·exact ⟨e,ho,(bI cN aV).trans ab⟩
 all_goals simp only [World.freeze,av4,if_false]
 exact BY _
theorem agx {P:Program} {src dst:TypeId} {x v:V} {b0:Value} {h h':I} (aa:yW P src dst x h=some (v,h')) {ρ:Ren} {B:Nat} {aJ w:World} (R:aR ρ B aJ h w) (aj:aB ρ x b0) :
  Yields P (convert src dst b0) ρ B aJ w v h':=by
 unfold yW at aa;split at aa
 case h_2=>cases aa
 rename_i e i o n cap hu;split at aa
 case isFalse=>cases aa
 rename_i ay;split at aa
 case h_2=>cases aa
 rename_i c bd ex az;split at aa
 case isFalse=>cases aa
 rename_i hle;simp only [Option.some.injEq,avp.injEq] at aa;obtain ⟨rfl,rfl⟩:=aa;obtain ⟨rfl,he⟩:=ay;have gG:=Gd he;obtain ⟨ρ',le,eu,b,bA,arr,aL,av,aw,eK⟩:=R.freeze az;obtain ⟨b7,ji,hi,dp,rfl⟩:=aj.gm;rw [aL] at hi;cases hi;obtain ⟨_,_,_,_,_,_,cr⟩:=R.heap.live (i:=i) (by rw [az];simp)
 rename_i gx at3 Bs _ _ _;rw [aL] at Bs;cases Bs;obtain ⟨ev,ho,hw⟩:=eu.heap.frz _ _ av;have HH:w.shape? b=some (ev,arr.size):=by simp [World.shape?,hw]
 refine ⟨ρ',.slice (some ⟨b,o,none⟩) n (fz bA cap),w.freeze ⟨b,arr.size,none⟩ 1,?_,.ah o n _ av dp ?_ fun k u tz h1 ad=>?_,eu.mark av cr _,le⟩
 ·simp [convert,run_underlying hu,run_underlying gG,markStringish,HH]
 ·rw [VV,List.length_drop];omega
 ·rw [avg] at h1;split at h1
  case isFalse=>cases h1
  rw [List.getElem?_drop] at h1;refine (eK.2 (o+k) u tz h1 ?_).mono le;have hk:o+k<c.length:=(VX.1 h1).1;rw [avg,if_pos hk,avF];exact ad
def Ro (P:Program) (t:TypeId) (m k:V) (h:I):Option (V×I) :=
 match eL P t,m with
 | some (c4,h3,d),.map i=>
  match h.get i with
  | .map es cl=>
   if xr P false c4 k then
    match oQ P c4 d k es with
    | some (some j)=>
     match es[j]?,(es[j]?).bind fun e=>pk e.2.1,pk k with
     | some e,some a,some b=>if Instr.sameBits 10000 a b=true then some (.tuple [e.2.2,.int .i64 (e.1:Nat)],h.set i (.map (es.modify j fun e=>(e.1,k,e.2.2)) cl)) else none
     | _,_,_=>none
    | some none=>
     match la P h3 with
     | some z=>some (.tuple [fg z,.int .i64 (cl:Nat)],h.set i (.map (es++[(cl,k,fg z)]) (cl+1)))
     | none=>none
    | none=>none
   else none
  | _=>none
 | _,_=>none
def Rp (m s v:V) (h:I):Option I :=
 match m,s with
 | .map i,.int _ st=>
  match h.get i with
  | .map es cl=>
   match es.findIdx? (fun e=>(e.1:Int)==st) with
   | some j=>some (h.set i (.map (es.modify j fun e=>(e.1,e.2.1,v)) cl))
   | none=>none
  | _=>none
 | _,_=>none
theorem gh.find {ρ:Ren} {es:List (Nat×V×V)} {arr:Array MapEntry} (h:gh ρ es arr) (st:Int):arr.findIdx? (fun e=>(e.born:Int)==st)=es.findIdx? (fun e=>(e.1:Int)==st):=by
 have hm:es.map (fun e=>e.1)=arr.toList.map (fun e=>e.born):=by
  apply List.ext_getElem
  ·simp [h.1]
  ·intro q h1 ad;simp only [List.getElem_map,Array.getElem_toList];simp only [List.length_map] at h1;exact (h.2 q _ _ (ME h1) (avd (by rw [←h.1];exact h1))).1
 have aC:es.findIdx? (fun e=>(e.1:Int)==st)=(es.map (fun e=>e.1)).findIdx? (fun n:Nat=>(n:Int)==st):=by rw [aAr];rfl
 have bd:arr.toList.findIdx? (fun e=>(e.born:Int)==st)=(arr.toList.map (fun e=>e.born)).findIdx? (fun n:Nat=>(n:Int)==st):=by rw [aAr];rfl
 rw [aC,hm,←bd];cases arr;simp
theorem agy {P:Program} {t:TypeId} {m k v:V} {fp k':Value} {h h':I} (aa:Ro P t m k h=some (v,h')) {ρ:Ren} {B:Nat} {aJ w:World} (R:aR ρ B aJ h w) (hm:aB ρ m fp) (hk:aB ρ k k') :
  Yields P (Instr.mapEntry t fp k') ρ B aJ w v h':=by
 unfold Ro at aa;split at aa
 case h_2=>cases aa
 rename_i c4 h3 d i cd;obtain ⟨hu,qX⟩:=xt cd;split at aa
 case h_2=>cases aa
 rename_i es cl az;split at aa
 case isFalse=>cases aa
 rename_i oa;cases hm with
 | map hi=>
 have aN:=R.heap.obj i;rw [az] at aN;obtain ⟨b,bA,arr,aL,l5,cr,hw,dN⟩:=aN;rw [aL] at hi;simp at hi;obtain ⟨rfl,rfl⟩:=hi;have aM:b<w.heap.size:=(avl.1 hw).1;split at aa
 ·rename_i j av;split at aa
  case h_2=>cases aa
  rename_i e6 a c wx aP ay;split at aa
  case isFalse=>cases aa
  rename_i HJ;simp only [Option.some.injEq,avp.injEq] at aa;obtain ⟨rfl,rfl⟩:=aa;obtain ⟨h1,ad⟩:=Ai (P:=P) (w:=w) qX hk dN av;have aV:=ad j rfl;have jj:j<es.length:=by rw [dN.1];exact aV
  obtain ⟨Wl,gn,wq⟩:=dN.2 j _ _ (ME jj) (avd aV);rw [ME jj] at aP wx;simp at aP wx;subst wx;have aC:=xg gn aP;have bd:=xg hk ay;have eu:=R.setObj (o:=.map (es.modify j fun e=>(e.1,k,e.2.2)) cl) (ob:=.map (arr.modify j fun e=>{ e with key:=k' }) cl) aL (by rw [az];simp) cr aM (by
   refine ⟨b,bA,arr.modify j (fun e=>{ e with key:=k' }),aL,l5,cr,by simp [aM],by simp [dN.1],fun q e ed ab ei=>?_⟩
   rw [ayk] at ab;rw [avP] at ei;by_cases wu:j=q
   ·subst wu;rw [ME jj] at ab;rw [avd aV] at ei;simp at ab ei;subst ab;subst ei;obtain ⟨aD,_,bN⟩:=dN.2 j _ _ (ME jj) (avd aV);exact ⟨aD,hk,bN⟩
   ·simp [wu] at ab ei;exact dN.2 q e ed ab ei)
  refine ⟨ρ,.tuple #[arr[j].val,goInt (arr[j].born:Int)],_,?_,?_,eu,Ren.le.refl ρ⟩
  ·simp only [Instr.mapEntry,Sem.run_bind,run_underlying hu,run_getObj_map hw,Result.andThen_ok];rw [Aj oa hk w,Result.andThen_ok,h1];have im:(Instr.keyThatStays a c).run P w=.ok c w:=by unfold Instr.keyThatStays;rw [if_pos HJ];rfl
   simp [avd aV,aC,bd,im,run_setObj_map hw]
  ·rw [Wl];exact ((aX.cons wq (.cons (.int _ _) (.nil ρ))).arr).tuple
 ·rename_i av;split at aa
  case h_2=>cases aa
  rename_i z bR;simp only [Option.some.injEq,avp.injEq] at aa;obtain ⟨rfl,rfl⟩:=aa;obtain ⟨h1,ad⟩:=Ai (P:=P) (w:=w) qX hk dN av;have eu:=R.setObj (o:=.map (es++[(cl,k,fg z)]) (cl+1)) (ob:=.map (arr.push { key:=k',val:=z,born:=cl }) (cl+1)) aL (by rw [az];simp) cr aM (by
   refine ⟨b,bA,arr.push { key:=k',val:=z,born:=cl },aL,l5,cr,by simp [aM],by simp [dN.1],fun q e ed ab ei=>?_⟩
   rw [List.getElem?_append] at ab;rw [Array.getElem?_push] at ei;by_cases Bv:q<es.length
   ·rw [if_pos Bv] at ab;rw [if_neg (by rw [←dN.1];omega)] at ei
    exact dN.2 q e ed ab ei
   ·rw [if_neg Bv] at ab;have HK:q=es.length:=by
     have:=(VX.1 ab).1;simp at this;omega
    subst HK;rw [if_pos dN.1] at ei;simp at ab ei;subst ab;subst ei;exact ⟨rfl,hk,De ρ z⟩)
  refine ⟨ρ,.tuple #[z,goInt (cl:Int)],_,?_,?_,eu,Ren.le.refl ρ⟩
  ·simp only [Instr.mapEntry,Sem.run_bind,run_underlying hu,run_getObj_map hw,Result.andThen_ok];rw [Aj oa hk w,Result.andThen_ok,h1];simp [MN bR,run_setObj_map hw]
  ·exact ((aX.cons (De ρ z) (.cons (.int _ _) (.nil ρ))).arr).tuple
 ·cases aa
theorem agz {P:Program} {t:TypeId} {m s v:V} {fp cJ v':Value} {h h':I} (aa:Rp m s v h=some h') {ρ:Ren} {B:Nat} {aJ w:World} (R:aR ρ B aJ h w) (hm:aB ρ m fp) (c2:aB ρ s cJ) (aH:aB ρ v v') :
  ∃ w',(Instr.entryStore t fp cJ v').run P w=.ok () w'∧aR ρ B aJ h' w':=by
 unfold Rp at aa;split at aa
 case h_2=>cases aa
 rename_i i kk st;split at aa
 case h_2=>cases aa
 rename_i es cl az;split at aa
 case h_2=>cases aa
 rename_i j av;obtain rfl:_=h':=by simpa using aa
 cases c2;cases hm with
 | map hi=>
 have aN:=R.heap.obj i;rw [az] at aN;obtain ⟨b,bA,arr,aL,l5,cr,hw,dN⟩:=aN;rw [aL] at hi;simp at hi;obtain ⟨rfl,rfl⟩:=hi;have aM:b<w.heap.size:=(avl.1 hw).1;have Pn:=dN.find st;rw [av] at Pn;have jj:j<es.length:=by
  have:=List.findIdx?_eq_some_iff_findIdx_eq.1 av;omega
 have aV:j<arr.size:=by rw [←dN.1];exact jj
 have eu:=R.setObj (o:=.map (es.modify j fun e=>(e.1,e.2.1,v)) cl) (ob:=.map (arr.modify j fun e=>{ e with val:=v' }) cl) aL (by rw [az];simp) cr aM (by
  refine ⟨b,bA,arr.modify j (fun e=>{ e with val:=v' }),aL,l5,cr,by simp [aM],by simp [dN.1],fun q e ed ab ei=>?_⟩
  rw [ayk] at ab;rw [avP] at ei;by_cases wu:j=q
  ·subst wu;rw [ME jj] at ab;rw [avd aV] at ei;simp at ab ei;subst ab;subst ei;obtain ⟨aD,bn,_⟩:=dN.2 j _ _ (ME jj) (avd aV);exact ⟨aD,bn,aH⟩
  ·simp [wu] at ab ei;exact dN.2 q e ed ab ei)
 refine ⟨_,?_,eu⟩;simp only [Instr.entryStore,Sem.run_bind,Sem.run_pure,run_getObj_map hw,Result.andThen_ok];simp [asInt,asIntOf,Pn,run_setObj_map hw]
noncomputable def ej (P:Program) (o:Oper) (bz:Operand→V) (h:I):Option Step :=
 match o.op with
 | .move x=>some (.val (bz x) h)
 | .assign x=>some (.val (bz x) h)
 | .pick c a b=>match bz c with
  | .bool t=>some (.val (if t then bz a else bz b) h)
  | _=>none
 | .alloc e=>fK (F7 P e h)
 | .box e x=>fK (vw e (bz x) h)
 | .build t ps=>gS (Dm P t (ps.toList.map fun p=>(p.1,bz p.2))) h
 | .buildSlice t len ps=>fK (ie P t len (ps.toList.map fun p=>(p.1,bz p.2)) h)
 | .load t a=>gS (xh P t (bz a) h) h
 | .store t a x=>rM (F5 P t (bz a) (bz x) h)
 | .nilCheck x=>match bz x with
  | .ptr i o=>some (.val (.ptr i o) h)
  | .at cs=>some (.val (.at cs) h)
  | .func (.func bG) xs ys=>some (.val (.func (.func bG) xs ys) h)
  | _=>none
 | .binOp op t x y _=>gS (cH P op t x y (bz x) (bz y)) h
 | .unOp op _ x=>gS (xp P op (bz x)) h
 | .convert s d x=>match re P s d (bz x) h with
  | some v=>some (.val v h)
  | none=>fK (yW P s d (bz x) h)
 | .makeInterface t x=>match Gj P t with
  | some false=>some (.val (.iface t (bz x)) h)
  | _=>none
 | .makeFunc fn first captured=>some (.val (.func fn (first.toList.map bz) (captured.toList.map bz)) h)
 | .makeMap t r=>fK (HL P t (r.map bz) h)
 | .makeSlice t l c=>fK (yR P t (bz l) (bz c) h)
 | .slice t x lo hi mx=>gS (nT P t (bz x) (lo.map bz) (hi.map bz) (mx.map bz)) h
 | .fieldAddr s x k=>gS (Dg P s (bz x) k) h
 | .field t x k=>gS (Ge P t (bz x) k) h
 | .indexAddr t x jy=>gS (hG P t (bz x) (bz jy)) h
 | .index t x jy=>gS (Dp P t (bz x) (bz jy)) h
 | .lookup t x jy ok=>gS (nj P t (bz x) (bz jy) ok h) h
 | .mapUpdate t m k x=>rM (vB P t (bz m) (bz k) (bz x) h)
 | .insert t m k x=>rM (vB P t (bz m) (bz k) (bz x) h)
 | .mapEntry t m k=>fK (Ro P t (bz m) (bz k) h)
 | .entryStore _ m s x=>rM (Rp (bz m) (bz s) (bz x) h)
 | .range t x=>fK (Gg P t (bz x) h)
 | .next it false=>match Ak (bz it) h with
  | some l=>some (.alts l)
  | none=>none
 | .entry it=>gS (Gh (bz it) h) h
 | .typeAssert x _ asserted ok=>gS (d6 P (bz x) asserted ok) h
 | .extract t k=>match bz t with
  | .tuple vs=>gS vs[k]? h
  | _=>none
 | .call c=>kP P c o.type bz h
 | .panic x=>match bz x with
  | .iface _ _=>some .panic
  | _=>none
 | _=>none
theorem Ds {ρ:Ren} {bz:Operand→V} {cx:Operand→Value} (b5:∀ x,aB ρ (bz x) (cx x)):∀ l:List Operand,aX ρ (l.map bz) (l.map cx)
 | []=>.nil ρ
 | x::l=>.cons (b5 x) (Ds b5 l)
theorem Wm {ρ:Ren} {bz:Operand→V} {cx:Operand→Value} (b5:∀ x,aB ρ (bz x) (cx x)) (a:Array Operand):dQ ρ (a.toList.map bz) (a.map cx):=by
 have:=Ds b5 a.toList;exact aX.jz (by simpa using this)
theorem Rq {ρ:Ren} {bz:Operand→V} {cx:Operand→Value} (b5:∀ x,aB ρ (bz x) (cx x)):∀ l:List (Nat×Operand),
  tB ρ (l.map fun p=>(p.1,bz p.2)) (l.map fun p=>(p.1,cx p.2))
 | []=>trivial
 | x::l=>⟨rfl,b5 _,Rq b5 l⟩
def j4 (P:Program) (s:Sem Next) (ρ:Ren) (B:Nat) (aJ w:World) (v:V) (h':I):Prop :=
 ∃ ρ' v' w',(s.run P w=.ok (.value v') w'∨(s.run P w=.ok .skip w'∧v'=undef))∧aB ρ' v v'∧aR ρ' B aJ h' w'∧ρ.le ρ'
theorem Yields.next {P:Program} {s:Sem Value} {ρ:Ren} {B:Nat} {aJ w:World} {v:V} {h':I} (y:Yields P s ρ B aJ w v h') :
  j4 P (do pure (.value (←s))) ρ B aJ w v h':=by
 obtain ⟨ρ',v',w',aL,aH,R,hle⟩:=y;exact ⟨ρ',v',w',.inl (by simp [aL]),aH,R,hle⟩
theorem j4.same {P:Program} {s:Sem Next} {ρ:Ren} {B:Nat} {aJ w:World} {v:V} {v':Value} {h:I} (R:aR ρ B aJ h w) (aL:s.run P w=.ok (.value v') w) (aH:aB ρ v v') :
  j4 P s ρ B aJ w v h:=⟨ρ,v',w,.inl aL,aH,R,Ren.le.refl ρ⟩
theorem j4.skip {P:Program} {s:Sem Unit} {ρ:Ren} {B:Nat} {aJ w:World} {h':I} (y:∃ w',s.run P w=.ok () w'∧aR ρ B aJ h' w'):j4 P (do s;pure .skip) ρ B aJ w .top h':=by
 obtain ⟨w',aL,R⟩:=y;exact ⟨ρ,undef,w',.inr ⟨by simp [aL],rfl⟩,.top _,R,Ren.le.refl ρ⟩
theorem HX (ρ:Ren):aB ρ (.tuple []) (.tuple #[]):=.tuple rfl (by simp)
theorem ut {P:Program} {b:Builtin} {types:Array TypeId} {ty:TypeId} {consts:Array Bool} {args:List V} {args':Array Value} {h h':I} {v:V}
  (aa:qj P b types.toList ty consts args h=some (v,h')) {ρ:Ren} {B:Nat} {aJ w:World} (R:aR ρ B aJ h w) (aP:aX ρ args args'.toList) :
  j4 P (builtin b types ty consts args') ρ B aJ w v h':=by
 unfold qj at aa;split at aa
 ·rename_i t x bE;obtain ⟨b0,rfl,aj⟩:=MP aP;obtain rfl:types=#[t]:=by apply avE;simpa using bE
  split at aa
  case h_2=>cases aa
  rename_i u hu;simp at aa;obtain ⟨rfl,rfl⟩:=aa;exact ((agd hu R aj).hp R).next
 ·rename_i t tx s x bE;obtain ⟨cJ,b0,rfl,ln,dC⟩:=HQ aP;obtain rfl:types=#[t,tx]:=by apply avE;simpa using bE
  exact (af4 aa R ln dC).next
 ·rename_i t tx s x bE;obtain ⟨cJ,b0,rfl,ln,dC⟩:=HQ aP;obtain rfl:types=#[t,tx]:=by apply avE;simpa using bE
  exact (af5 aa R ln dC).next
 ·rename_i t tx s x bE;obtain ⟨cJ,b0,rfl,ln,dC⟩:=HQ aP;obtain rfl:types=#[t,tx]:=by apply avE;simpa using bE
  cases bf:Gf P t s x h with
  | none=>simp [bf] at aa
  | some ad=>
   simp [bf] at aa;obtain ⟨rfl,rfl⟩:=aa;obtain ⟨w',aL,eu⟩:=agj (P:=P) (ty:=ty) (ts:=#[t,tx]) rfl bf R ln dC;exact Yields.next (s:=Builtin.delete_ #[t,tx] ty #[cJ,b0]) ⟨ρ,_,w',aL,HX ρ,eu,Ren.le.refl ρ⟩
 ·rename_i t x bE;obtain ⟨b0,rfl,aj⟩:=MP aP;obtain rfl:types=#[t]:=by apply avE;simpa using bE
  cases bf:Gk P t x h with
  | none=>simp [bf] at aa
  | some ad=>
   simp [bf] at aa;obtain ⟨rfl,rfl⟩:=aa;obtain ⟨w',aL,eu⟩:=agp (P:=P) (ty:=ty) bf R aj;exact Yields.next (s:=Builtin.clear_ #[t] ty #[b0]) ⟨ρ,_,w',aL,HX ρ,eu,Ren.le.refl ρ⟩
 ·rename_i t x bE;obtain ⟨b0,rfl,aj⟩:=MP aP;obtain rfl:types=#[t]:=by apply avE;simpa using bE
  split at aa
  case h_2=>cases aa
  rename_i u hu;simp at aa;obtain ⟨rfl,rfl⟩:=aa;exact ((agq hu R aj).hp R).next
 ·split at aa
  case h_2=>cases aa
  rename_i as has;have aC:=Q8 aP has;split at aa
  case h_2=>cases aa
  rename_i u hu;simp at aa;obtain ⟨rfl,rfl⟩:=aa;refine .same R ?_ (Bo ρ u);have:=Bt hu w;rw [←aC] at this;simpa using this
theorem BB {o:Option (V×I)} {v:V} {h:I} (aa:fK o=some (.val v h)):o=some (v,h):=by
 unfold fK at aa;split at aa
 ·simp at aa;obtain ⟨rfl,rfl⟩:=aa;rfl
 ·cases aa
theorem tE {o:Option V} {v:V} {h h':I} (aa:gS o h=some (.val v h')):o=some v∧h'=h:=by
 unfold gS at aa;split at aa
 ·simp at aa;obtain ⟨rfl,rfl⟩:=aa;exact ⟨rfl,rfl⟩
 ·cases aa
theorem MR {o:Option I} {v:V} {h':I} (aa:rM o=some (.val v h')):o=some h'∧v=.top:=by
 unfold rM at aa;split at aa
 ·simp at aa;obtain ⟨rfl,rfl⟩:=aa;exact ⟨rfl,rfl⟩
 ·cases aa
theorem rg {ρ:Ren} {bz:Operand→V} {cx:Operand→Value} (b5:∀ x,aB ρ (bz x) (cx x)) (o:Option Operand):Option.Rel (aB ρ) (o.map bz) (o.map cx):=by
 cases o with
 | none=>exact .none
 | some x=>exact .some (b5 x)
theorem agA {P:Program} {o:Oper} {bz:Operand→V} {cx:Operand→Value} {h h':I} {v:V} (aa:ej P o bz h=some (.val v h')) {ρ:Ren} {B:Nat} {aJ w:World}
  (R:aR ρ B aJ h w) (b5:∀ x,aB ρ (bz x) (cx x)):j4 P (execOp cx o) ρ B aJ w v h':=by
 unfold ej at aa;unfold execOp;split at aa
 ·rename_i x ca;simp only [ca];simp at aa;obtain ⟨rfl,rfl⟩:=aa;exact .same R (Sem.run_pure ..) (b5 x)
 ·rename_i x ca;simp only [ca];simp at aa;obtain ⟨rfl,rfl⟩:=aa;exact .same R (Sem.run_pure ..) (b5 x)
 ·rename_i c a b ca;simp only [ca];split at aa
  case h_2=>cases aa
  rename_i t bE;simp at aa;obtain ⟨rfl,rfl⟩:=aa;have ay:=b5 c;rw [bE] at ay;have kt:cx c=.bool t:=yO ay rfl;refine .same R (v':=if t then cx a else cx b) ?_ ?_
  ·simp [kt,asBool]
  ·cases t
   ·exact b5 b
   ·exact b5 a
 ·rename_i e ca;simp only [ca];exact (afU (BB aa) R).next
 ·rename_i e x ca;simp only [ca];exact (afV (BB aa) R (b5 x)).next
 ·rename_i t ps ca;simp only [ca];obtain ⟨aH,he⟩:=tE aa;subst he;refine ((af9 aH R ?_).hp R).next;have:=Rq b5 ps.toList;simpa using this
 ·rename_i t len ps ca;simp only [ca];refine (aga (BB aa) R ?_).next;have:=Rq b5 ps.toList;simpa using this
 ·rename_i t a ca;simp only [ca];obtain ⟨aH,he⟩:=tE aa;subst he;exact ((V1 aH R (b5 a)).2.hp R).next
 ·rename_i t a x ca;simp only [ca];obtain ⟨aH,he⟩:=MR aa;subst he;exact .skip (afT aH R (b5 a) (b5 x))
 ·rename_i x ca;simp only [ca];have aj:=b5 x;split at aa
  ·rename_i i o aP;simp at aa;obtain ⟨rfl,rfl⟩:=aa;rw [aP] at aj;generalize cx x=b0 at aj;obtain ⟨b,c,hi,rfl⟩:=aj.pP;exact .same R (Sem.run_pure ..) (.ptr hi o)
  ·rename_i cs aP;simp at aa;obtain ⟨rfl,rfl⟩:=aa;rw [aP] at aj;generalize cx x=b0 at aj;obtain ⟨b,o,arr,al,aN,dC,rfl⟩:=aj.um;exact .same R (Sem.run_pure ..) aj
  ·rename_i bG xs ys aP;simp at aa;obtain ⟨rfl,rfl⟩:=aa;rw [aP] at aj;generalize cx x=b0 at aj;have wy:=aj;cases aj with
   | func fn h1 ad aD bn=>exact .same R (Sem.run_pure ..) wy
  ·cases aa
 ·rename_i op t x y MS ca;simp only [ca];obtain ⟨aH,he⟩:=tE aa;subst he;exact ((af6 aH R (b5 x) (b5 y)).hp R).next
 ·rename_i op t x ca;simp only [ca];obtain ⟨aH,he⟩:=tE aa;subst he;exact ((af7 aH R (b5 x)).hp R).next
 ·rename_i s d x ca;simp only [ca];cases ay:re P s d (bz x) h with
  | some u=>
   rw [ay] at aa;cases aa;exact (af8 ay R (b5 x)).next
  | none=>
   rw [ay] at aa;exact (agx (BB aa) R (b5 x)).next
 ·rename_i t x ca;simp only [ca];split at aa
  case h_2=>cases aa
  rename_i bE;simp at aa;obtain ⟨rfl,rfl⟩:=aa;refine Yields.next (.same R (v':=.iface t (cx x)) ?_ (.iface t (b5 x)));unfold Gj at bE;split at bE
  ·simp at bE
  ·rename_i d ta hu;cases d with
   | interface ms=>exact absurd rfl (ta ms)
   | _=>simp [Instr.makeInterface,run_underlying hu]
  ·cases bE
 ·rename_i fn first captured ca
  simp only [ca];simp at aa;obtain ⟨rfl,rfl⟩:=aa;have h1:=Wm b5 first
  have ad:=Wm b5 captured;exact Yields.next (.same R (v':=.func fn (first.map cx) (captured.map cx)) (Sem.run_pure ..) (.func fn h1.1 ad.1 h1.2 ad.2))
 ·rename_i t r ca;simp only [ca];exact (agk (BB aa) R (rg b5 r)).next
 ·rename_i t l c ca;simp only [ca];exact (af0 (BB aa) R (b5 l) (b5 c)).next
 ·rename_i t x lo hi mx ca;simp only [ca];obtain ⟨aH,he⟩:=tE aa;subst he;exact ((afY aH R (b5 x) (rg b5 lo) (rg b5 hi) (rg b5 mx)).hp R).next
 ·rename_i s x k ca;simp only [ca];obtain ⟨aH,he⟩:=tE aa;subst he;exact ((afW aH R (b5 x)).hp R).next
 ·rename_i t x k ca;simp only [ca];obtain ⟨aH,he⟩:=tE aa;subst he;exact ((agb aH R (b5 x)).hp R).next
 ·rename_i t x jy ca;simp only [ca];obtain ⟨aH,he⟩:=tE aa;subst he;exact ((afX aH R (b5 x) (b5 jy)).hp R).next
 ·rename_i t x jy ca;simp only [ca];obtain ⟨aH,he⟩:=tE aa;subst he;exact ((agc aH R (b5 x) (b5 jy)).hp R).next
 ·rename_i t x jy ok ca;simp only [ca];obtain ⟨aH,he⟩:=tE aa;subst he;exact ((agh aH R (b5 x) (b5 jy)).hp R).next
 ·rename_i t m k x ca;simp only [ca];obtain ⟨aH,he⟩:=MR aa;subst he;exact .skip (We aH R (b5 m) (b5 k) (b5 x))
 ·rename_i t m k x ca;simp only [ca];obtain ⟨aH,he⟩:=MR aa;subst he;exact .skip (We aH R (b5 m) (b5 k) (b5 x))
 ·rename_i t m k ca;simp only [ca];exact (agy (BB aa) R (b5 m) (b5 k)).next
 ·rename_i t m s x ca;simp only [ca];obtain ⟨aH,he⟩:=MR aa;subst he;exact .skip (agz aH R (b5 m) (b5 s) (b5 x))
 ·rename_i t x ca;simp only [ca];exact (agl (BB aa) R (b5 x)).next
 ·rename_i it ca;split at aa<;>simp at aa
 ·rename_i it ca;simp only [ca];obtain ⟨aH,he⟩:=tE aa;subst he;exact ((agm aH R (b5 it)).hp R).next
 ·rename_i x HI asserted ok ca;simp only [ca];obtain ⟨aH,he⟩:=tE aa;subst he;exact ((age aH R (b5 x)).hp R).next
 ·rename_i t k ca;simp only [ca];split at aa
  case h_2=>cases aa
  rename_i vs rC;obtain ⟨aH,he⟩:=tE aa;subst he;have aj:=b5 t;rw [rC] at aj;generalize wy:cx t=b0 at aj;cases aj with
  | tuple bo aj=>
   rename_i il;have aM:k<vs.length:=(VX.1 aH).1;have tC:k<il.size:=by rw [←bo];exact aM
   refine Yields.next (.same R (v':=il[k]) ?_ (aj k v _ aH (avd tC)));simp [Instr.extract,avd tC]
 ·rename_i c ca;simp only [ca];unfold kP at aa;split at aa
  ·split at aa<;>simp at aa
  ·rename_i b Po al;split at aa
   case h_2=>cases aa
   rename_i u ad hu;simp at aa;obtain ⟨rfl,rfl⟩:=aa;have aP:=Ds b5 c.args.toList;have:=ut (args':=c.args.map cx) hu R (by simpa using aP)
   have aC:(do let d ←resolve cx c o.type;invoke d.target d.args)=builtin b c.argTypes o.type (xx c.args) (c.args.map cx):=by
    simp [resolve,al,invoke];rfl
   rw [aC];exact this
  ·rename_i BC av;split at aa
   case h_2=>simp at aa
   case h_3=>cases aa
   rename_i bG first captured xy
   split at aa
   ·cases aa
   split at aa
   case h_2=>cases aa
   rename_i u ad hu;simp at aa;obtain ⟨rfl,rfl⟩:=aa;have aH:=b5 BC;rw [xy] at aH;generalize xz:cx BC=v' at aH;cases aH with
   | func fn lp fs aj bp=>
   rename_i od jE;have aP:=Ds b5 c.args.toList;have hc:aX ρ first od.toList:=dQ.list ⟨lp,aj⟩
   have ez:aX ρ captured jE.toList:=dQ.list ⟨fs,bp⟩;have xA:=hc.append (aP.append ez);obtain ⟨c0,w',aL,BD,eu⟩:=agv (args':=od++c.args.map cx++jE) hu R (by simpa using xA)
   refine ⟨ρ,c0,w',.inl ?_,BD,eu,Ren.le.refl ρ⟩;simp [resolve,av,xz,Deferred.ofValue,invoke];simpa using aL
  ·obtain ⟨_,_,_,_,_,bN⟩:=HV aa;cases bN
 ·split at aa<;>simp at aa
 ·cases aa
theorem agB {P:Program} {o:Oper} {bz:Operand→V} {cx:Operand→Value} {h:I} {g:FuncId} {args:List V} (aa:ej P o bz h=some (.call g args)) {ρ:Ren} {B:Nat} {aJ w:World}
  (R:aR ρ B aJ h w) (b5:∀ x,aB ρ (bz x) (cx x)):∃ args',(execOp cx o).run P w=.ok (.enter g args') w∧aX ρ args args'.toList:=by
 have key:∃ c,o.op=.call c∧kP P c o.type bz h=some (.call g args):=by
  unfold ej at aa;split at aa
  all_goals first
   | (rename_i c ca;exact ⟨c,ca,aa⟩)
   | (simp [fK,gS,rM] at aa;done)
   | (unfold fK at aa;split at aa<;>simp at aa;done)
   | (unfold gS at aa;split at aa<;>simp at aa;done)
   | (unfold rM at aa;split at aa<;>simp at aa;done)
   | (split at aa<;>(try (unfold fK at aa;split at aa))<;>simp at aa;done)
   | (split at aa<;>(try (unfold gS at aa;split at aa))<;>simp at aa;done)
 obtain ⟨c,ca,ay⟩:=key;unfold kP at ay;split at ay
 ·split at ay<;>simp at ay
 ·split at ay<;>simp at ay
 ·rename_i BC av;split at ay
  case h_2=>simp at ay
  case h_3=>cases ay
  rename_i bG first captured xy
  split at ay
  case isFalse=>split at ay<;>simp at ay
  rename_i eX;simp at ay;obtain ⟨rfl,rfl⟩:=ay;have aH:=b5 BC;rw [xy] at aH;generalize xz:cx BC=v' at aH;cases aH with
  | func fn lp fs aj bp=>
  rename_i od jE;have aP:=Ds b5 c.args.toList;refine ⟨od++c.args.map cx++jE,?_,?_⟩
  ·unfold bT at eX;split at eX
   case h_2=>cases eX
   rename_i fn mN;simp only [VW,bne_iff_ne,ne_eq] at eX;have al:fn.body.isNone=false:=by cases al:fn.body<;>simp_all
   unfold execOp;simp only [ca];simp [resolve,av,xz,Deferred.ofValue,invoke,callFunc,mN,eX.2];intro U;simp [U] at eX
  ·have h1:aX ρ first od.toList:=dQ.list ⟨lp,aj⟩
   have ad:aX ρ captured jE.toList:=dQ.list ⟨fs,bp⟩;have:=h1.append (aP.append ad);simpa using this
 ·rename_i r name hI;obtain ⟨t,v,f,aL,hm,bN⟩:=HV ay;simp only [Step.call.injEq] at bN;obtain ⟨rfl,rfl⟩:=bN;have aH:=b5 r;rw [aL] at aH;generalize xz:cx r=v' at aH;cases aH with
  | iface t aj=>
  rename_i b0;have aP:=Ds b5 c.args.toList;refine ⟨#[b0]++c.args.map cx,?_,?_⟩
  ·have eX:=hm.2;unfold bT at eX;split at eX
   case h_2=>cases eX
   rename_i fn mN;simp only [VW,bne_iff_ne,ne_eq] at eX;have al:fn.body.isNone=false:=by cases al:fn.body<;>simp_all
   unfold execOp;simp only [ca];have av:(callFunc g (#[b0]++c.args.map cx)).run P w=.ok (.enter g (#[b0]++c.args.map cx)) w:=by
    simp [callFunc,mN,eX.2];intro U;simp [U] at eX
   have he:(Array.extract (#[Value.iface t b0]++c.args.map cx) 1 (#[Value.iface t b0]++c.args.map cx).size)=c.args.map cx:=by
    apply avE;simp;exact are (by simp)
   have aK:(#[Value.iface t b0]++c.args.map cx)[0]?=some (.iface t b0):=by rw [aAs (show 0<1 by decide)];rfl
   have aC:(do let d ←resolve cx c o.type;invoke d.target d.args)=callMethod (.iface t b0) name (c.args.map cx):=by
    simp only [resolve,hI,xz,pure_bind,invoke,aK,he]
   rw [aC];simp only [callMethod,Sem.run_bind,run_program,Result.andThen_ok,hm.1,av]
  ·simpa using aX.cons aj aP
theorem agC {P:Program} {o:Oper} {bz:Operand→V} {cx:Operand→Value} {h:I} {l:Nat} {args:List V} (aa:ej P o bz h=some (.round l args)) {ρ:Ren} {B:Nat} {aJ w:World}
  (R:aR ρ B aJ h w) (b5:∀ x,aB ρ (bz x) (cx x)):∃ args',execOp cx o=Instr.yield l args'∧aX ρ args args'.toList:=by
 have key:∃ c,o.op=.call c∧kP P c o.type bz h=some (.round l args):=by
  unfold ej at aa;split at aa
  all_goals first
   | (rename_i c ca;exact ⟨c,ca,aa⟩)
   | (simp [fK,gS,rM] at aa;done)
   | (unfold fK at aa;split at aa<;>simp at aa;done)
   | (unfold gS at aa;split at aa<;>simp at aa;done)
   | (unfold rM at aa;split at aa<;>simp at aa;done)
   | (split at aa<;>(try (unfold fK at aa;split at aa))<;>simp at aa;done)
   | (split at aa<;>(try (unfold gS at aa;split at aa))<;>simp at aa;done)
 obtain ⟨c,ca,ay⟩:=key;unfold kP at ay;split at ay
 ·split at ay<;>simp at ay
 ·split at ay<;>simp at ay
 ·rename_i BC av;split at ay
  case h_1=>split at ay<;>(try (split at ay))<;>simp at ay
  case h_3=>cases ay
  rename_i bU xy;simp at ay;obtain ⟨rfl,rfl⟩:=ay;have aH:=b5 BC;rw [xy] at aH;generalize xz:cx BC=v' at aH;cases aH with
  | func fn lp fs aj bp=>
  rename_i od jE;have aP:=Ds b5 c.args.toList;have h1:od=#[]:=awK lp.symm;have ad:jE=#[]:=awK fs.symm;subst h1 ad;refine ⟨c.args.map cx,?_,by simpa using aP⟩
  unfold execOp;simp only [ca];simp [resolve,av,xz,Deferred.ofValue,invoke]
 ·obtain ⟨_,_,_,_,_,bN⟩:=HV ay;cases bN
theorem agD {P:Program} {o:Oper} {bz:Operand→V} {cx:Operand→Value} {h:I} {l:List (V×I)} (aa:ej P o bz h=some (.alts l)) {ρ:Ren} {B:Nat} {aJ w:World}
  (R:aR ρ B aJ h w) (b5:∀ x,aB ρ (bz x) (cx x)):∃ v h',(v,h') ∈ l∧j4 P (execOp cx o) ρ B aJ w v h':=by
 have key:∃ it,o.op=.next it false∧Ak (bz it) h=some l:=by
  unfold ej at aa;split at aa
  all_goals first
   | (rename_i it ca;cases aG:Ak (bz it) h with
     | none=>simp [aG] at aa
     | some bU=>simp [aG] at aa;subst aa;exact ⟨it,ca,aG⟩)
   | (simp [fK,gS,rM] at aa;done)
   | (unfold fK at aa;split at aa<;>simp at aa;done)
   | (unfold gS at aa;split at aa<;>simp at aa;done)
   | (unfold rM at aa;split at aa<;>simp at aa;done)
   | (unfold kP at aa;split at aa<;>(split at aa)<;>simp at aa;done)
   | (split at aa<;>(try (unfold fK at aa;split at aa))<;>simp at aa;done)
   | (split at aa<;>(try (unfold gS at aa;split at aa))<;>simp at aa;done)
   | (
     exfalso;unfold kP at aa;split at aa
     ·split at aa<;>simp at aa
     ·split at aa<;>simp at aa
     ·split at aa
      ·split at aa
       ·simp at aa
       ·split at aa<;>simp at aa
      ·simp at aa
      ·cases aa
     ·obtain ⟨_,_,_,_,_,bN⟩:=HV aa;cases bN)
 obtain ⟨it,ca,aG⟩:=key;obtain ⟨v,h',hm,bp⟩:=agn (P:=P) (ty:=o.type) aG R (b5 it);refine ⟨v,h',hm,?_⟩;unfold execOp;simp only [ca];exact bp.next
theorem agE {P:Program} {o:Oper} {bz:Operand→V} {cx:Operand→Value} {h:I} (aa:ej P o bz h=some .panic) {ρ:Ren} {B:Nat} {aJ w:World}
  (R:aR ρ B aJ h w) (b5:∀ x,aB ρ (bz x) (cx x)):∃ t v',(execOp cx o).run P w=.halt (.panic (.iface t v')) w:=by
 have key:(∃ x,o.op=.panic x∧∃ t v,bz x=.iface t v)∨(∃ c x,o.op=.call c∧c.callee=.builtin .panic∧c.args.toList=[x]∧∃ t v,bz x=.iface t v):=by
  unfold ej at aa;split at aa
  all_goals first
   | (rename_i x ca;cases aj:bz x<;>simp [aj] at aa;exact .inl ⟨x,ca,_,_,aj⟩)
   | (simp [fK,gS,rM] at aa;done)
   | (unfold fK at aa;split at aa<;>simp at aa;done)
   | (unfold gS at aa;split at aa<;>simp at aa;done)
   | (unfold rM at aa;split at aa<;>simp at aa;done)
   | (split at aa<;>(try (unfold fK at aa;split at aa))<;>simp at aa;done)
   | (split at aa<;>(try (unfold gS at aa;split at aa))<;>simp at aa;done)
   | (
     rename_i c ca;unfold kP at aa;split at aa
     ·rename_i hI;split at aa
      ·rename_i t v heq;cases aw:c.args.toList with
       | nil=>simp [aw] at heq
       | cons x r=>
        rw [aw] at heq;simp at heq;obtain ⟨h1,rfl⟩:=heq;exact .inr ⟨c,x,ca,hI,aw,t,v,h1⟩
      ·cases aa
     ·split at aa<;>simp at aa
     ·split at aa
      ·split at aa
       ·simp at aa
       ·split at aa<;>simp at aa
      ·simp at aa
      ·cases aa
     ·obtain ⟨_,_,_,_,_,bN⟩:=HV aa;cases bN)
 have run:∀ x t v,bz x=.iface t v→∃ t v',cx x=.iface t v'∧(Instr.panic (cx x)).run P w=.halt (.panic (.iface t v')) w:=fun x t v he=>by
  have aj:=b5 x;rw [he] at aj;generalize cx x=b0 at aj;cases aj with
  | iface t aH=>exact ⟨t,_,rfl,by simp [Instr.panic,goPanic,Sem.run]⟩
 rcases key with ⟨x,ca,t,v,he⟩ | ⟨c,x,ca,hI,nU,t,v,he⟩
 ·obtain ⟨t,v',h1,ad⟩:=run x t v he;refine ⟨t,v',?_⟩;unfold execOp;simp [ca,ad]
 ·obtain ⟨t,v',h1,ad⟩:=run x t v he;refine ⟨t,v',?_⟩;have aP:c.args=#[x]:=by apply avE;simpa using nU
  unfold execOp;simp [ca,resolve,hI,aP,invoke,builtin,ad]
class HY where
 prop:Prop
def rN [p:HY]:Prop:=p.prop
theorem ax {p:Prop} (h:p):@rN ⟨p⟩:=h
inductive cw where
 | normal
 | exit (id:Nat)
 | goto (l:Nat)
 | ret
 | panic
def ii (iv:List PanicEntry):Prop:=∃ t v',iv=[{ v:=.iface t v',recovered:=false }]
def ql:cw→Exit→Prop
 | .normal,.normal=>True
 | .exit i,.exit j=>i=j
 | .goto i,.goto j=>i=j
 | .ret,.ret=>True
 | .panic,.panic iv=>ii iv
 | _,_=>False
def bV (P:Program) (f:FuncId) (args:List V) (h:I) (R:V→I→Prop) (E:I→Prop):Prop :=
 ∀ (ρ:Ren) (B:Nat) (aJ w:World) (args':Array Value),aR ρ B aJ h w→aX ρ args args'.toList →
  Calls P f args' w fun e w'=>(∃ (ρ':Ren) (r:V) (c0:Value) (h':I),e=.returned c0∧aB ρ' r c0∧aR ρ' B aJ h' w'∧ρ.le ρ'∧R r h') ∨
   (∃ (ρ':Ren) (iv:List PanicEntry) (h':I),e=.panicked iv∧ii iv∧aR ρ' B aJ h' w'∧ρ.le ρ'∧E h')
def af (P:Program) (f:FuncId) (args:List V) (h:I) (R:V→I→Prop):Prop:=bV P f args h R fun _=>False
def ku (P:Program) (l:Nat) (args:List V) (h:I) (R:V→I→Prop):Prop :=
 ∀ (ρ:Ren) (B:Nat) (aJ w:World) (args':Array Value),aR ρ B aJ h w→aX ρ args args'.toList →
  ∃ fn tmps assign body,(Instr.yield l args').run P w=.ok (.round l fn tmps assign body) w∧RoundIn Fence.wide 0 P l fn tmps assign body w fun e w'=>
   ∃ (ρ':Ren) (r:V) (c0:Value) (h':I),e=.returned c0∧aB ρ' r c0∧aR ρ' B aJ h' w'∧ρ.le ρ'∧R r h'
theorem ku.mono {P:Program} {l:Nat} {args:List V} {h:I} {R eu:V→I→Prop} (ay:ku P l args h R) (aL:∀ r h',R r h'→eu r h'):ku P l args h eu :=
 fun ρ B aJ w args' hw aP=>let ⟨fn,tmps,assign,body,h1,ad⟩:=ay ρ B aJ w args' hw aP
  ⟨fn,tmps,assign,body,h1,ad.mono fun _ _ ⟨ρ',r,c0,h',aC,bd,ev,jr,j5⟩=>⟨ρ',r,c0,h',aC,bd,ev,jr,aL _ _ j5⟩⟩
structure te (F:Fence):Prop where
 fn:∀ f,F.fn f
 depth:F.depth=none
 calls:∀ {n:Nat} {P:Program} {f:FuncId} {args:Array Value} {w:World} {R:Ending→World→Prop},Calls P f args w R→CallsIn F n P f args w R
 round:∀ {n:Nat} {P:Program} {l:Nat} {f:FuncId} {tmps:Array Value} {a b:Code} {w:World} {R:Ending→World→Prop},RoundIn Fence.wide 0 P l f tmps a b w R→RoundIn F n P l f tmps a b w R
theorem te.wide:te Fence.wide:=⟨fun _=>trivial,rfl,fun h=>callsIn_wide.2 h,fun h=>⟨trivial,fun c cs _=>h.2 c cs (room_wide _)⟩⟩
theorem te.inRound (l:Nat):te (Fence.wide.inRound l):=⟨fun _=>trivial,rfl,fun {n P f args w R} h=>show CallsIn Fence.wide n P f args w R from callsIn_wide.2 h,fun h=>⟨trivial,fun c cs _=>h.2 c cs (room_wide _)⟩⟩
theorem bV.mono {P:Program} {f:FuncId} {args:List V} {h:I} {R eu:V→I→Prop} {E HZ:I→Prop} (ay:bV P f args h R E) (aL:∀ r h',R r h'→eu r h') (he:∀ h',E h'→HZ h'):bV P f args h eu HZ :=
 fun ρ B aJ w args' hw aP=>(ay ρ B aJ w args' hw aP).mono fun _ _ U=>by
  rcases U with ⟨ρ',r,c0,h',h1,ad,aD,bn,bN⟩ | ⟨ρ',iv,h',h1,ad,aD,bn,bN⟩
  ·exact .inl ⟨ρ',r,c0,h',h1,ad,aD,bn,aL _ _ bN⟩
  ·exact .inr ⟨ρ',iv,h',h1,ad,aD,bn,he _ bN⟩
theorem af.mono {P:Program} {f:FuncId} {args:List V} {h:I} {R eu:V→I→Prop} (ay:af P f args h R) (aL:∀ r h',R r h'→eu r h'):af P f args h eu :=
 bV.mono ay aL fun _ h=>h
theorem af.e {P:Program} {f:FuncId} {args:List V} {h:I} {R:V→I→Prop} {E:I→Prop} (ay:af P f args h R):bV P f args h R E :=
 bV.mono ay (fun _ _ h=>h) fun _ h=>h.elim
def lq (n:Nat) (B:Nat) (aJ:World) (ρ:Ren) (Q:cw→ak→I→Prop) (e:Exit) (a:Act) (w:World):Prop :=
 ∃ (ρ':Ren) (x:cw) (f:ak) (h:I),ql x e∧aR ρ' B aJ h w∧eg ρ' n f a∧ρ.le ρ'∧Q x f h
theorem lq.le {n B:Nat} {aJ:World} {ρ ρ1:Ren} (hle:ρ.le ρ1) {Q:cw→ak→I→Prop} {e:Exit} {a:Act} {w:World} (h:lq n B aJ ρ1 Q e a w):lq n B aJ ρ Q e a w :=
 let ⟨ρ',x,f,h',aj,hw,av,aw,ab⟩:=h
 ⟨ρ',x,f,h',aj,hw,av,hle.trans aw,ab⟩
def aZ (P:Program) (n:Nat) (c:Code) (Q:cw→ak→I→Prop) (f:ak) (h:I):Prop :=
 ∀ (ρ:Ren) (B:Nat) (aJ:World) (a:Act) (w:World),aR ρ B aJ h w→eg ρ n f a→c.wp P (lq n B aJ ρ Q) a w
theorem aZ.mono {P:Program} {n:Nat} {c:Code} {Q Am:cw→ak→I→Prop} {f:ak} {h:I} (aa:aZ P n c Q f h) (ab:∀ e f h,Q e f h→Am e f h):aZ P n c Am f h :=
 fun ρ B aJ a w hw av=>wp_mono (aa ρ B aJ a w hw av) fun _ _ _ ⟨ρ',x,bO,h',aj,bX,b8,aw,dz⟩=>⟨ρ',x,bO,h',aj,bX,b8,aw,ab _ _ _ dz⟩
def qm (f:ak) (h:I) (f2:ak) (ad:I):Prop :=
 ∀ (ρ:Ren) (B:Nat) (aJ w:World) (n:Nat) (a:Act),aR ρ B aJ h w→eg ρ n f a→∃ ρ',ρ.le ρ'∧aR ρ' B aJ ad w∧eg ρ' n f2 a
theorem aZ.cast {P:Program} {n:Nat} {c:Code} {Q:cw→ak→I→Prop} {f f2:ak} {h ad:I} (ay:qm f h f2 ad) (aa:aZ P n c Q f2 ad):aZ P n c Q f h :=
 fun ρ B aJ a w hw av=>let ⟨ρ',hle,bX,b8⟩:=ay ρ B aJ w n a hw av;wp_mono (aa ρ' B aJ a w bX b8) fun _ _ _ aU=>aU.le hle
def aA (r:V) (h:I) (dI:V) (ad:I):Prop :=
 ∀ (ρ:Ren) (B:Nat) (aJ w:World) (c0:Value),aR ρ B aJ h w→aB ρ r c0→∃ ρ',ρ.le ρ'∧aR ρ' B aJ ad w∧aB ρ' dI c0
theorem bV.cast {P:Program} {f:FuncId} {args:List V} {h:I} {R:V→I→Prop} {E:I→Prop} (ay:bV P f args h (fun r h'=>∃ dI ad,aA r h' dI ad∧R dI ad) E):bV P f args h R E :=
 fun ρ B aJ w args' hw aP=>(ay ρ B aJ w args' hw aP).mono fun _ _ U=>by
  rcases U with ⟨ρ',r,c0,h',h1,ad,aD,bn,dI,eR,An,eC⟩ | U
  ·obtain ⟨ρ2,hle,iI,BE⟩:=An ρ' B aJ _ c0 aD ad;exact .inl ⟨ρ2,dI,c0,eR,h1,BE,iI,bn.trans hle,eC⟩
  ·exact .inr U
theorem af.cast {P:Program} {f:FuncId} {args:List V} {h:I} {R:V→I→Prop} (ay:af P f args h (fun r h'=>∃ dI ad,aA r h' dI ad∧R dI ad)):af P f args h R:=bV.cast ay
def andThen (K:ak→I→Prop) (Q:cw→ak→I→Prop):cw→ak→I→Prop
 | .normal,f,h=>K f h
 | e,f,h=>Q e f h
theorem aZ.seq {P:Program} {n:Nat} {x y:Code} {Q:cw→ak→I→Prop} {f:ak} {h:I} (aa:aZ P n x (andThen (aZ P n y Q) Q) f h):aZ P n (.seq x y) Q f h:=by
 intro ρ B aJ a w hw av;refine wp_seq (wp_mono (aa ρ B aJ a w hw av) fun e ig w' ⟨ρ',x,bO,h',aj,bX,b8,aw,dz⟩=>?_);cases x<;>cases e<;>simp only [ql] at aj
 ·exact wp_mono (dz ρ' B aJ ig w' bX b8) fun _ _ _ aU=>aU.le aw
 ·exact ⟨ρ',_,bO,h',by exact aj,bX,b8,aw,dz⟩
 ·exact ⟨ρ',_,bO,h',by exact aj,bX,b8,aw,dz⟩
 ·exact ⟨ρ',.ret,bO,h',trivial,bX,b8,aw,dz⟩
 ·exact ⟨ρ',.panic,bO,h',by exact aj,bX,b8,aw,dz⟩
theorem aZ.cond {P:Program} {n:Nat} {c:Operand} {x y:Code} {Q:cw→ak→I→Prop} {f:ak} {h:I} {t:Bool} (ay:f.eval h c=.bool t)
  (aa:aZ P n (if t then x else y) Q f h):aZ P n (.cond c x y) Q f h:=by
 intro ρ B aJ a w hw av;have aH:=av.eval hw.heap c;rw [ay] at aH;exact wp_cond (yO aH rfl) (aa ρ B aJ a w hw av)
def Gm (id:Nat) (Q:cw→ak→I→Prop):cw→ak→I→Prop
 | .exit j,f,h=>if j=id then Q .normal f h else Q (.exit j) f h
 | e,f,h=>Q e f h
theorem aZ.block {P:Program} {n id:Nat} {c:Code} {Q:cw→ak→I→Prop} {f:ak} {h:I} (aa:aZ P n c (Gm id Q) f h):aZ P n (.block id c) Q f h:=by
 intro ρ B aJ a w hw av;refine wp_block (wp_mono (aa ρ B aJ a w hw av) fun e ig w' ⟨ρ',x,bO,h',aj,bX,b8,aw,dz⟩=>?_);cases x<;>cases e<;>simp only [ql] at aj
 ·exact ⟨ρ',.normal,bO,h',trivial,bX,b8,aw,dz⟩
 ·subst aj;simp only [Gm] at dz;simp only [Exit.inBlock];split
  ·rename_i he;simp only [he,if_true] at dz;exact ⟨ρ',.normal,bO,h',trivial,bX,b8,aw,dz⟩
  ·rename_i he;simp only [he,if_false] at dz;exact ⟨ρ',.exit _,bO,h',rfl,bX,b8,aw,dz⟩
 ·exact ⟨ρ',.goto _,bO,h',aj,bX,b8,aw,dz⟩
 ·exact ⟨ρ',.ret,bO,h',trivial,bX,b8,aw,dz⟩
 ·exact ⟨ρ',.panic,bO,h',aj,bX,b8,aw,dz⟩
theorem aZ.skip {P:Program} {n:Nat} {Q:cw→ak→I→Prop} {f:ak} {h:I} (ab:Q .normal f h):aZ P n .skip Q f h :=
 fun ρ _ _ _ _ hw av=>wp_skip ⟨ρ,.normal,f,h,trivial,hw,av,Ren.le.refl ρ,ab⟩
theorem aZ.label {P:Program} {n l:Nat} {Q:cw→ak→I→Prop} {f:ak} {h:I} (ab:Q .normal f h):aZ P n (.label l) Q f h :=
 fun ρ _ _ _ _ hw av=>wp_label ⟨ρ,.normal,f,h,trivial,hw,av,Ren.le.refl ρ,ab⟩
theorem aZ.exit {P:Program} {n id:Nat} {Q:cw→ak→I→Prop} {f:ak} {h:I} (ab:Q (.exit id) f h):aZ P n (.exit id) Q f h :=
 fun ρ _ _ _ _ hw av=>wp_exit ⟨ρ,.exit id,f,h,rfl,hw,av,Ren.le.refl ρ,ab⟩
theorem aZ.goto {P:Program} {n l:Nat} {Q:cw→ak→I→Prop} {f:ak} {h:I} (ab:Q (.goto l) f h):aZ P n (.goto l) Q f h :=
 fun ρ _ _ _ _ hw av=>wp_goto ⟨ρ,.goto l,f,h,rfl,hw,av,Ren.le.refl ρ,ab⟩
theorem aZ.ret {P:Program} {n:Nat} {Q:cw→ak→I→Prop} {f:ak} {h:I} (ab:Q .ret f h):aZ P n .ret Q f h :=
 fun ρ _ _ _ _ hw av=>wp_ret ⟨ρ,.ret,f,h,trivial,hw,av,Ren.le.refl ρ,ab⟩
theorem aZ.loop {P:Program} {n:Nat} {c:Code} {Q:cw→ak→I→Prop} {f:ak} {h:I} (MT:ak→I→Prop) (μ:ak→I→Nat) (aK:MT f h)
  (round:∀ f h,MT f h→aZ P n c (andThen (fun bO h'=>@rN ⟨MT bO h'∧μ bO h'<μ f h⟩) Q) f h):aZ P n (.loop c) Q f h:=by
 intro ρ B aJ a w hw av;have key:∀ m f h,MT f h→μ f h<m→∀ ρ1:Ren,ρ.le ρ1→∀ a w,aR ρ1 B aJ h w→eg ρ1 n f a→Code.rounds P c (lq n B aJ ρ Q) m a w:=by
  intro m
  induction m with
  | zero=>intro f h _ hm;omega
  | succ m ih=>
   intro f h H0 hm ρ1 hle a w hw av;rw [rounds_succ];refine wp_mono (round f h H0 ρ1 B aJ a w hw av) fun e ig w' ⟨ρ',x,bO,h',aj,bX,b8,aw,dz⟩=>?_;cases x<;>cases e<;>simp only [ql] at aj
   ·exact ih bO h' dz.1 (by have:=dz.2;omega) ρ' (hle.trans aw) ig w' bX b8
   ·exact ⟨ρ',.exit _,bO,h',aj,bX,b8,hle.trans aw,dz⟩
   ·exact ⟨ρ',.goto _,bO,h',aj,bX,b8,hle.trans aw,dz⟩
   ·exact ⟨ρ',.ret,bO,h',trivial,bX,b8,hle.trans aw,dz⟩
   ·exact ⟨ρ',.panic,bO,h',aj,bX,b8,hle.trans aw,dz⟩
 exact wp_loop_rounds (μ f h+1) (key _ f h aK (awc _) ρ (Ren.le.refl ρ) a w hw av)
theorem aZ.bQ {P:Program} {n:Nat} {c:Code} {Q:cw→ak→I→Prop} {f:ak} {h:I} {α:Type} (MT:α→ak→I→Prop) (μ:α→Nat) (ft:α) (aK:MT ft f h)
  (round:∀ x f h,MT x f h→aZ P n c (andThen (fun bO h'=>@rN ⟨∃ y,MT y bO h'∧μ y<μ x⟩) Q) f h):aZ P n (.loop c) Q f h:=by
 intro ρ B aJ a w hw av;have key:∀ m x f h,MT x f h→μ x<m→∀ ρ1:Ren,ρ.le ρ1→∀ a w,aR ρ1 B aJ h w→eg ρ1 n f a→Code.rounds P c (lq n B aJ ρ Q) m a w:=by
  intro m
  induction m with
  | zero=>intro x f h _ hm;omega
  | succ m ih=>
   intro x f h H0 hm ρ1 hle a w hw av;rw [rounds_succ];refine wp_mono (round x f h H0 ρ1 B aJ a w hw av) fun e ig w' ⟨ρ',b0,bO,h',aj,bX,b8,aw,dz⟩=>?_;cases b0<;>cases e<;>simp only [ql] at aj
   ·obtain ⟨y,bp,aM⟩:=dz;exact ih y bO h' bp (by omega) ρ' (hle.trans aw) ig w' bX b8
   ·exact ⟨ρ',.exit _,bO,h',aj,bX,b8,hle.trans aw,dz⟩
   ·exact ⟨ρ',.goto _,bO,h',aj,bX,b8,hle.trans aw,dz⟩
   ·exact ⟨ρ',.ret,bO,h',trivial,bX,b8,hle.trans aw,dz⟩
   ·exact ⟨ρ',.panic,bO,h',aj,bX,b8,hle.trans aw,dz⟩
 exact wp_loop_rounds (μ ft+1) (key _ ft f h aK (awc _) ρ (Ren.le.refl ρ) a w hw av)
def hr (ops:List Oper) (g:Option (Nat×Bool)) (f:ak):Option Bool :=
 match g with
 | none=>some true
 | some (j,want)=>match (ops[j]?).bind (·.dst) with
  | some d=>match f d with
   | .top=>none
   | .bool b=>some (b==want)
   | _=>some false
  | none=>some false
theorem MU {ρ:Ren} {n:Nat} {f:ak} {a:Act} (av:eg ρ n f a) (ops:Array Oper) (o:Oper) {b:Bool} (al:hr ops.toList o.guard f=some b):Region.wanted o (yielded ops a.tmps)=b:=by
 unfold Region.wanted;unfold hr at al;cases az:o.guard with
 | none=>simp [az] at al;simp [al]
 | some p=>
  obtain ⟨j,want⟩:=p;simp only [az] at al⊢;have e:ops.toList[j]?=ops[j]?:=by simp
  rw [e] at al;unfold yielded;cases bf:(ops[j]?).bind (·.dst) with
  | none=>simp [bf] at al;subst al;rfl
  | some d=>
   simp only [bf] at al⊢;have aH:=av.tmps d;cases bE:a.tmps[d]? with
   | none=>
    have hu:a.tmps.getD d undef=undef:=by simp [bE]
    rw [hu] at aH;generalize f d=x at aH al;unfold undef at aH;cases aH with
    | top=>simp at al
    | tuple aa aj=>simp at al;subst al;simp [bE]
   | some u=>
    have hu:a.tmps.getD d undef=u:=by simp [bE]
    rw [hu] at aH;generalize f d=x at aH al;cases aH<;>simp at al<;>subst al<;>simp [bE]
def hV (P:Program) (o:Oper) (next exc:ak→I→Prop) (f:ak) (h:I):Prop :=
 match ej P o (f.eval h) h with
 | some (.val v h')=>next (f.put o.dst v) h'
 | some (.call g args)=>bV P g args h (fun r h'=>next (f.put o.dst r) h') (fun h'=>exc f h')
 | some (.alts l)=>∀ v h',(v,h') ∈ l→next (f.put o.dst v) h'
 | some .panic=>exc f h
 | some (.round l args)=>ku P l args h (fun r h'=>next (f.put o.dst r) h')
 | none=>False
def mn (P:Program) (ops:List Oper):List Oper→(ak→I→Prop)→(ak→I→Prop)→ak→I→Prop
 | [],K,_,f,h=>K f h
 | o::rest,K,E,f,h=>match hr ops o.guard f with
  | some true=>hV P o (mn P ops rest K E) E f h
  | some false=>mn P ops rest K E (f.put o.dst (.tuple [])) h
  | none=>False
def codeOk (n:Nat):Code→Bool
 | .region _ ops _=>ops.toList.all fun o=>sQ n o.dst
 | .seq a b=>codeOk n a&&codeOk n b
 | .cond c a b=>codeOk n a&&codeOk n b
 | .block _ b=>codeOk n b
 | .loop b=>codeOk n b
 | .scope b=>codeOk n b
 | .rangeFunc ..=>false
 | .refuse _=>false
 | _=>true
theorem agF {P:Program} {o:Oper} {bz:Operand→V} {h:I} {s:Step} (aa:ej P o bz h=some s) (ro:Option Nat) (cx:Operand→Value):o.semAt ro cx=execOp cx o :=
 Oper.semAt_eq ro cx o fun c ay=>by unfold ej at aa;rw [ay] at aa;simp at aa
theorem Rr {F:Fence} (hW:te F) {rm:Nat} {P:Program} {n:Nat} {o:Oper} (bf:sQ n o.dst=true) {ρ0 ρ:Ren} {B:Nat} {aJ w:World} {f:ak} {h:I} {a:Act} {next exc:ak→I→Prop}
  {next':Act→World→Prop} {Am:Exit→Act→World→Prop} (hle:ρ0.le ρ) (hw:aR ρ B aJ h w) (av:eg ρ n f a) (ab:hV P o next exc f h)
  (sM:∀ ρ f h a w,ρ0.le ρ→aR ρ B aJ h w→eg ρ n f a→next f h→next' a w) (H2:∀ ρ f h a w iv,ρ0.le ρ→aR ρ B aJ h w→eg ρ n f a→ii iv→exc f h→Am (.panic iv) a w) :
  o.wpIn F rm P a w next' Am:=by
 unfold hV at ab;unfold Oper.wpIn;refine ⟨fun f _=>hW.fn f,?_⟩;have b5:=av.eval hw.heap;have Pp:F.depth.isSome=true→1≤rm:=fun U=>by rw [hW.depth] at U;cases U
 have fin:∀ v h',j4 P (execOp a.eval o) ρ B aJ w v h'→next (f.put o.dst v) h'→Oper.uponIn F rm P o a next' Am ((execOp a.eval o).run P w):=fun v h' bp aG=>by
  obtain ⟨ρ',v',w',cE,aH,bX,fX⟩:=bp;rcases cE with cE | ⟨cE,rfl⟩
  ·rw [cE,Oper.uponIn_value];exact sM ρ' _ _ _ _ (hle.trans fX) bX ((av.mono fX).put aH o.dst bf) aG
  ·rw [cE,Oper.uponIn_skip];exact sM ρ' _ _ _ _ (hle.trans fX) bX ((av.mono fX).put aH o.dst bf) aG
 cases he:ej P o (f.eval h) h with
 | none=>simp [he] at ab
 | some s=>
  rw [agF he];cases s with
  | val v h'=>simp only [he] at ab;exact fin v h' (agA he hw b5) ab
  | alts l=>
   simp only [he] at ab;obtain ⟨v,h',hm,bp⟩:=agD he hw b5;exact fin v h' bp (ab v h' hm)
  | panic=>
   simp only [he] at ab;obtain ⟨t,v',cE⟩:=agE he hw b5;rw [cE,Oper.uponIn_panic];exact H2 ρ f h a w _ hle hw av ⟨t,v',rfl⟩ ab
  | call g args=>
   simp only [he] at ab;obtain ⟨args',cE,aP⟩:=agB he hw b5;rw [cE,Oper.uponIn_enter];refine ⟨Pp,(hW.calls (ab ρ B aJ w args' hw aP)).mono fun e w' U=>?_⟩;rcases U with ⟨ρ',r,c0,h',rO,aH,bX,fX,eC⟩ | ⟨ρ',iv,h',rO,nE,bX,fX,bL⟩
   ·subst rO;exact sM ρ' _ _ _ _ (hle.trans fX) bX ((av.mono fX).put aH o.dst bf) eC
   ·subst rO;exact H2 ρ' f h' a w' iv (hle.trans fX) bX (av.mono fX) nE bL
  | round l args=>
   simp only [he] at ab;obtain ⟨args',cE,aP⟩:=agC he hw b5;obtain ⟨fn,tmps,assign,body,bp,aL⟩:=ab ρ B aJ w args' hw aP;rw [cE,bp,Oper.uponIn_round];refine ⟨Pp,(hW.round aL).mono fun e w' U=>?_⟩;obtain ⟨ρ',r,c0,h',rO,aH,bX,fX,eC⟩:=U;subst rO;exact sM ρ' _ _ _ _ (hle.trans fX) bX ((av.mono fX).put aH o.dst bf) eC
theorem MV {F:Fence} (hW:te F) {rm:Nat} {P:Program} {n:Nat} {ops:Array Oper} (aY:ops.toList.all (fun o=>sQ n o.dst)=true) {Q:cw→ak→I→Prop} {ρ0:Ren} {B:Nat} {aJ:World} :
  ∀ (l:List Oper) (k:Nat),l=ops.toList.drop k→∀ (ρ:Ren) (f:ak) (h:I) (a:Act) (w:World),ρ0.le ρ→aR ρ B aJ h w→eg ρ n f a →
   mn P ops.toList l (Q .normal) (Q .panic) f h→wpOpsIn F rm P ops (lq n B aJ ρ0 Q) (List.range' k l.length) a w
 | [],k,aw,ρ,f,h,a,w,hle,hw,av,ab=>by
  simp only [avi,List.range'_zero,wpOpsIn];exact ⟨ρ,.normal,f,h,trivial,hw,av,hle,ab⟩
 | o::rest,k,aw,ρ,f,h,a,w,hle,hw,av,ab=>by
  have hk:ops.toList[k]?=some o:=by
   have:=congrArg (·[0]?) aw;simpa using this.symm
  have iw:rest=ops.toList.drop (k+1):=by
   have:=congrArg List.tail aw;simpa [List.tail_drop] using this
  have aN:ops[k]?=some o:=by simpa using hk
  have bf:sQ n o.dst=true:=(avh.1 aY) o (avK hk);simp only [ave,List.range'_succ,wpOpsIn,aN];unfold mn at ab;cases pV:hr ops.toList o.guard f with
  | none=>simp [pV] at ab
  | some b=>
   rw [MU av ops o pV];cases b with
   | true=>
    simp only [pV] at ab;simp only [if_true];exact Rr hW bf hle hw av ab (fun ρ f h a w hle hw av aG=>MV hW aY rest (k+1) iw ρ f h a w hle hw av aG)
     (fun ρ f h a w iv hle hw av nE bL=>⟨ρ,.panic,f,h,nE,hw,av,hle,bL⟩)
   | false=>
    simp only [pV] at ab;simp only [avO,if_false];exact ⟨fun f _=>hW.fn f,MV hW aY rest (k+1) iw ρ _ _ _ _ hle hw (av.put (HX _) o.dst bf) ab⟩
theorem aZ.region {P:Program} {n id:Nat} {ops:Array Oper} (aY:ops.toList.all (fun o=>sQ n o.dst)=true) {Q:cw→ak→I→Prop} {f:ak} {h:I}
  (ab:mn P ops.toList ops.toList (Q .normal) (Q .panic) f h):aZ P n (.region id ops false) Q f h:=by
 intro ρ B aJ a w hw av;refine wpIn_wide.1 (wpIn_region (n:=0) ?_);have:=MV te.wide (rm:=0) (P:=P) aY (ρ0:=ρ) ops.toList 0 (by simp) ρ f h a w (Ren.le.refl ρ) hw av ab
 rwa [Array.length_toList,←List.range_eq_range'] at this
def Pure (P:Program) (bG:FuncId) (args:List V) (h:I) (v:V):Prop:=af P bG args h fun r h'=>r=v∧h'=h
def BF (P:Program) (o:Oper) (h:I) (f:ak) (v:V):Prop :=
 ej P o (f.eval h) h=some (.val v h)∨∃ g args,ej P o (f.eval h) h=some (.call g args)∧Pure P g args h v
def lr (P:Program) (ops:List Oper) (es:List Nat) (K E:ak→I→Prop):Nat→List Oper→ak→I→Prop
 | _,[],f,h=>K f h
 | k,o::rest,f,h=>if es.contains k then (match hr ops o.guard f with
   | some true=>hV P o (fun bO h'=>lr P ops es K E (k+1) rest bO h') E f h
   | some false=>lr P ops es K E (k+1) rest (f.put o.dst (.tuple [])) h
   | none=>False)
  else (match hr ops o.guard f with
   | some true=>∃ v,BF P o h f v∧lr P ops es K E (k+1) rest (f.put o.dst v) h
   | some false=>lr P ops es K E (k+1) rest (f.put o.dst (.tuple [])) h
   | none=>False)
def qZ (P:Program) (n:Nat):Code→(cw→ak→I→Prop)→ak→I→Prop
 | .skip,Q,f,h=>Q .normal f h
 | .region id ops false,Q,f,h=>mn P ops.toList ops.toList (Q .normal) (Q .panic) f h
 | .region id ops true,Q,f,h=>aZ P n (.region id ops true) Q f h
 | .seq a b,Q,f,h=>qZ P n a (andThen (fun f h=>qZ P n b Q f h) Q) f h
 | .cond c a b,Q,f,h=>match f.eval h c with
  | .bool true=>qZ P n a Q f h
  | .bool false=>qZ P n b Q f h
  | _=>False
 | .block id b,Q,f,h=>qZ P n b (Gm id Q) f h
 | .loop b,Q,f,h=>aZ P n (.loop b) Q f h
 | .scope b,Q,f,h=>aZ P n (.scope b) Q f h
 | .exit id,Q,f,h=>Q (.exit id) f h
 | .goto l,Q,f,h=>Q (.goto l) f h
 | .label _,Q,f,h=>Q .normal f h
 | .ret,Q,f,h=>Q .ret f h
 | _,_,_,_=>False
theorem Dt {P:Program} {n:Nat}:∀ (c:Code) (Q:cw→ak→I→Prop) (f:ak) (h:I),codeOk n c=true→qZ P n c Q f h→aZ P n c Q f h
 | .skip,Q,f,h,_,ab=>.skip ab
 | .region id ops false,Q,f,h,aY,ab=>.region (by simpa [codeOk] using aY) ab
 | .region id ops true,Q,f,h,_,ab=>ab
 | .seq a b,Q,f,h,aY,ab=>by
  simp only [codeOk,VW] at aY;refine .seq ((Dt a _ f h aY.1 ab).mono fun e bO h' U=>?_);cases e with
  | normal=>exact Dt b Q bO h' aY.2 U
  | _=>exact U
 | .cond c a b,Q,f,h,aY,ab=>by
  simp only [codeOk,VW] at aY;unfold qZ at ab;split at ab
  ·rename_i ay;exact .cond ay (Dt a Q f h aY.1 ab)
  ·rename_i ay;exact .cond ay (Dt b Q f h aY.2 ab)
  ·exact ab.elim
 | .block id b,Q,f,h,aY,ab=>.block (Dt b _ f h (by simpa [codeOk] using aY) ab)
 | .loop b,Q,f,h,_,ab=>ab
 | .scope b,Q,f,h,_,ab=>ab
 | .exit id,Q,f,h,_,ab=>.exit ab
 | .goto l,Q,f,h,_,ab=>.goto ab
 | .label _,Q,f,h,_,ab=>.label ab
 | .ret,Q,f,h,_,ab=>.ret ab
 | .rangeFunc ..,Q,f,h,aY,_=>by simp [codeOk] at aY
 | .refuse _,Q,f,h,aY,_=>by simp [codeOk] at aY
def iK (args:List V):ak:=fun t=>args.getD t .top
def oR (P:Program) (f:ak) (h:I):ResultVar→Option V
 | .tmp t=>some (f t)
 | .cell a t=>xh P t (f a) h
def qn (P:Program) (rs:List ResultVar) (f:ak) (h:I):Option V :=
 match rs with
 | [r]=>oR P f h r
 | _=>match rs.mapM (oR P f h) with
  | some vs=>some (.tuple vs)
  | none=>none
def vC (P:Program) (fn:Func) (R:V→I→Prop) (E:I→Prop):cw→ak→I→Prop
 | .normal,f,h | .ret,f,h=>match qn P fn.results.toList f h with
  | some r=>R r h
  | none=>False
 | .panic,f,h=>E h
 | _,_,_=>False
theorem agG {P:Program} {ρ:Ren} {B n:Nat} {aJ w:World} {f:ak} {h:I} {a:Act} (hw:aR ρ B aJ h w) (av:eg ρ n f a) {g:ResultVar→Sem Value}
  (jl:∀ t,g (.tmp t)=pure (a.tmps.getD t undef)) (q0:∀ c t,g (.cell c t)=(do loadVar t (←asAddr (a.tmps.getD c undef)))) {r:ResultVar} {v:V} (aL:oR P f h r=some v) :
  ∃ v',(g r).run P w=.ok v' w∧aB ρ v v':=by
 cases r with
 | tmp t=>
  obtain rfl:f t=v:=by simpa [oR] using aL
  rw [jl];exact ⟨_,Sem.run_pure ..,av.tmps t⟩
 | cell c t=>
  simp only [oR] at aL;obtain ⟨⟨auK,aP⟩,v',cE,aH⟩:=V1 aL hw (av.tmps c);refine ⟨v',?_,aH⟩;rw [q0];rw [aP] at cE⊢;simpa [Instr.loadAt,Instr.sureAddr,asAddr] using cE
theorem Rs {P:Program} {ρ:Ren} {B n:Nat} {aJ w:World} {f:ak} {h:I} {a:Act} (hw:aR ρ B aJ h w) (av:eg ρ n f a) {g:ResultVar→Sem Value}
  (jl:∀ t,g (.tmp t)=pure (a.tmps.getD t undef)) (q0:∀ c t,g (.cell c t)=(do loadVar t (←asAddr (a.tmps.getD c undef)))):∀ (rs:List ResultVar) (vs:List V),rs.mapM (oR P f h)=some vs →
  vs.length=rs.length∧∃ il,(rs.mapM g).run P w=.ok il w∧aX ρ vs il
 | [],vs,hm=>by
  simp at hm;subst hm;exact ⟨rfl,[],by simp,.nil ρ⟩
 | r::rs,vs,hm=>by
  simp only [aAu,Option.bind_eq_bind,Option.pure_def] at hm;cases aL:oR P f h r with
  | none=>simp [aL] at hm
  | some v=>
   cases rP:rs.mapM (oR P f h) with
   | none=>simp [aL,rP] at hm
   | some us=>
    simp [aL,rP] at hm;subst hm;obtain ⟨v',h1,ad⟩:=agG hw av jl q0 aL;obtain ⟨aw,Wn,aD,bn⟩:=Rs hw av jl q0 rs us rP;refine ⟨by simp [aw],v'::Wn,?_,.cons ad bn⟩
    simp only [aAu,Sem.run_bind,h1,aD,Result.andThen_ok,Sem.run_pure]
def Du (tmps:Array Value):ResultVar→Sem Value
 | .tmp t=>pure (tmps.getD t undef)
 | .cell a t=>do loadVar t (←asAddr (tmps.getD a undef))
theorem agH (fn:Func) (tmps:Array Value):results fn tmps=(do let vs ←fn.results.mapM (Du tmps);pure (if h:vs.size=1 then vs[0] else .tuple vs)):=rfl
theorem Rt {P:Program} {ρ:Ren} {B n:Nat} {aJ w:World} {f:ak} {h:I} {a:Act} {fn:Func} (hw:aR ρ B aJ h w) (av:eg ρ n f a) {r:V} (o2:qn P fn.results.toList f h=some r) :
  ∃ c0,(results fn a.tmps).run P w=.ok c0 w∧aB ρ r c0:=by
 rw [agH,Array.mapM_eq_mapM_toList];unfold qn at o2;split at o2
 ·rename_i rv heq;have hm:[rv].mapM (oR P f h)=some [r]:=by simp [o2]
  rw [heq];obtain ⟨_,il,h1,ad⟩:=Rs hw av (g:=Du a.tmps) (fun _=>rfl) (fun _ _=>rfl) [rv] [r] hm;obtain ⟨v',iW,rfl,aH,bE⟩:=ad.dB;obtain rfl:=bE.eq_nil;refine ⟨v',?_,aH⟩;simp only [Sem.run_bind,Sem.run_map,h1,Result.andThen_ok];simp
 ·rename_i bI;split at o2
  case h_2=>cases o2
  rename_i vs rC;obtain rfl:_=r:=by simpa using o2
  obtain ⟨Ao,il,h1,ad⟩:=Rs hw av (g:=Du a.tmps) (fun _=>rfl) (fun _ _=>rfl) _ vs rC;have h5:il.length≠1:=by
   rw [←ad.1,Ao];intro ay;obtain ⟨r,aL⟩:=List.length_eq_one_iff.1 ay;exact bI r aL
  refine ⟨.tuple il.toArray,?_,.tuple ad.arr.1 ad.arr.2⟩;simp only [Sem.run_bind,Sem.run_map,h1,Result.andThen_ok];simp [h5]
theorem Ru {ρ:Ren} {n:Nat} {args:List V} {args':Array Value} (aP:aX ρ args args'.toList) (hlen:args.length≤n) (bf:ρ.dfr=[]):eg ρ n (iK args) { tmps:=args'++awb (n - args'.size) undef,defers:=[] }:=by
 have bo:args'.size=args.length:=by have:=aP.1;simpa using this.symm
 refine ⟨fun t=>?_,by simp;omega,bf.symm⟩
 simp only [iK];by_cases bE:t<args.length
 ·obtain ⟨v',h1,ad⟩:=aP.get (ME bE);have wz:args'[t]?=some v':=by simpa using h1
  simp only [ava,ME bE,Option.getD_some];have:(args'++awb (n - args'.size) undef).getD t undef=v':=by
   rw [Array.getD_eq_getD_getElem?,aAs (by omega),wz]
   rfl
  rw [this];exact ad
 ·simp only [ava,List.getElem?_eq_none (show args.length≤t by omega),Option.getD_none]
  exact .top _
theorem bV.enter {P:Program} {bG:FuncId} {fn:Func} {c:Code} (mN:P.funcs[bG]?=some fn) (al:fn.body=some c) (aY:codeOk fn.ntmps c=true) {args:List V} (hlen:args.length≤fn.ntmps)
  {h:I} {R:V→I→Prop} {E:I→Prop} (ab:qZ P fn.ntmps c (vC P fn R E) (iK args) h):bV P bG args h R E:=by
 intro ρ B aJ w args' hw aP;refine calls_of_wp mN al ?_;have fin:∀ (ρ':Ren) (f:ak) (h':I) (ig:Act) (w':World),Ren.le { ρ with dfr:=[] } ρ'→aR ρ' B aJ h' w'→eg ρ' fn.ntmps f ig→(match qn P fn.results.toList f h' with | some r=>R r h' | none=>False) →
   ig.defers=[]∧∃ v,(results fn ig.tmps).run P w'=.ok v w'∧((∃ (ρ':Ren) (r:V) (c0:Value) (h':I),Ending.returned v=.returned c0∧aB ρ' r c0∧aR ρ' B aJ h' w'∧ρ.le ρ'∧R r h') ∨
    (∃ (ρ':Ren) (iv:List PanicEntry) (h':I),Ending.returned v=.panicked iv∧ii iv∧aR ρ' B aJ h' w'∧ρ.le ρ'∧E h')):=by
  intro ρ' f h' ig w' aw bX b8 dz;refine ⟨b8.defers.trans aw.dfr,?_⟩;cases o2:qn P fn.results.toList f h' with
  | none=>simp [o2] at dz
  | some r=>
  simp only [o2] at dz;obtain ⟨c0,h1,ad⟩:=Rt bX b8 o2;exact ⟨c0,h1,.inl ⟨_,r,c0,h',rfl,ad.dfr ρ.dfr,bX.dfr ρ.dfr,aw.qi,dz⟩⟩
 refine wp_mono (Dt c _ _ h aY ab { ρ with dfr:=[] } B aJ _ w (hw.dfr []) (Ru (aP.dfr []) hlen rfl)) fun e ig w' ⟨ρ',x,f,h',aj,bX,b8,aw,dz⟩=>?_;cases x<;>cases e<;>simp only [ql] at aj
 ·exact fin ρ' f h' ig w' aw bX b8 dz
 ·exact dz.elim
 ·exact dz.elim
 ·exact fin ρ' f h' ig w' aw bX b8 dz
 ·exact ⟨b8.defers.trans aw.dfr,.inr ⟨_,_,h',rfl,aj,bX.dfr ρ.dfr,aw.qi,dz⟩⟩
theorem nr {α:Sort _} {a b:α} (h:a=b):a=b:=h
class inductive rQ where
 | fn (run:cw→ak→I→Prop)
 | seq (P:Program) (n:Nat) (b:Code) (Q:rQ)
 | hs (id:Nat) (Q:rQ)
def rQ.go:rQ→cw→ak→I→Prop
 | .fn r=>r
 | .seq P n b Q=>andThen (fun f h=>qZ P n b Q.go f h) Q.go
 | .hs id Q=>Gm id Q.go
class inductive e7 where
 | fn (run exc:ak→I→Prop)
 | out (Q:rQ)
 | ops (P:Program) (ol l:List Oper) (K:e7)
 | rest (P:Program) (ol:List Oper) (es:List Nat) (k:Nat) (l:List Oper) (K:e7)
def e7.exc:e7→ak→I→Prop
 | .fn _ e=>e
 | .out Q=>Q.go .panic
 | .ops _ _ _ K=>K.exc
 | .rest _ _ _ _ _ K=>K.exc
def e7.go:e7→ak→I→Prop
 | .fn r _=>r
 | .out Q=>Q.go .normal
 | .ops P ol l K=>mn P ol l K.go K.exc
 | .rest P ol es k l K=>lr P ol es K.go K.exc k l
def lu (P:Program) (n:Nat) (c:Code) [Q:rQ] (f:ak) (h:I):Prop:=qZ P n c Q.go f h
def hJ (P:Program) (ol l:List Oper) [K:e7] (f:ak) (h:I):Prop:=mn P ol l K.go K.exc f h
def eG (P:Program) (o:Oper) [K:e7] (f:ak) (h:I):Prop:=hV P o K.go K.exc f h
def fA (x:cw) [Q:rQ] (f:ak) (h:I):Prop:=Q.go x f h
def jm [K:e7] (f:ak) (h:I):Prop:=K.go f h
def MW (v:V) [p:HY] [q:HY]:Prop:=match v with | .bool true=>p.prop | .bool false=>q.prop | _=>False
section
variable {P:Program} {n id:Nat} {ops:Array Oper} {l:List Oper} {Q:rQ} {K:e7} {f:ak} {h:I}
theorem agI:@lu P n .skip Q f h=@fA .normal Q f h:=nr rfl
theorem agJ:@lu P n (.region id ops false) Q f h=@hJ P ops.toList ops.toList (.out Q) f h:=nr rfl
theorem agK {a b:Code}:@lu P n (.seq a b) Q f h=@lu P n a (.seq P n b Q) f h:=nr rfl
theorem agL {p q:HY}:@MW (.bool true) p q=p.prop:=nr rfl
theorem agM {p q:HY}:@MW (.bool false) p q=q.prop:=nr rfl
theorem agN {c:Operand} {a b:Code}:@lu P n (.cond c a b) Q f h=@MW (f.eval h c) ⟨@lu P n a Q f h⟩ ⟨@lu P n b Q f h⟩:=by
 show (match f.eval h c with | .bool true=>qZ P n a Q.go f h | .bool false=>qZ P n b Q.go f h | _=>False)=_
 unfold MW;cases f.eval h c with
 | bool t=>cases t<;>rfl
 | _=>rfl
theorem agO {b:Code}:@lu P n (.block id b) Q f h=@lu P n b (.hs id Q) f h:=nr rfl
theorem agP:@lu P n (.exit id) Q f h=@fA (.exit id) Q f h:=nr rfl
theorem agQ:@lu P n (.goto id) Q f h=@fA (.goto id) Q f h:=nr rfl
theorem agR:@lu P n .ret Q f h=@fA .ret Q f h:=nr rfl
theorem agS {b:Code}:@lu P n (.loop b) Q f h=aZ P n (.loop b) Q.go f h:=nr rfl
theorem agT {b:Code}:@lu P n (.scope b) Q f h=aZ P n (.scope b) Q.go f h:=nr rfl
theorem agU:@lu P n (.region id ops true) Q f h=aZ P n (.region id ops true) Q.go f h:=nr rfl
theorem agV {b:Code}:@fA .normal (.seq P n b Q) f h=@lu P n b Q f h:=nr rfl
theorem agW {b:Code} {j:Nat}:@fA (.exit j) (.seq P n b Q) f h=@fA (.exit j) Q f h:=nr rfl
theorem agX {b:Code} {j:Nat}:@fA (.goto j) (.seq P n b Q) f h=@fA (.goto j) Q f h:=nr rfl
theorem agY {b:Code}:@fA .ret (.seq P n b Q) f h=@fA .ret Q f h:=nr rfl
theorem agZ {b:Code}:@fA .panic (.seq P n b Q) f h=@fA .panic Q f h:=nr rfl
theorem ag0:@fA .normal (.hs id Q) f h=@fA .normal Q f h:=nr rfl
theorem Fd {j:Nat}:@fA (.exit j) (.hs id Q) f h=if j=id then @fA .normal Q f h else @fA (.exit j) Q f h:=nr rfl
theorem ag1:@fA .ret (.hs id Q) f h=@fA .ret Q f h:=nr rfl
theorem ag2:@fA .panic (.hs id Q) f h=@fA .panic Q f h:=nr rfl
theorem ag3 {x:cw} {Q:cw→ak→I→Prop}:@fA x (.fn Q) f h=Q x f h:=nr rfl
theorem ag4:@jm (.out Q) f h=@fA .normal Q f h:=nr rfl
theorem ag5 {ol:List Oper}:@jm (.ops P ol l K) f h=@hJ P ol l K f h:=nr rfl
theorem ag6 {K E:ak→I→Prop}:@jm (.fn K E) f h=K f h:=nr rfl
theorem ag7 {ol:List Oper}:@hJ P ol [] K f h=@jm K f h:=nr rfl
theorem Wo {x:cw}:rQ.go Q x f h=@fA x Q f h:=nr rfl
theorem ag8:e7.exc (.out Q) f h=@fA .panic Q f h:=nr rfl
theorem ag9 {ol:List Oper}:e7.exc (.ops P ol l K) f h=e7.exc K f h:=nr rfl
theorem aha {K:ak→I→Prop} {Q:cw→ak→I→Prop}:andThen K Q .normal f h=K f h:=nr rfl
theorem ahb {K:ak→I→Prop} {Q:cw→ak→I→Prop}:andThen K Q (.exit id) f h=Q (.exit id) f h:=nr rfl
theorem ahc {K:ak→I→Prop} {Q:cw→ak→I→Prop}:andThen K Q .ret f h=Q .ret f h:=nr rfl
theorem ee {c:Code} {Q:cw→ak→I→Prop} (aY:codeOk n c=true) (ab:@lu P n c (.fn Q) f h):aZ P n c Q f h:=Dt c Q f h aY ab
theorem bV.au {bG:FuncId} {fn:Func} {c:Code} (mN:P.funcs[bG]?=some fn) (al:fn.body=some c) (aY:codeOk fn.ntmps c=true) {args:List V} (hlen:args.length≤fn.ntmps)
  {h:I} {R:V→I→Prop} {E:I→Prop} (ab:@lu P fn.ntmps c (.fn (vC P fn (fun r h=>@rN ⟨R r h⟩) (fun h=>@rN ⟨E h⟩))) (iK args) h):bV P bG args h R E:=bV.enter mN al aY hlen ab
theorem af.au {bG:FuncId} {fn:Func} {c:Code} (mN:P.funcs[bG]?=some fn) (al:fn.body=some c) (aY:codeOk fn.ntmps c=true) {args:List V} (hlen:args.length≤fn.ntmps)
  {h:I} {R:V→I→Prop} (ab:@lu P fn.ntmps c (.fn (vC P fn (fun r h=>@rN ⟨R r h⟩) fun _=>False)) (iK args) h):af P bG args h R:=bV.enter mN al aY hlen ab
variable {d:Option Tmp} {ty:TypeId} {pos:String} {cp:Array Edge} {ol:List Oper}
def lv (o:Option V) (d:Option Tmp) [K:e7] (f:ak) (h:I):Prop:=match o with | some v=>K.go (f.put d v) h | none=>False
def rR (o:Option (V×I)) (d:Option Tmp) [K:e7] (f:ak):Prop:=match o with | some (v,h)=>K.go (f.put d v) h | none=>False
def thenS (o:Option I) (d:Option Tmp) [K:e7] (f:ak):Prop:=match o with | some h=>K.go (f.put d .top) h | none=>False
theorem ahd {v:V}:@lv (some v) d K f h=@jm K (f.put d v) h:=nr rfl
theorem ahe {v:V} {h':I}:@rR (some (v,h')) d K f=@jm K (f.put d v) h':=nr rfl
theorem ahf {h':I}:@thenS (some h') d K f=@jm K (f.put d .top) h':=nr rfl
theorem ahg {op:Op}:@hJ P ol (⟨d,op,ty,pos,cp,none⟩::l) K f h=@eG P ⟨d,op,ty,pos,cp,none⟩ (.ops P ol l K) f h:=nr rfl
def yX:List Oper→Nat→Option Tmp
 | [],_=>none
 | o::_,0=>o.dst
 | _::r,j+1=>yX r j
theorem Rv:∀ (l:List Oper) (j:Nat),yX l j=(l[j]?).bind (·.dst)
 | [],j=>by simp [yX]
 | o::r,0=>by simp [yX]
 | o::r,j+1=>by simp [yX,Rv r j]
def zx (v:V) (o:Oper) (P:Program) (ol l:List Oper) [K:e7] (f:ak) (h:I):Prop :=
 match v,o.guard with
 | .bool c,some (_,b)=>if c=b then @eG P o (.ops P ol l K) f h else @hJ P ol l K (f.put o.dst (.tuple [])) h
 | .top,_=>False
 | _,_=>@hJ P ol l K (f.put o.dst (.tuple [])) h
theorem ahh {op:Op} {j:Nat} {b:Bool}:@hJ P ol (⟨d,op,ty,pos,cp,some (j,b)⟩::l) K f h =
  (match yX ol j with | some t=>@zx (f t) ⟨d,op,ty,pos,cp,some (j,b)⟩ P ol l K f h | none=>@hJ P ol l K (f.put d (.tuple [])) h):=by
 rw [Rv];show mn P ol (⟨d,op,ty,pos,cp,some (j,b)⟩::l) K.go K.exc f h=_;simp only [mn,hr];cases bE:(ol[j]?).bind (·.dst) with
 | none=>rfl
 | some t=>
  simp only [zx];cases av:f t<;>try rfl
  rename_i c;simp only;by_cases ay:c=b
  ·subst ay;simp only [beq_self_eq_true,if_true];rfl
  ·have:(c==b)=false:=by simp [ay]
   simp only [this,if_neg ay];rfl
theorem ahi {b:Bool} {op:Op} {j:Nat}:@zx (.bool b) ⟨d,op,ty,pos,cp,some (j,b)⟩ P ol l K f h=@eG P ⟨d,op,ty,pos,cp,some (j,b)⟩ (.ops P ol l K) f h:=if_pos rfl
theorem ahj {op:Op} {j:Nat}:@zx (.bool true) ⟨d,op,ty,pos,cp,some (j,false)⟩ P ol l K f h=@hJ P ol l K (f.put d (.tuple [])) h:=nr rfl
theorem ahk {op:Op} {j:Nat}:@zx (.bool false) ⟨d,op,ty,pos,cp,some (j,true)⟩ P ol l K f h=@hJ P ol l K (f.put d (.tuple [])) h:=nr rfl
theorem ahl {op:Op} {j:Nat} {b:Bool} {vs:List V}:@zx (.tuple vs) ⟨d,op,ty,pos,cp,some (j,b)⟩ P ol l K f h=@hJ P ol l K (f.put d (.tuple [])) h:=nr rfl
theorem ahm {o:Oper} {r:List Oper}:yX (o::r) 0=o.dst:=nr rfl
theorem ahn {o:Oper} {r:List Oper} {j:Nat}:yX (o::r) (j+1)=yX r j:=nr rfl
variable {g:Option (Nat×Bool)}
theorem uu {o:Oper} {x:Option V} (he:ej P o (f.eval h) h=gS x h):@eG P o K f h=@lv x o.dst K f h:=by
 unfold eG hV;rw [he];cases x<;>rfl
theorem Dv {o:Oper} {x:Option (V×I)} (he:ej P o (f.eval h) h=fK x):@eG P o K f h=@rR x o.dst K f:=by
 unfold eG hV;rw [he];cases x<;>rfl
theorem Wp {o:Oper} {x:Option I} (he:ej P o (f.eval h) h=rM x):@eG P o K f h=@thenS x o.dst K f:=by
 unfold eG hV;rw [he];cases x<;>rfl
theorem aho {x:Operand}:@eG P ⟨d,.move x,ty,pos,cp,g⟩ K f h=@jm K (f.put d (f.eval h x)) h:=nr rfl
theorem ahp {x:Operand}:@eG P ⟨d,.assign x,ty,pos,cp,g⟩ K f h=@jm K (f.put d (f.eval h x)) h:=nr rfl
def Gn (c a b:V):Option V:=match c with | .bool t=>some (if t then a else b) | _=>none
theorem ahq {c a b:Operand}:@eG P ⟨d,.pick c a b,ty,pos,cp,g⟩ K f h=@lv (Gn (f.eval h c) (f.eval h a) (f.eval h b)) d K f h:=by
 unfold eG hV ej Gn lv;simp only;cases f.eval h c<;>rfl
theorem ahr {a b:V}:Gn (.bool true) a b=some a:=nr rfl
theorem ahs {a b:V}:Gn (.bool false) a b=some b:=nr rfl
theorem aht {e:TypeId}:@eG P ⟨d,.alloc e,ty,pos,cp,g⟩ K f h=@rR (F7 P e h) d K f:=Dv rfl
theorem ahu {e:TypeId} {x:Operand}:@eG P ⟨d,.box e x,ty,pos,cp,g⟩ K f h=@rR (vw e (f.eval h x) h) d K f:=Dv rfl
theorem ahv {t:TypeId} {ps:Array (Nat×Operand)}:@eG P ⟨d,.build t ps,ty,pos,cp,g⟩ K f h=@lv (Dm P t (ps.toList.map fun p=>(p.1,f.eval h p.2))) d K f h:=uu rfl
theorem ahw {t:TypeId} {len:Nat} {ps:Array (Nat×Operand)}:@eG P ⟨d,.buildSlice t len ps,ty,pos,cp,g⟩ K f h=@rR (ie P t len (ps.toList.map fun p=>(p.1,f.eval h p.2)) h) d K f:=Dv rfl
theorem ahx {t:TypeId} {a:Operand}:@eG P ⟨d,.load t a,ty,pos,cp,g⟩ K f h=@lv (xh P t (f.eval h a) h) d K f h:=uu rfl
theorem ahy {t:TypeId} {a x:Operand}:@eG P ⟨d,.store t a x,ty,pos,cp,g⟩ K f h=@thenS (F5 P t (f.eval h a) (f.eval h x) h) d K f:=Wp rfl
def xB (x:V):Option V:=match x with | .ptr i o=>some (.ptr i o) | .at cs=>some (.at cs) | .func (.func bG) xs ys=>some (.func (.func bG) xs ys) | _=>none
theorem ahz {i o:Nat}:xB (.ptr i o)=some (.ptr i o):=nr rfl
theorem ahA {x:Operand}:@eG P ⟨d,.nilCheck x,ty,pos,cp,g⟩ K f h=@lv (xB (f.eval h x)) d K f h:=by
 unfold eG hV ej xB lv;simp only;generalize f.eval h x=y;cases y<;>try rfl
 rename_i fn xs ys;cases fn<;>rfl
theorem ahB {op:BinOp} {t MS:TypeId} {x y:Operand}:@eG P ⟨d,.binOp op t x y MS,ty,pos,cp,g⟩ K f h=@lv (cH P op t x y (f.eval h x) (f.eval h y)) d K f h:=uu rfl
theorem ahC {op:UnOp} {t:TypeId} {x:Operand}:@eG P ⟨d,.unOp op t x,ty,pos,cp,g⟩ K f h=@lv (xp P op (f.eval h x)) d K f h:=uu rfl
def Rw (o:Option V) (b:Option (V×I)) (d:Option Tmp) [K:e7] (f:ak) (h:I):Prop:=match o with | some v=>K.go (f.put d v) h | none=>@rR b d K f
theorem ahD {v:V} {b:Option (V×I)}:@Rw (some v) b d K f h=@jm K (f.put d v) h:=nr rfl
theorem ahE {s t:TypeId} {x:Operand}:@eG P ⟨d,.convert s t x,ty,pos,cp,g⟩ K f h=@Rw (re P s t (f.eval h x) h) (yW P s t (f.eval h x) h) d K f h:=by
 have he:ej P ⟨d,.convert s t x,ty,pos,cp,g⟩ (f.eval h) h=(match re P s t (f.eval h x) h with | some v=>some (.val v h) | none=>fK (yW P s t (f.eval h x) h)):=rfl
 unfold Rw;cases ay:re P s t (f.eval h x) h with
 | some v=>
  rw [ay] at he;exact uu (x:=some v) he
 | none=>
  rw [ay] at he;exact Dv he
theorem ahF {t:TypeId} {r:Option Operand}:@eG P ⟨d,.makeMap t r,ty,pos,cp,g⟩ K f h=@rR (HL P t (r.map (f.eval h)) h) d K f:=Dv rfl
theorem ahG {t:TypeId} {x y:Operand}:@eG P ⟨d,.makeSlice t x y,ty,pos,cp,g⟩ K f h=@rR (yR P t (f.eval h x) (f.eval h y) h) d K f:=Dv rfl
theorem ahH {t:TypeId} {x:Operand} {lo hi mx:Option Operand}:@eG P ⟨d,.slice t x lo hi mx,ty,pos,cp,g⟩ K f h=@lv (nT P t (f.eval h x) (lo.map (f.eval h)) (hi.map (f.eval h)) (mx.map (f.eval h))) d K f h:=uu rfl
theorem ahI {t:TypeId} {x:Operand} {k:Nat}:@eG P ⟨d,.fieldAddr t x k,ty,pos,cp,g⟩ K f h=@lv (Dg P t (f.eval h x) k) d K f h:=uu rfl
theorem ahJ {t:TypeId} {x y:Operand}:@eG P ⟨d,.indexAddr t x y,ty,pos,cp,g⟩ K f h=@lv (hG P t (f.eval h x) (f.eval h y)) d K f h:=uu rfl
theorem ahK {t:TypeId} {x y:Operand}:@eG P ⟨d,.index t x y,ty,pos,cp,g⟩ K f h=@lv (Dp P t (f.eval h x) (f.eval h y)) d K f h:=uu rfl
theorem ahL {t:TypeId} {x y:Operand} {ok:Bool}:@eG P ⟨d,.lookup t x y ok,ty,pos,cp,g⟩ K f h=@lv (nj P t (f.eval h x) (f.eval h y) ok h) d K f h:=uu rfl
theorem ahM {t:TypeId} {m k x:Operand}:@eG P ⟨d,.mapUpdate t m k x,ty,pos,cp,g⟩ K f h=@thenS (vB P t (f.eval h m) (f.eval h k) (f.eval h x) h) d K f:=Wp rfl
theorem ahN {t:TypeId} {x:Operand}:@eG P ⟨d,.range t x,ty,pos,cp,g⟩ K f h=@rR (Gg P t (f.eval h x) h) d K f:=Dv rfl
def MX (l:Option (List (V×I))) (d:Option Tmp) [K:e7] (f:ak):Prop:=match l with | some l=>∀ v h',(v,h') ∈ l→@jm K (f.put d v) h' | none=>False
theorem ahO {it:Operand}:@eG P ⟨d,.next it false,ty,pos,cp,g⟩ K f h=@MX (Ak (f.eval h it) h) d K f:=by
 unfold eG hV ej MX;simp only;cases Ak (f.eval h it) h<;>rfl
theorem ahP {x:Operand}:@eG P ⟨d,.entry x,ty,pos,cp,g⟩ K f h=@lv (Gh (f.eval h x) h) d K f h:=uu rfl
theorem ahQ {x:Operand} {t e:TypeId} {ok:Bool}:@eG P ⟨d,.typeAssert x t e ok,ty,pos,cp,g⟩ K f h=@lv (d6 P (f.eval h x) e ok) d K f h:=uu rfl
def rS (x:V) (k:Nat):Option V:=match x with | .tuple vs=>vs[k]? | _=>none
theorem ahR {v:V} {vs:List V}:rS (.tuple (v::vs)) 0=some v:=nr rfl
theorem ahS {v:V} {vs:List V} {k:Nat}:rS (.tuple (v::vs)) (k+1)=rS (.tuple vs) k:=by simp [rS]
theorem ahT {x:Operand} {k:Nat}:@eG P ⟨d,.extract x k,ty,pos,cp,g⟩ K f h=@lv (rS (f.eval h x) k) d K f h:=by
 unfold eG hV ej rS lv;simp only;cases f.eval h x with
 | tuple vs=>simp only;cases vs[k]?<;>rfl
 | _=>rfl
def Dw (b:Option Bool) (t:TypeId) (x:V):Option V:=match b with | some false=>some (.iface t x) | _=>none
theorem ahU {t:TypeId} {x:V}:Dw (some false) t x=some (.iface t x):=nr rfl
theorem ahV {t:TypeId} {x:Operand}:@eG P ⟨d,.makeInterface t x,ty,pos,cp,g⟩ K f h=@lv (Dw (Gj P t) t (f.eval h x)) d K f h:=by
 unfold eG hV ej Dw lv;simp only;cases Gj P t with
 | none=>rfl
 | some b=>cases b<;>rfl
theorem ahW {fn:Fn} {xs ys:Array Operand}:@eG P ⟨d,.makeFunc fn xs ys,ty,pos,cp,g⟩ K f h=@jm K (f.put d (.func fn (xs.toList.map (f.eval h)) (ys.toList.map (f.eval h)))) h:=nr rfl
def Dx (x:V) [K:e7] (f:ak) (h:I):Prop:=match x with | .iface _ _=>K.exc f h | _=>False
theorem ahX {t:TypeId} {v:V}:@Dx (.iface t v) K f h=K.exc f h:=nr rfl
theorem ahY {x:Operand}:@eG P ⟨d,.panic x,ty,pos,cp,g⟩ K f h=@Dx (f.eval h x) K f h:=by
 unfold eG hV ej Dx;simp only;cases f.eval h x<;>rfl
theorem ahZ {t:TypeId} {x:Operand}:@eG P ⟨d,.call ⟨.builtin .len,#[x],#[t]⟩,ty,pos,cp,g⟩ K f h=@lv (dS P t (f.eval h x) h) d K f h:=by
 unfold eG hV ej kP qj lv;simp only [au9,avw];cases dS P t (f.eval h x) h<;>rfl
theorem ah0 {t tx:TypeId} {x y:Operand}:@eG P ⟨d,.call ⟨.builtin .append,#[x,y],#[t,tx]⟩,ty,pos,cp,g⟩ K f h=@rR (kO P t tx (f.eval h x) (f.eval h y) h) d K f:=by
 unfold eG hV ej kP qj rR;simp only [au9,avw];cases kO P t tx (f.eval h x) (f.eval h y) h<;>rfl
theorem ah1 {t tx:TypeId} {x y:Operand}:@eG P ⟨d,.call ⟨.builtin .copy,#[x,y],#[t,tx]⟩,ty,pos,cp,g⟩ K f h=@rR (vx P t (f.eval h x) (f.eval h y) h) d K f:=by
 unfold eG hV ej kP qj rR;simp only [au9,avw];cases vx P t (f.eval h x) (f.eval h y) h<;>rfl
theorem ah2 {t:TypeId} {x:Operand}:@eG P ⟨d,.call ⟨.builtin .cap,#[x],#[t]⟩,ty,pos,cp,g⟩ K f h=@lv (tD P t (f.eval h x)) d K f h:=by
 unfold eG hV ej kP qj lv;simp only [au9,avw];cases tD P t (f.eval h x)<;>rfl
theorem ah3 {t tx:TypeId} {x y:Operand}:@eG P ⟨d,.call ⟨.builtin .delete,#[x,y],#[t,tx]⟩,ty,pos,cp,g⟩ K f h=@rR ((Gf P t (f.eval h x) (f.eval h y) h).map fun h'=>(.tuple [],h')) d K f:=by
 unfold eG hV ej kP qj rR;simp only [au9,avw];cases Gf P t (f.eval h x) (f.eval h y) h<;>rfl
theorem ah4 {t:TypeId} {x:Operand}:@eG P ⟨d,.call ⟨.builtin .clear,#[x],#[t]⟩,ty,pos,cp,g⟩ K f h=@rR ((Gk P t (f.eval h x) h).map fun h'=>(.tuple [],h')) d K f:=by
 unfold eG hV ej kP qj rR;simp only [au9,avw];cases Gk P t (f.eval h x) h<;>rfl
def tf (P:Program) (bi:Builtin) (ts:Array TypeId) (ty:TypeId) (cs:Array Bool) (x y:V):Option V :=
 match jA [x,y] with
 | some as=>match ey P (builtin bi ts ty cs as.toArray) with
  | some (.value v)=>some (gv v)
  | _=>none
 | none=>none
theorem ah5 {t t2:TypeId} {x y:Operand}:@eG P ⟨d,.call ⟨.builtin .min,#[x,y],#[t,t2]⟩,ty,pos,cp,g⟩ K f h=@lv (tf P .min #[t,t2] ty (xx #[x,y]) (f.eval h x) (f.eval h y)) d K f h :=
 uu (by
  unfold ej kP qj tf gS;simp only [au9,avw];cases jA [f.eval h x,f.eval h y] with
  | none=>rfl
  | some as=>
   simp only;generalize ey P _=r;cases r with
   | none=>rfl
   | some n=>cases n<;>rfl)
theorem ah6 {t t2:TypeId} {x y:Operand}:@eG P ⟨d,.call ⟨.builtin .max,#[x,y],#[t,t2]⟩,ty,pos,cp,g⟩ K f h=@lv (tf P .max #[t,t2] ty (xx #[x,y]) (f.eval h x) (f.eval h y)) d K f h :=
 uu (by
  unfold ej kP qj tf gS;simp only [au9,avw];cases jA [f.eval h x,f.eval h y] with
  | none=>rfl
  | some as=>
   simp only;generalize ey P _=r;cases r with
   | none=>rfl
   | some n=>cases n<;>rfl)
theorem ah7 {ts:Array TypeId} {cs:Array Bool} {k:IntKind} {a b:Int}:tf P .min ts ty cs (.int k a) (.int k b)=some (.int k (min a b)):=by
 have e:(if b<a then b else a)=min a b:=by rw [Int.min_def];split<;>split<;>omega
 rw [←e];rfl
theorem ah8 {ts:Array TypeId} {cs:Array Bool} {k:IntKind} {a b:Int}:tf P .max ts ty cs (.int k a) (.int k b)=some (.int k (max a b)):=by
 have e:(if a<b then b else a)=max a b:=by rw [Int.max_def];split<;>split<;>omega
 rw [←e];rfl
def H3 (P:Program) (bG:FuncId) (args:List V) (h:I) (d:Option Tmp) [K:e7] (f:ak):Prop:=bT P bG=false∧∃ v h',wv P bG args h=some (v,h')∧K.go (f.put d v) h'
def Ap (P:Program) (bG:FuncId) (args:List V) (h:I) (d:Option Tmp) [K:e7] (f:ak):Prop:=(bT P bG=true∧bV P bG args h (fun r h'=>K.go (f.put d r) h') (fun h'=>K.exc f h'))∨@H3 P bG args h d K f
open Classical in
theorem ah9 {bG:FuncId} {args:Array Operand} {ts:Array TypeId}:@eG P ⟨d,.call ⟨.value (.func bG),args,ts⟩,ty,pos,cp,g⟩ K f h=@Ap P bG (args.toList.map (f.eval h)) h d K f:=by
 unfold eG hV ej kP Ap H3;simp only [ak.eval];by_cases ay:bT P bG=true
 ·simp [ay]
 ·cases aP:wv P bG (args.toList.map (f.eval h)) h with
  | none=>simp [ay,aP]
  | some p=>obtain ⟨v,h'⟩:=p;simp [ay,aP];exact ⟨fun U=>⟨v,h',⟨rfl,rfl⟩,U⟩,fun ⟨_,_,⟨aC,bd⟩,U⟩=>by subst aC;subst bd;exact U⟩
def wt (P:Program) (mo:V) (args:List V) (h:I) (d:Option Tmp) [K:e7] (f:ak):Prop:=match mo with | .func (.func bG) xs ys=>@Ap P bG (xs++args++ys) h d K f | .func (.yield l) [] []=>ku P l args h (fun r h'=>K.go (f.put d r) h') | _=>False
theorem aia {t:Tmp} {args:Array Operand} {ts:Array TypeId}:@eG P ⟨d,.call ⟨.value (.tmp t),args,ts⟩,ty,pos,cp,g⟩ K f h=@wt P (f t) (args.toList.map (f.eval h)) h d K f:=by
 unfold eG hV ej kP wt Ap H3;simp only [ak.eval];generalize f t=v;cases v<;>try rfl
 rename_i fn xs ys;cases fn<;>try rfl
 case yield l=>cases xs<;>cases ys<;>rfl
 rename_i bG;simp only;by_cases ay:bT P bG=true
 ·simp [ay]
 ·cases aP:wv P bG (xs++args.toList.map (f.eval h)++ys) h with
  | none=>simp at aP;simp [ay,aP]
  | some p=>obtain ⟨v,h'⟩:=p;simp at aP;simp [ay,aP];exact ⟨fun U=>⟨v,h',⟨rfl,rfl⟩,U⟩,fun ⟨_,_,⟨aC,bd⟩,U⟩=>by subst aC;subst bd;exact U⟩
theorem aib {bG:FuncId} {xs ys args:List V}:@wt P (.func (.func bG) xs ys) args h d K f=@Ap P bG (xs++args++ys) h d K f:=nr rfl
theorem aic {l:Nat} {args:List V} {R:V→I→Prop} (aa:ku P l args h R) (hk:∀ r h',R r h'→@jm K (f.put d r) h'):@wt P (.func (.yield l) [] []) args h d K f:=aa.mono hk
theorem cB {bG:FuncId} {args:List V} {R:V→I→Prop} (ay:bT P bG=true) (aa:af P bG args h R) (hk:∀ r h',R r h'→@jm K (f.put d r) h'):@Ap P bG args h d K f :=
 .inl ⟨ay,aa.e.mono hk fun _ h=>h⟩
theorem yY {bG:FuncId} {args:List V} {R:V→I→Prop} {E:I→Prop} (ay:bT P bG=true) (aa:bV P bG args h R E) (hk:∀ r h',R r h'→@jm K (f.put d r) h') (he:∀ h',E h'→e7.exc K f h'):@Ap P bG args h d K f :=
 .inl ⟨ay,aa.mono hk he⟩
theorem bW {bG:FuncId} {args:List V} {v:V} (ay:bT P bG=true) (aa:Pure P bG args h v) (hk:@jm K (f.put d v) h):@Ap P bG args h d K f :=
 cB ay aa fun r h' ⟨aC,bd⟩=>by subst aC;subst bd;exact hk
theorem aid {bG:FuncId} {args:List V} {v:V} (ay:bT P bG=false) (aN:xv P bG) (aP:xw h args=some v) (hk:@jm K (f.put d v) h):@Ap P bG args h d K f:=.inr ⟨ay,v,h,agu aN aP,hk⟩
theorem aie {t:Tmp} {v:V} {k:Nat}:ak.put f (some t) v k=if k=t then v else f k:=nr rfl
theorem aif {v:V} {k:Nat}:ak.put f none v k=f k:=nr rfl
theorem aih {t:Tmp}:ak.eval f h (.tmp t)=f t:=nr rfl
theorem eval_const {v:Value}:ak.eval f h (.const v)=fg v:=nr rfl
theorem eval_func {k:FuncId}:ak.eval f h (.func k)=.func (.func k) [] []:=nr rfl
theorem H4 {k:Nat} {cs:List V} (az:h.glob k=some cs):ak.eval f h (.global k)=.at cs:=by simp [ak.eval,az]
theorem aii {a:V} {l:List V}:iK (a::l) 0=a:=nr rfl
theorem aij {a:V} {l:List V} {n:Nat}:iK (a::l) (n+1)=iK l n:=nr rfl
end
theorem aik {k:IntKind} {n:Int}:fg (.int k n)=.int k n:=nr rfl
theorem ail {b:Bool}:fg (.bool b)=.bool b:=nr rfl
theorem aim {s:ByteArray}:fg (.string s)=.string s:=nr rfl
theorem ain:fg (.pointer none)=.c8:=nr rfl
theorem aio:fg (.slice none 0 0)=.ag:=nr rfl
theorem aip:fg (.map none)=.ff:=nr rfl
theorem aiq:fg .nilFunc=.nilFunc:=nr rfl
theorem air:fg .nilIface=.nilIface:=nr rfl
section
variable {P:Program} {fn:Func} {R:V→I→Prop} {E:I→Prop} {f:ak} {h:I}
theorem aS:vC P fn R E .ret f h=(match qn P fn.results.toList f h with | some r=>R r h | none=>False):=nr rfl
theorem kQ:vC P fn R E .normal f h=(match qn P fn.results.toList f h with | some r=>R r h | none=>False):=nr rfl
theorem yZ:vC P fn R E .panic f h=E h:=nr rfl
theorem ac {t:Tmp}:qn P [.tmp t] f h=some (f t):=nr rfl
theorem hK:qn P [] f h=some (.tuple []):=nr rfl
theorem c9 {t u:Tmp}:qn P [.tmp t,.tmp u] f h=some (.tuple [f t,f u]):=nr rfl
theorem Aq {t u v:Tmp}:qn P [.tmp t,.tmp u,.tmp v] f h=some (.tuple [f t,f u,f v]):=nr rfl
end
theorem Dy {P:Program} {t:TypeId} {d:TypeDesc} (h:P.underlying t=some d):ey P (underlying t)=some d:=by
 unfold underlying program;rw [ni];simp only [ey,avQ,h];rfl
section
variable {P:Program} {t:TypeId} {xo yo:Operand} {k MY:IntKind} {a b:Int}
theorem MZ {op:BinOp} {x y:V} {a b v:Value} (aj:pk x=some a) (bp:pk y=some b) (az:eqGuard op t xo yo a b=pure ()) (h:ey P (binOp op t a b)=some v):cH P op t xo yo x y=some (gv v):=by
 unfold cH;simp only [aj,bp];have e:(do eqGuard op t xo yo a b;binOp op t a b)=binOp op t a b:=by rw [az];rfl
 rw [e,h];rfl
theorem ce {op:BinOp} {v:Value} (h:ey P (binOp op t (.int k a) (.int MY b))=some v):cH P op t xo yo (.int k a) (.int MY b)=some (gv v):=MZ rfl rfl (by cases op<;>rfl) h
theorem ais:cH P .add t xo yo (.int k a) (.int k b)=some (.int k (k.wrap (a+b))):=ce (v:=.int k (k.wrap (a+b))) (by simp [binOp,Op.intArith];rfl)
theorem ait:cH P .sub t xo yo (.int k a) (.int k b)=some (.int k (k.wrap (a - b))):=ce (v:=.int k (k.wrap (a - b))) (by simp [binOp,Op.intArith];rfl)
theorem aiu:cH P .mul t xo yo (.int k a) (.int k b)=some (.int k (k.wrap (a * b))):=ce (v:=.int k (k.wrap (a * b))) (by simp [binOp,Op.intArith];rfl)
theorem aiv:cH P .eql t xo yo (.int k a) (.int k b)=some (.bool (a==b)):=ce (v:=.bool (a==b)) (by simp [binOp,Op.intCmp];rfl)
theorem aiw:cH P .neq t xo yo (.int k a) (.int k b)=some (.bool (a !=b)):=ce (v:=.bool (a !=b)) (by simp [binOp,Op.intCmp];rfl)
theorem aix:cH P .lss t xo yo (.int k a) (.int k b)=some (.bool (decide (a<b))):=ce (v:=.bool (decide (a<b))) (by simp [binOp,Op.intCmp];rfl)
theorem aiy:cH P .leq t xo yo (.int k a) (.int k b)=some (.bool (decide (a≤b))):=ce (v:=.bool (decide (a≤b))) (by simp [binOp,Op.intCmp];rfl)
theorem aiz:cH P .gtr t xo yo (.int k a) (.int k b)=some (.bool (decide (b<a))):=ce (v:=.bool (decide (b<a))) (by simp [binOp,Op.intCmp];rfl)
theorem aiA:cH P .geq t xo yo (.int k a) (.int k b)=some (.bool (decide (b≤a))):=ce (v:=.bool (decide (b≤a))) (by simp [binOp,Op.intCmp];rfl)
theorem BG (al:0≤b):cH P .shl t xo yo (.int k a) (.int MY b)=some (.int k (k.wrap (a * 2 ^ (min b.toNat k.bits)))) :=
 ce (v:=.int k (k.wrap (a * 2 ^ (min b.toNat k.bits)))) (by simp only [binOp,Op.shift,if_neg (show ¬b<0 by omega)];rfl)
theorem M0 (al:0≤b):cH P .shr t xo yo (.int k a) (.int MY b)=some (.int k (a.fdiv (2 ^ (min b.toNat k.bits)))) :=
 ce (v:=.int k (a.fdiv (2 ^ (min b.toNat k.bits)))) (by simp only [binOp,Op.shift,if_neg (show ¬b<0 by omega)];rfl)
theorem Wq (al:b≠0):cH P .quo t xo yo (.int k a) (.int k b)=some (.int k (k.wrap (a.tdiv b))) :=
 ce (v:=.int k (k.wrap (a.tdiv b))) (by simp only [binOp,Op.intDiv,ne_eq,not_true,if_false,if_neg al];rfl)
theorem BH (al:b≠0):cH P .rem t xo yo (.int k a) (.int k b)=some (.int k (a.tmod b)) :=
 ce (v:=.int k (a.tmod b)) (by simp only [binOp,Op.intDiv,ne_eq,not_true,if_false,if_neg al];rfl)
def Ar (k:IntKind) (a b:Int):Int:=k.wrap ((BitVec.ofInt k.bits a &&& BitVec.ofInt k.bits b).toNat:Int)
def uv (k:IntKind) (a b:Int):Int:=k.wrap ((BitVec.ofInt k.bits a ||| BitVec.ofInt k.bits b).toNat:Int)
def rT (k:IntKind) (a b:Int):Int:=k.wrap ((BitVec.ofInt k.bits a ^^^ BitVec.ofInt k.bits b).toNat:Int)
def Gp (k:IntKind) (a b:Int):Int:=k.wrap ((BitVec.ofInt k.bits a &&& ~~~(BitVec.ofInt k.bits b)).toNat:Int)
theorem aiB:cH P .and t xo yo (.int k a) (.int k b)=some (.int k (Ar k a b)):=ce (v:=.int k (Ar k a b)) (by simp only [binOp,ne_eq,not_true,if_false];rfl)
theorem aiC:cH P .or t xo yo (.int k a) (.int k b)=some (.int k (uv k a b)):=ce (v:=.int k (uv k a b)) (by simp only [binOp,ne_eq,not_true,if_false];rfl)
theorem aiD:cH P .xor t xo yo (.int k a) (.int k b)=some (.int k (rT k a b)):=ce (v:=.int k (rT k a b)) (by simp only [binOp,ne_eq,not_true,if_false];rfl)
theorem aiE:cH P .andNot t xo yo (.int k a) (.int k b)=some (.int k (Gp k a b)):=ce (v:=.int k (Gp k a b)) (by simp only [binOp,ne_eq,not_true,if_false];rfl)
theorem aiF {b:Bool}:xp P .not (.bool b)=some (.bool (!b)):=nr rfl
theorem aiG:xp P .neg (.int k a)=some (.int k (k.wrap (0 - a))):=nr rfl
def nn (P:Program) (t:TypeId):Option IntKind:=match P.underlying t with | some (.int k)=>some k | _=>none
theorem mq {src dst:TypeId} {h:I} {bJ ba:IntKind} (aa:nn P src=some bJ) (bf:nn P dst=some ba):re P src dst (.int k a) h=some (.int ba (ba.wrap a)):=by
 have h1:P.underlying src=some (.int bJ):=by
  unfold nn at aa;split at aa
  ·rename_i hu;simp at aa;subst aa;exact hu
  ·cases aa
 have ad:P.underlying dst=some (.int ba):=by
  unfold nn at bf;split at bf
  ·rename_i hu;simp at bf;subst bf;exact hu
  ·cases bf
 unfold re;have e:(nS (.int k a)).bind (fun x=>ey P (convert src dst x))=some (.int ba (ba.wrap a)):=by
  show ey P (convert src dst (.int k a))=_;unfold convert;rw [ni,Dy h1,avQ,ni,Dy ad];rfl
 rw [e];rfl
def H5 (P:Program) (t:TypeId):Bool:=match P.underlying t with | some .bool=>true | _=>false
theorem aiH {t:TypeId} (h:H5 P t=true):P.underlying t=some .bool:=by
 unfold H5 at h;split at h
 ·assumption
 ·cases h
theorem aiI {t:TypeId} (hu:H5 P t=true) (x y:Bool):ey P (Op.equal t (.bool x) (.bool y))=some (x==y):=by
 unfold Op.equal Op.maxDepth Op.equalIn;rw [ni,Dy (aiH hu)];rfl
theorem aiJ {x y:Bool} (hu:H5 P t=true):cH P .eql t xo yo (.bool x) (.bool y)=some (.bool (x==y)):=by
 refine MZ (v:=.bool (x==y)) rfl rfl rfl ?_;show ey P (do pure (Value.bool (←Op.equal t (.bool x) (.bool y))))=_;rw [ni,aiI hu];rfl
end
def ef (P:Program) (t:TypeId):Option Nat:=(P.underlying t).bind vy
section
variable {P:Program} {t:TypeId} {xo yo:Operand} {x y:V} {k:Nat}
theorem BI (h:ef P t=some k):∃ d,P.underlying t=some d∧vy d=some k:=by
 unfold ef at h;cases hu:P.underlying t with
 | none=>simp [hu] at h
 | some d=>simp [hu] at h;exact ⟨d,rfl,h⟩
theorem H6 (h:ef P t=some k) (aU:pk x=none∨pk y=none) (aG:(Gb x=some k∧Dk y=some k)∨(Dk x=some k∧Gb y=some k)):cH P .eql t xo yo x y=some (.bool false):=by
 obtain ⟨d,hu,bf⟩:=BI h;have aP:Gc d x y=true:=by
  unfold Gc;rw [bf];rcases aG with ⟨h1,ad⟩ | ⟨h1,ad⟩<;>simp [h1,ad]
 unfold cH;split
 ·rename_i h1 ad;rw [h1,ad] at aU;simp at aU
 ·rw [hu];simp only [aP,if_true]
theorem Wr {i o:Nat} (h:ef P t=some 0):cH P .eql t xo yo (.ptr i o) .c8=some (.bool false):=H6 h (.inl rfl) (.inr ⟨rfl,rfl⟩)
theorem aiK (h:ef P t=some 0):ey P (Op.equal t (.pointer none) (.pointer none))=some true:=by
 obtain ⟨d,hu,bf⟩:=BI h;unfold Op.equal Op.maxDepth Op.equalIn;rw [ni,Dy hu];cases d<;>simp [vy] at bf;rfl
theorem Ws (h:ef P t=some 0):cH P .eql t xo yo .c8 .c8=some (.bool true):=by
 refine MZ (v:=.bool true) rfl rfl rfl ?_;show ey P (do pure (Value.bool (←Op.equal t (.pointer none) (.pointer none))))=_;rw [ni,aiK h];rfl
end
theorem aiL {k:IntKind} {n:Int}:(V.int k n).cells=some [.int k n]:=nr rfl
theorem aiM {b:Bool}:(V.bool b).cells=some [.bool b]:=nr rfl
theorem aiN:V.ag.cells=some [.ag]:=nr rfl
theorem aiO {i o:Nat}:(V.ptr i o).cells=some [.ptr i o]:=nr rfl
theorem aiP {i o n m:Nat}:(V.bj i o n m).cells=some [.bj i o n m]:=nr rfl
theorem aiQ {n:Nat} {cs:List V}:(V.ah n cs).cells=some [.ah n cs]:=nr rfl
theorem aiR {i:Nat}:(V.map i).cells=some [.map i]:=nr rfl
theorem AC {t:TypeId} {v:V}:(V.iface t v).cells=some [.iface t v]:=nr rfl
theorem aiS {cs:List V}:(V.agg cs).cells=some cs:=nr rfl
theorem M1 {k:IntKind} {n:Int}:(V.int k n).one=true:=nr rfl
theorem aiT {b:Bool}:(V.bool b).one=true:=nr rfl
theorem aiU:V.ag.one=true:=nr rfl
theorem aiV {i o n m:Nat}:(V.bj i o n m).one=true:=nr rfl
theorem aiW {n:Nat} {cs:List V}:(V.ah n cs).one=true:=nr rfl
theorem aiX {i:Nat}:(V.map i).one=true:=nr rfl
theorem all_nil:([]:List V).all (·.one)=true:=nr rfl
theorem all_cons {v:V} {l:List V}:(v::l).all (·.one)=(v.one&&l.all (·.one)):=nr rfl
section
variable {P:Program} {t tx e:TypeId} {x y v:V} {h:I} {k:Nat}
def df (P:Program) (s:TypeId) (k:Nat):Option Nat :=
 match P.underlying s with
 | some (.struct eb)=>match eb[k]? with
  | some f=>match cC P f.type with
   | some (_+1)=>some f.offset
   | _=>none
  | none=>none
 | _=>none
def Gq (off:Option Nat) (x:V):Option V :=
 match off,x with
 | some off,.ptr i o=>some (.ptr i (o+off))
 | some off,.at cs=>if off≤cs.length then some (.at (cs.drop off)) else none
 | _,_=>none
theorem aiY:Dg P t x k=Gq (df P t k) x:=by
 unfold Dg df;cases P.underlying t with
 | none=>rfl
 | some d=>
  cases d<;>try rfl
  rename_i eb;simp only;cases eb[k]? with
  | none=>rfl
  | some f=>
   simp only;cases cC P f.type with
   | none=>rfl
   | some n=>cases n<;>simp only [Gq]<;>cases x<;>rfl
theorem aiZ {i o off:Nat}:Gq (some off) (.ptr i o)=some (.ptr i (o+off)):=nr rfl
theorem ai0 {cs:List V} {off:Nat}:Gq (some off) (.at cs)=if off≤cs.length then some (.at (cs.drop off)) else none:=nr rfl
def loadT (P:Program) (t:TypeId):Option (Option Nat) :=
 match mj P t,cC P t with
 | some true,some n=>some (some n)
 | some false,some _=>some none
 | _,_=>none
def cO (ty:Option (Option Nat)) (p:Option (List V)):Option V :=
 match ty,p with
 | some (some n),some cs=>if n≤cs.length then some (.agg (cs.take n)) else none
 | some none,some (v::_)=>some v
 | _,_=>none
theorem Wt:xh P t x h=cO (loadT P t) (rb h x):=by
 unfold xh loadT;cases rb h x with
 | none=>cases mj P t with
  | none=>rfl
  | some b=>cases b<;>cases cC P t<;>rfl
 | some cs=>cases mj P t with
  | none=>cases cs<;>rfl
  | some b=>cases b<;>cases cC P t<;>cases cs<;>rfl
theorem ai1 {v:V} {r:List V}:cO (some none) (some (v::r))=some v:=nr rfl
theorem Wu {n:Nat} {cs:List V}:cO (some (some n)) (some cs)=if n≤cs.length then some (.agg (cs.take n)) else none:=nr rfl
def cP (o:aO) (n:Nat):Option (List V):=match o with | .cells c _ _=>if n≤c.length then some (c.drop n) else none | _=>none
theorem ai2 {i o:Nat}:rb h (.ptr i o)=cP (h.get i) o:=by
 simp only [rb,cP];cases h.get i<;>rfl
theorem ai3 {cs:List V}:rb h (.at cs)=some cs:=nr rfl
theorem H7 {c:List V} {e:TypeId} {ex:Option Nat} {n:Nat}:cP (.cells c e ex) n=if n≤c.length then some (c.drop n) else none:=nr rfl
def bF (n:Option Nat) (ob:aO) (o:Nat) (vs:List V):Option aO :=
 match n,ob with
 | some n,.cells c e ex=>if vs.length=n∧vs.all (·.one)=true∧o+n≤c.length then some (.cells (lay c o vs) e ex) else none
 | _,_=>none
def Rx (n:Option Nat) (x:V) (vs:Option (List V)) (h:I):Option I :=
 match x,vs with
 | .ptr i o,some vs=>(bF n (h.get i) o vs).map fun ob=>h.set i ob
 | _,_=>none
theorem ai4:F5 P t x v h=Rx (cC P t) x v.cells h:=by
 unfold F5 Rx;cases x<;>try rfl
 rename_i i o;cases v.cells with
 | none=>rfl
 | some vs=>
  simp only [bF];cases h.get i<;>cases cC P t<;>simp;rename_i c e ex n;by_cases U:vs.length=n
  ·subst U;split<;>rfl
  ·simp [U]
theorem ai5 {i o:Nat} {n:Option Nat} {vs:List V}:Rx n (.ptr i o) (some vs) h=(bF n (h.get i) o vs).map fun ob=>h.set i ob:=nr rfl
theorem ai6 (c:List V) (o:Nat) (v:V) (aN:o<c.length):lay c o [v]=c.set o v:=by
 unfold lay;rw [ayn,if_pos aN];simp
theorem ai7 (v:V) (vs c:List V) (o:Nat) (aw:o+(vs.length+1)≤c.length):lay c o (v::vs)=lay (c.set o v) (o+1) vs:=by
 have aN:o<c.length:=by omega
 have ay:c.set o v=c.take o++v::c.drop (o+1):=by rw [ayn,if_pos aN]
 have hlen:(c.take o).length=o:=by simp;omega
 unfold lay;rw [ay];have aC:(c.take o++v::c.drop (o+1)).take (o+1)=c.take o++[v]:=by
  rw [List.take_append,hlen,are (by omega),show o+1 - o=1 by omega]
  rfl
 have bd:(c.take o++v::c.drop (o+1)).drop (o+1+vs.length)=c.drop (o+(vs.length+1)):=by
  rw [List.drop_append,hlen,List.drop_eq_nil_of_le (by omega),show o+1+vs.length - o=vs.length+1 by omega]
  rw [List.drop_succ_cons,List.drop_drop,List.nil_append]
  congr 1
  omega
 rw [aC,bd];simp
theorem Ry:∀ (vs c:List V) (o:Nat),o+vs.length≤c.length→lay c o vs=rG c o vs
 | [],c,o,_=>by simp [lay,rG]
 | v::vs,c,o,aw=>by
  have fX:o+(vs.length+1)≤c.length:=by simpa using aw
  unfold rG;rw [ai7 v vs c o fX,Ry vs (c.set o v) (o+1) (by simp;omega)]
theorem rU {c:List V} {e:TypeId} {ex:Option Nat} {o:Nat} (aH:v.one=true):bF (some 1) (.cells c e ex) o [v]=if o<c.length then some (.cells (c.set o v) e ex) else none:=by
 simp only [bF,ave,avi,all_cons,all_nil,aH,Bool.and_self,true_and];by_cases aN:o<c.length
 ·have:(0+1=1∧o+1≤c.length):=⟨rfl,aN⟩;rw [if_pos aN];simp [this.2,ai6 _ _ _ aN]
 ·rw [if_neg aN];simp;omega
theorem sR {c vs:List V} {e:TypeId} {ex:Option Nat} {o n:Nat} (aG:vs.length=n) (aH:vs.all (·.one)=true):bF (some n) (.cells c e ex) o vs=if o+n≤c.length then some (.cells (rG c o vs) e ex) else none:=by
 simp only [bF,aG,aH,true_and];by_cases aN:o+n≤c.length
 ·rw [if_pos aN,if_pos aN,Ry _ _ _ (by omega)]
 ·rw [if_neg aN,if_neg aN]
theorem ai8 {c:List V} {o:Nat}:rG c o []=c:=nr rfl
theorem ai9 {c r:List V} {o:Nat}:rG c o (v::r)=rG (c.set o v) (o+1) r:=nr rfl
theorem aja:F7 P e h=(gR P e).map fun zs=>(.ptr h.n 0,h.push (.cells zs e none)):=by
 unfold F7;cases gR P e<;>rfl
theorem ajb:vw e x h=x.cells.map fun cs=>(.ptr h.n 0,h.push (.cells cs e none)):=by
 unfold vw;cases x.cells<;>rfl
def dF (P:Program) (t:TypeId):Option Nat:=match P.underlying t with | some (.slice e)=>cC P e | _=>none
def tF (P:Program) (t:TypeId):Option (Nat×Nat):=match P.underlying t with | some (.array n e)=>(cC P e).map fun s=>(n,s) | _=>none
def qo (bj:Option Nat) (H8:Option (Nat×Nat)) (x:V) (n:Int):Option V :=
 match bj,H8,x with
 | some sz,_,.bj i o len _=>if 0≤n∧n<len then some (.ptr i (o+n.toNat * sz)) else none
 | some sz,_,.ah len cs=>if 0≤n∧n<len∧n.toNat * sz≤cs.length then some (.at (cs.drop (n.toNat * sz))) else none
 | _,some (len,sz),.ptr i o=>if 0≤n∧n<len then some (.ptr i (o+n.toNat * sz)) else none
 | _,some (len,sz),.at cs=>if 0≤n∧n<len∧n.toNat * sz≤cs.length then some (.at (cs.drop (n.toNat * sz))) else none
 | _,_,_=>none
theorem Gr {kk:IntKind} {n:Int}:hG P t x (.int kk n)=qo (dF P t) (tF P t) x n:=by
 unfold hG dF tF;cases P.underlying t with
 | none=>rfl
 | some d=>
  cases d<;>try rfl
  ·rename_i e;simp only;cases aa:cC P e with
   | none=>cases x<;>simp [qo,aa]
   | some sz=>cases x<;>simp [qo,aa]
  ·rename_i len e;simp only;cases aa:cC P e with
   | none=>cases x<;>simp [qo,aa]
   | some sz=>cases x<;>simp [qo,aa]
theorem Rz {i o len cap sz:Nat} {H8:Option (Nat×Nat)} {n:Int}:qo (some sz) H8 (.bj i o len cap) n=if 0≤n∧n<len then some (.ptr i (o+n.toNat * sz)) else none:=nr rfl
theorem y4 {len sz:Nat} {cs:List V} {H8:Option (Nat×Nat)} {n:Int}:qo (some sz) H8 (.ah len cs) n=if 0≤n∧n<len∧n.toNat * sz≤cs.length then some (.at (cs.drop (n.toNat * sz))) else none:=nr rfl
theorem ajc {len sz:Nat} {cs:List V} {n:Int}:qo none (some (len,sz)) (.at cs) n=if 0≤n∧n<len∧n.toNat * sz≤cs.length then some (.at (cs.drop (n.toNat * sz))) else none:=nr rfl
def Wv (kind:Option Nat) (x:V) (h:I):Option V :=
 match kind,x with
 | some 1,.bj _ _ n _=>some (.int .i64 n)
 | some 1,.ah n _=>some (.int .i64 n)
 | some 1,.ag=>some (.int .i64 0)
 | some 1,.z0=>some (.int .i64 0)
 | some 2,.ff=>some (.int .i64 0)
 | some 2,.map i=>match h.get i with
  | .map es _=>some (.int .i64 es.length)
  | _=>none
 | _,_=>none
theorem H9 {kind:Nat} (hk:ef P t=some kind) (zy:kind=1∨kind=2):dS P t x h=Wv (some kind) x h:=by
 obtain ⟨d,hu,bf⟩:=BI hk;unfold dS;rw [hu];cases d<;>simp [vy] at bf<;>subst bf<;>simp at zy
 all_goals cases x<;>try rfl
theorem y0 (hk:ef P t=some 1) {i o n c:Nat}:dS P t (.bj i o n c) h=some (.int .i64 n):=H9 hk (.inl rfl)
theorem Ww (hk:ef P t=some 1) {n:Nat} {cs:List V}:dS P t (.ah n cs) h=some (.int .i64 n):=H9 hk (.inl rfl)
theorem xC (hk:ef P t=some 1):dS P t .ag h=some (.int .i64 0):=H9 hk (.inl rfl)
theorem y1 (hk:ef P t=some 1):dS P t .z0 h=some (.int .i64 0):=H9 hk (.inl rfl)
theorem ajd (hk:ef P t=some 2) {i:Nat} {es:List (Nat×V×V)} {c:Nat} (az:h.get i=.map es c):dS P t (.map i) h=some (.int .i64 es.length):=by
 rw [H9 hk (.inr rfl)];simp [Wv,az]
structure kx where
 e:TypeId
 zs:List V
 sz:Nat
 ao:Nat
def fL (P:Program) (t:TypeId):Option kx :=
 match jp P t with
 | none=>none
 | some e=>match gR P e,cC P e,F3 P e with
  | some zs,some sz,some ao=>if zs.length=sz then some ⟨e,zs,sz,ao⟩ else none
  | _,_,_=>none
theorem uw {T:kx} (cd:fL P t=some T):jp P t=some T.e∧gR P T.e=some T.zs∧cC P T.e=some T.sz∧F3 P T.e=some T.ao∧T.zs.length=T.sz∧P.underlying t=some (.slice T.e):=by
 unfold fL at cd;split at cd
 ·cases cd
 ·rename_i e he;split at cd
  ·rename_i zs sz ao h1 ad aD;split at cd
   ·rename_i aw;simp at cd;subst cd;refine ⟨he,h1,ad,aD,aw,?_⟩;unfold jp at he;split at he
    ·rename_i hu;rw [hu];simpa using he
    ·cases he
   ·cases cd
  ·cases cd
end
structure J (h h':I) (own:Nat→Prop):Prop where
 n:h.n≤h'.n
 get:∀ j,j<h.n→¬own j→h'.get j=h.get j
 glob:h'.glob=h.glob
def none_:Nat→Prop:=fun _=>False
theorem J.refl (h:I) (own:Nat→Prop):J h h own:=⟨BY _,fun _ _ _=>rfl,rfl⟩
theorem J.trans {h h1 ad:I} {o gT:Nat→Prop} (a:J h h1 o) (b:J h1 ad gT) (aN:∀ k,k<h.n→gT k→o k):J h ad o :=
 ⟨OF a.n b.n,fun j aV bI=>(b.get j (MC aV a.n) fun ay=>bI (aN j aV ay)).trans (a.get j aV bI),b.glob.trans a.glob⟩
theorem J.trans' {h h1 ad:I} {o:Nat→Prop} (a:J h h1 o) (b:J h1 ad o):J h ad o:=a.trans b fun _ _ h=>h
theorem J.mono {h h':I} {o o':Nat→Prop} (a:J h h' o) (hm:∀ k,o k→o' k):J h h' o':=⟨a.n,fun j aV bI=>a.get j aV fun ay=>bI (hm j ay),a.glob⟩
theorem J.up {h h':I} {o:Nat→Prop} (a:J h h' none_):J h h' o:=a.mono fun _ h=>h.elim
theorem J.push (h:I) (o:aO) (own:Nat→Prop):J h (h.push o) own:=⟨by simp [I.push],fun j aV _=>by simp [I.push,show j≠h.n by omega],rfl⟩
theorem J.set (h:I) (i:Nat) (o:aO):J h (h.set i o) (·=i):=⟨BY _,fun j aV bI=>by simp [I.set];intro U;exact absurd U bI,rfl⟩
theorem J.mO {aK h:I} {own:Nat→Prop} (k:J aK h own) {i:Nat} (hi:aK.n≤i) (o:aO):J aK (h.set i o) own :=
 k.trans (J.set h i o) fun j aV ay=>by omega
theorem J.bH {aK h:I} {own:Nat→Prop} (k:J aK h own) (o:aO):J aK (h.push o) own:=k.trans' (J.push h o own)
def a8:V→Option Nat
 | .bj i _ _ _=>some i
 | _=>none
def a6 (v:V):Nat→Prop:=fun k=>a8 v=some k
def Own (h:I) (e:TypeId) (sz:Nat) (v:V) (cs:List V):Prop :=
 ((v=.ag∨v=.z0)∧cs=[]) ∨
 ∃ i len cap c ex,v=.bj i 0 len cap∧i<h.n∧h.get i=.cells c e ex∧cs.length=len * sz∧c.take (len * sz)=cs ∧
  ((cap<cj∧cap * sz≤c.length∧len≤cap)∨(cap=cj∧ex=some sz))
theorem Own.ag (h:I) (e:TypeId) (sz:Nat):Own h e sz .ag []:=.inl ⟨.inl rfl,rfl⟩
theorem Own.z0 (h:I) (e:TypeId) (sz:Nat):Own h e sz .z0 []:=.inl ⟨.inr rfl,rfl⟩
theorem Own.ai {h h':I} {e:TypeId} {sz:Nat} {v:V} {cs:List V} {own:Nat→Prop} (aN:Own h e sz v cs) (hk:J h h' own) (bI:∀ k,a8 v=some k→¬own k):Own h' e sz v cs:=by
 rcases aN with aN | ⟨i,len,cap,c,ex,rfl,hi,az,rest⟩
 ·exact .inl aN
 ·exact .inr ⟨i,len,cap,c,ex,rfl,MC hi hk.n,(hk.get i hi (bI i rfl)).trans az,rest⟩
theorem Own.br {h h':I} {e:TypeId} {sz:Nat} {v:V} {cs:List V} (aN:Own h e sz v cs) (hk:J h h' none_):Own h' e sz v cs:=aN.ai hk fun _ _ h=>h
theorem Own.lt {h:I} {e:TypeId} {sz:Nat} {v:V} {cs:List V} (aN:Own h e sz v cs):∀ k,a8 v=some k→k<h.n:=by
 intro k hk;rcases aN with ⟨rfl | rfl,_⟩ | ⟨i,len,cap,c,ex,rfl,hi,_⟩
 ·simp [a8] at hk
 ·simp [a8] at hk
 ·simp [a8] at hk;omega
theorem Own.fresh {h:I} {e:TypeId} {sz:Nat} (c:List V) (len cap:Nat) (ay:c.length=cap * sz) (aw:len≤cap) (hu:cap<cj) :
  Own (h.push (.cells c e none)) e sz (.bj h.n 0 len cap) (c.take (len * sz)) :=
 .inr ⟨h.n,len,cap,c,none,rfl,by simp [I.push],by simp [I.push],by rw [VV,ay];exact Nat.min_eq_left (avo _ aw),rfl,.inl ⟨hu,by omega,aw⟩⟩
theorem Own.grown {h:I} {e:TypeId} {sz i len:Nat} {cs:List V} (hi:i<h.n) (az:h.get i=.cells cs e (some sz)) (aw:cs.length=len * sz) :
  Own h e sz (.bj i 0 len cj) cs :=
 .inr ⟨i,len,cj,cs,some sz,rfl,hi,az,aw,by rw [←aw];exact List.take_length,.inr ⟨rfl,rfl⟩⟩
def dm (h:I) (a b:V):Prop:=a8 b=a8 a∨∀ k,a8 b=some k→h.n≤k
theorem Wx {P:Program} {t tx:TypeId} {T:kx} (cd:fL P t=some T) (dg:0<T.sz)
  {h:I} {s x:V} {cs:List V} (aN:Own h T.e T.sz s cs) {n:Nat} {news:List V} (dR:fI P T.sz tx x h=some (n,news)) (aG:news.length=n * T.sz)
  (h1:(cs.length+news.length) * T.ao≤lim) (ad:cs.length+news.length≤lim) :
  ∃ v h',kO P t tx s x h=some (v,h')∧Own h' T.e T.sz v (cs++news)∧J h h' (a6 s)∧dm h s v:=by
 obtain ⟨he,bR,bo,jC,fb,_⟩:=uw cd;unfold kO;simp only [he,bR,bo,jC,fb,if_true,dR];have start:∀ s:V,(s=.ag∨s=.z0)→cs=[]→∃ v h',(if n=0 then some (s,h) else if n * T.ao≤lim∧n≤lim then some (.bj h.n 0 n cj,h.push (.cells news T.e (some T.sz))) else none)=some (v,h')∧Own h' T.e T.sz v (cs++news)∧J h h' (a6 s)∧dm h s v:=fun s aa dX=>by
  subst dX;by_cases aK:n=0
  ·subst aK;have:news=[]:=avA (by simpa using aG)
   subst this;exact ⟨s,h,by simp,.inl ⟨aa,rfl⟩,J.refl _ _,.inl rfl⟩
  ·have wA:n≤news.length:=by rw [aG];exact aAz n dg
   have bb:n * T.ao≤lim:=OF (avo T.ao (by omega)) h1
   have bt:n≤lim:=by omega
   exact ⟨.bj h.n 0 n cj,h.push (.cells news T.e (some T.sz)),by simp [aK,bb,bt],Own.grown (by simp [I.push]) (by simp [I.push]) (by simpa using aG),J.push _ _ _,.inr fun k hk=>by simp [a8] at hk;omega⟩
 rcases aN with ⟨rfl | rfl,dX⟩ | ⟨i,len,cap,c,ex,rfl,hi,az,hlen,bY,dp⟩
 ·exact start _ (.inl rfl) dX
 ·exact start _ (.inr rfl) dX
 ·by_cases aK:n=0
  ·subst aK;have:news=[]:=avA (by simpa using aG)
   subst this;exact ⟨.bj i 0 len cap,h,by simp,by rw [List.append_nil];exact .inr ⟨i,len,cap,c,ex,rfl,hi,az,hlen,bY,dp⟩,J.refl _ _,.inl rfl⟩
  ·have wA:len+n≤cs.length+news.length:=by
    rw [aG,hlen,←atY];exact aAz _ dg
   have bb:(len+n) * T.ao≤lim:=OF (avo T.ao wA) h1;have bt:len+n≤lim:=by omega
   have cI:len * T.sz≤c.length:=by
    have:=congrArg avu bY;rw [VV,hlen] at this;omega
   simp only [aK,bb,bt,and_self,if_true,if_false,az];rcases dp with ⟨l3,o1,hle⟩ | ⟨rfl,rfl⟩
   ·simp only [l3,if_true];by_cases fW:len+n≤cap
    ·have eW:0+(len+n) * T.sz≤c.length:=by rw [avm];exact OF (avo _ fW) o1
     have hll:(lay c (len * T.sz) news).length=c.length:=vv _ _ _ (by rw [aG,←atY];omega)
     simp only [fW,if_true,eW];refine ⟨_,_,rfl,.inr ⟨i,len+n,cap,lay c (0+len * T.sz) news,ex,rfl,hi,by simp [I.set],by simp [hlen,aG,atY],?_,.inl ⟨l3,?_,fW⟩⟩,⟨BY _,fun j aV bI=>?_,rfl⟩,.inl rfl⟩
     ·simp only [avm,lay,bY,atY,←aG];have:(cs++news).length=len * T.sz+news.length:=by simp [hlen]
      rw [←this];exact List.take_left
     ·rw [avm,hll];exact o1
     ·simp only [I.set];rw [if_neg (by intro cL;subst cL;simp [a6,a8] at bI)]
    ·simp only [fW,if_false];have As:0+len * T.sz≤c.length:=by omega
     simp only [As,if_true,avW,bY];exact ⟨_,_,rfl,Own.grown (by simp [I.push]) (by simp [I.push]) (by simp [hlen,aG,atY]),J.push _ _ _,.inr fun k hk=>by simp [a8] at hk;omega⟩
   ·simp only [Nat.lt_irrefl,if_false,true_and,cI,and_self,if_true];refine ⟨_,_,rfl,Own.grown (by simp [I.push,I.set]) (by simp [I.push,I.set,bY]) (by simp [hlen,aG,atY]),⟨by simp [I.push,I.set],fun j aV bI=>?_,rfl⟩,.inr fun k hk=>by simp [a8] at hk;omega⟩
    have h1:j≠i:=by intro cL;subst cL;simp [a6,a8] at bI
    have ad:j≠h.n:=by omega
    simp [I.push,I.set,h1,ad]
theorem Own.src {P:Program} {t e:TypeId} {h:I} {sz:Nat} {v:V} {cs:List V} (aN:Own h e sz v cs) (hk:ef P t=some 1) (cm:cs.all (·.one)=true) (bo:0<sz) :
  ∃ n,fI P sz t v h=some (n,cs)∧cs.length=n * sz:=by
 obtain ⟨d,hu,bf⟩:=BI hk;cases d<;>simp [vy] at bf;rcases aN with ⟨rfl | rfl,rfl⟩ | ⟨i,len,cap,c,ex,rfl,hi,az,hlen,bY,_⟩
 ·exact ⟨0,by simp [fI,hu],by simp⟩
 ·exact ⟨0,by simp [fI,hu],by simp⟩
 ·refine ⟨len,?_,hlen⟩;have cI:len * sz≤c.length:=by
   have:=congrArg avu bY;rw [VV,hlen] at this;omega
  simp only [fI,hu,az,avW,bY,cm,avm];rw [if_pos ⟨cI,trivial⟩]
theorem Ia {P:Program} {t:TypeId} {h:I} {sz n:Nat} {cs:List V} (hk:ef P t=some 1) (aw:cs.length=n * sz) (cm:cs.all (·.one)=true):fI P sz t (.ah n cs) h=some (n,cs):=by
 obtain ⟨d,hu,bf⟩:=BI hk;cases d<;>simp [vy] at bf;simp only [fI,hu];rw [if_pos ⟨aw,cm⟩]
theorem aje {α:Type} (z:List α):made z 1=z:=by simp [made]
theorem ajf:∀ (vs c:List V),vs.length=c.length→rG c 0 vs=vs:=by
 intro vs c aw;rw [←Ry vs c 0 (by omega)]
 unfold lay;simp [aw]
theorem Wy {P:Program} {t:TypeId} {T:kx} (cd:fL P t=some T) {x:V} {xs:List V} (aj:x.cells=some xs) (aw:xs.length=T.sz) (aa:T.sz≤16777216) {h:I} :
  ie P t 1 [(0,x)] h=some (.bj h.n 0 1 1,h.push (.cells xs T.e none)):=by
 obtain ⟨he,bR,bo,jC,fb,_⟩:=uw cd;unfold ie;simp only [he,bo,bR,fb,aje,awB];rw [if_pos ⟨trivial,by omega,by omega⟩]
 simp only [pS,aj,Nat.zero_mul,avm];rw [if_pos ⟨aw,by omega⟩,ajf _ _ (by omega)]
theorem M3 {P:Program} {t:TypeId} {T:kx} (cd:fL P t=some T) (dg:0<T.sz)
  {h:I} {s:V} {cs xs:List V} (aN:Own h T.e T.sz s cs) (aw:xs.length=T.sz) (cm:xs.all (·.one)=true)
  (h1:(cs.length+T.sz) * T.ao≤lim) (ad:cs.length+T.sz≤lim) :
  ∃ v h',kO P t t s (.bj h.n 0 1 1) (h.push (.cells xs T.e none))=some (v,h')∧Own h' T.e T.sz v (cs++xs)∧J h h' (a6 s)∧dm h s v:=by
 obtain ⟨he,bR,bo,jC,fb,hu⟩:=uw cd;have hk:=J.push h (.cells xs T.e none) none_;have dR:fI P T.sz t (.bj h.n 0 1 1) (h.push (.cells xs T.e none))=some (1,xs):=by
  simp only [fI,hu,I.push,if_true,awB,avm,avW];rw [are (by omega),if_pos ⟨by omega,cm⟩]
 obtain ⟨v,h',aP,gY,eJ,dk⟩:=Wx (tx:=t) cd dg (aN.br hk) dR (by omega) (by rw [aw];exact h1) (by rw [aw];exact ad)
 refine ⟨v,h',aP,gY,(hk.up).trans' eJ,dk.imp id fun U k rV=>?_⟩;have:=U k rV;simp [I.push] at this;omega
structure Acc (aK h:I) (e:TypeId) (sz:Nat) (v:V) (cs:List V):Prop where
 own:Own h e sz v cs
 ai:J aK h none_
 new:∀ k,a8 v=some k→aK.n≤k
theorem Acc.nil {aK h:I} {e:TypeId} {sz:Nat} (k:J aK h none_):Acc aK h e sz .ag []:=⟨Own.ag _ _ _,k,by simp [a8]⟩
theorem Acc.elem {P:Program} {t:TypeId} {T:kx} (cd:fL P t=some T) {aK h:I} {s:V} {cs xs:List V} (a:Acc aK h T.e T.sz s cs) (dg:0<T.sz) (aw:xs.length=T.sz) (cm:xs.all (·.one)=true)
  (h1:(cs.length+T.sz) * T.ao≤lim) (ad:cs.length+T.sz≤lim) :
  ∃ v h',kO P t t s (.bj h.n 0 1 1) (h.push (.cells xs T.e none))=some (v,h')∧Acc aK h' T.e T.sz v (cs++xs):=by
 obtain ⟨v,h',aP,gY,eJ,dk⟩:=M3 cd dg a.own aw cm h1 ad;refine ⟨v,h',aP,gY,a.ai.trans eJ fun k hk ay=>?_,fun k hk=>?_⟩
 ·have:=a.new k ay;omega
 ·rcases dk with dk | dk
  ·exact a.new k (dk ▸ hk)
  ·exact OF a.ai.n (dk k hk)
theorem Acc.app {P:Program} {t tx:TypeId} {T:kx} (cd:fL P t=some T) {aK h:I} {s x:V} {cs news:List V} (a:Acc aK h T.e T.sz s cs) (dg:0<T.sz) {n:Nat} (dR:fI P T.sz tx x h=some (n,news)) (aG:news.length=n * T.sz)
  (h1:(cs.length+news.length) * T.ao≤lim) (ad:cs.length+news.length≤lim) :
  ∃ v h',kO P t tx s x h=some (v,h')∧Acc aK h' T.e T.sz v (cs++news):=by
 obtain ⟨v,h',aP,gY,eJ,dk⟩:=Wx cd dg a.own dR aG h1 ad;refine ⟨v,h',aP,gY,a.ai.trans eJ fun k hk ay=>?_,fun k hk=>?_⟩
 ·have:=a.new k ay;omega
 ·rcases dk with dk | dk
  ·exact a.new k (dk ▸ hk)
  ·exact OF a.ai.n (dk k hk)
theorem Own.length {h:I} {e:TypeId} {v:V} {cs:List V} {sz:Nat} (aN:Own h e sz v cs) (bo:0<sz) (P:Program) {t:TypeId} (hk:ef P t=some 1):dS P t v h=some (.int .i64 (cs.length / sz:Nat)):=by
 rcases aN with ⟨rfl | rfl,rfl⟩ | ⟨i,len,cap,c,ex,rfl,hi,az,hlen,_⟩
 ·rw [xC hk];simp
 ·rw [y1 hk];simp
 ·rw [y0 hk,hlen,Nat.mul_div_cancel _ bo]
theorem aA.refl (r:V) (h:I):aA r h r h:=fun ρ B aJ w c0 hw aH=>⟨ρ,Ren.le.refl ρ,hw,aH⟩
theorem aA.trans {r cZ dI:V} {h h1 ad:I} (a:aA r h cZ h1) (b:aA cZ h1 dI ad):aA r h dI ad:=fun ρ B aJ w c0 hw aH=>
 let ⟨ρ1,hc,cV,v1⟩:=a ρ B aJ w c0 hw aH
 let ⟨ρ2,ez,bS,v2⟩:=b ρ1 B aJ w c0 cV v1
 ⟨ρ2,hc.trans ez,bS,v2⟩
theorem aA.own {h:I} {e:TypeId} {sz:Nat} {v:V} {cs:List V} (aN:Own h e sz v cs) {n:Nat} (aG:cs.length=n * sz) (bo:0<sz):∃ ad,aA v h (.ah n cs) ad∧J h ad (a6 v):=by
 rcases aN with ⟨rfl | rfl,rfl⟩ | ⟨i,len,cap,c,ex,rfl,hi,az,hlen,bY,dp⟩
 ·have aK:n=0:=by
   have:n * sz=0:=by simpa using aG.symm
   rcases awz.1 this with h | h<;>omega
  subst aK;refine ⟨h,fun ρ B aJ w c0 hw aH=>⟨ρ,Ren.le.refl ρ,hw,?_⟩,J.refl _ _⟩;cases aH;exact .gg none 0 (by simp)
 ·have aK:n=0:=by
   have:n * sz=0:=by simpa using aG.symm
   rcases awz.1 this with h | h<;>omega
  subst aK;exact ⟨h,fun ρ B aJ w c0 hw aH=>by
   cases aH with
   | z0 a aP=>exact ⟨ρ,Ren.le.refl ρ,hw,.gg a 0 (by simp)⟩,J.refl _ _⟩
 ·have Wz:n=len:=by
   have:n * sz=len * sz:=by omega
   exact Nat.eq_of_mul_eq_mul_right bo this
  subst Wz;refine ⟨h.set i .dead,fun ρ B aJ w c0 hw aH=>?_,(J.set h i .dead).mono fun k hk=>by subst hk;rfl⟩
  obtain ⟨ρ',hle,bX,b,bA,arr,aL,av,ay,aw⟩:=hw.freeze az;obtain ⟨b7,ji,iL,ht,rfl⟩:=aH.gm;rw [aL] at iL;simp at iL;obtain ⟨rfl,rfl⟩:=iL;have cI:n * sz≤c.length:=by
   have:=congrArg avu bY;rw [VV,hlen] at this;omega
  refine ⟨ρ',hle,bX,.ah 0 n _ av ht (by rw [hlen];omega) fun k v v' h1 ad=>?_⟩
  have hk:k<n * sz:=by rw [←hlen];exact (VX.1 h1).1
  rw [←bY,avg,if_pos hk] at h1;refine (aw.2 k v v' h1 ?_).mono hle;rw [avg,if_pos (by omega),avF]
  simpa using ad
def aq (l:List V) (h:I) (ez:List V) (ad:I):Prop :=
 ∀ (ρ:Ren) (B:Nat) (aJ w:World) (bU:List Value),aR ρ B aJ h w→aX ρ l bU→∃ ρ',ρ.le ρ'∧aR ρ' B aJ ad w∧aX ρ' ez bU
theorem aq.refl (l:List V) (h:I):aq l h l h:=fun ρ B aJ w bU hw aw=>⟨ρ,Ren.le.refl ρ,hw,aw⟩
theorem aq.cons {v v2:V} {l ez:List V} {h h1 ad:I} (a:aA v h v2 h1) (b:aq l h1 ez ad):aq (v::l) h (v2::ez) ad:=fun ρ B aJ w bU hw aw=>by
 obtain ⟨v',iW,rfl,aH,bE⟩:=aw.dB;obtain ⟨ρ1,hc,cV,v1⟩:=a ρ B aJ w v' hw aH;obtain ⟨ρ2,ez,bS,v2⟩:=b ρ1 B aJ w iW cV (bE.mono hc);exact ⟨ρ2,hc.trans ez,bS,.cons (v1.mono ez) v2⟩
theorem aA.tuple {l ez:List V} {h ad:I} (a:aq l h ez ad):aA (.tuple l) h (.tuple ez) ad:=fun ρ B aJ w c0 hw aH=>by
 cases aH with
 | tuple aa aj=>
  obtain ⟨ρ1,hc,cV,v1⟩:=a ρ B aJ w _ hw (dQ.list ⟨aa,aj⟩);exact ⟨ρ1,hc,cV,v1.jz.tuple⟩
def a7 (v:V):Prop:=∀ (ρ ρ':Ren) (v':Value),aB ρ v v'→(∀ b a,ρ.frz b=some a→ρ'.frz b=some a)→aB ρ' v v'
def a1 (l:List V):Prop:=∀ v ∈ l,a7 v
theorem a1.nil:a1 []:=by simp [a1]
theorem a1.cons {v:V} {l:List V} (h:a7 v) (g:a1 l):a1 (v::l):=by
 intro x aj;rcases IN.1 aj with rfl | aj
 ·exact h
 ·exact g x aj
theorem a1.append {l m:List V} (h:a1 l) (g:a1 m):a1 (l++m):=by
 intro x aj;rcases avs.1 aj with aj | aj
 ·exact h x aj
 ·exact g x aj
theorem a1.flatMap {α:Type} {f:α→List V} {l:List α} (h:∀ x ∈ l,a1 (f x)):a1 (l.flatMap f):=by
 intro v aH;obtain ⟨x,aj,aH⟩:=List.mem_flatMap.1 aH;exact h x aj v aH
theorem a1.map {α:Type} {f:α→V} {l:List α} (h:∀ x ∈ l,a7 (f x)):a1 (l.map f):=by
 intro v aH;obtain ⟨x,aj,rfl⟩:=MF.1 aH;exact h x aj
theorem a7.flat {v:V} {a:Value} (h:nS v=some a):a7 v:=fun ρ ρ' v' aH _=>by
 have:=yO aH h;subst this;cases aH<;>simp [nS] at h<;>first | (constructor;done) | skip
 rename_i xs eV aa aj;cases xs with
 | nil=>exact .tuple aa (by simp)
 | cons x t=>simp at h
theorem a7.int (k:IntKind) (n:Int):a7 (.int k n):=a7.flat rfl
theorem a7.bool (b:Bool):a7 (.bool b):=a7.flat rfl
theorem a7.string (s:ByteArray):a7 (.string s):=a7.flat rfl
theorem a7.c8:a7 .c8:=a7.flat rfl
theorem a7.ag:a7 .ag:=a7.flat rfl
theorem a7.top:a7 .top:=fun ρ ρ' v' aH _=>.top _
theorem a7.ah {n:Nat} {cs:List V} (h:a1 cs):a7 (.ah n cs):=fun ρ ρ' v' aH av=>by
 rcases aH.j1 with ⟨rfl,rfl,a,kN,aP,rfl⟩ | ⟨b,o,cap,arr,al,aG,aN,aj,rfl⟩
 ·exact .gg a _ aP
 ·exact .ah o n cap (av _ _ al) aG aN fun k v v' h1 ad=>h v (avK h1) ρ ρ' v' (aj k v v' h1 ad) av
theorem a7.at {cs:List V} (h:a1 cs):a7 (.at cs):=fun ρ ρ' v' aH av=>by
 obtain ⟨b,o,arr,al,aN,aj,rfl⟩:=aH.um;exact .at o (av _ _ al) aN fun k v v' h1 ad=>h v (avK h1) ρ ρ' v' (aj k v v' h1 ad) av
theorem a7.agg {cs:List V} (h:a1 cs):a7 (.agg cs):=fun ρ ρ' v' aH av=>by
 cases aH with
 | agg aa aj=>exact .agg aa fun k v v' h1 ad=>h v (avK h1) ρ ρ' v' (aj k v v' h1 ad) av
theorem a7.tuple {cs:List V} (h:a1 cs):a7 (.tuple cs):=fun ρ ρ' v' aH av=>by
 cases aH with
 | tuple aa aj=>exact .tuple aa fun k v v' h1 ad=>h v (avK h1) ρ ρ' v' (aj k v v' h1 ad) av
theorem aB.join {ρ ρ':Ren} (hle:ρ.le ρ') {v:V} {a:Value} (h:aB ρ v a):∀ {b:Value},aB ρ' v b→aB ⟨ρ.ren,ρ'.frz,ρ.dfr⟩ v b:=by
 induction h with
 | ptr hi o=>
  intro b al;obtain ⟨b7,bt,iL,rfl⟩:=al.pP;rw [hle.ren _ _ hi] at iL;simp at iL;obtain ⟨rfl,rfl⟩:=iL;exact aB.ptr (ρ:=⟨ρ.ren,ρ'.frz,ρ.dfr⟩) hi o
 | bj hi o len cap aw=>
  intro b al;obtain ⟨b7,bt,iL,ht,rfl⟩:=al.gm;rw [hle.ren _ _ hi] at iL;simp at iL;obtain ⟨rfl,rfl⟩:=iL;exact aB.bj (ρ:=⟨ρ.ren,ρ'.frz,ρ.dfr⟩) hi o len cap aw
 | map hi=>
  intro b al;cases al with
  | map iL=>
   rw [hle.ren _ _ hi] at iL;simp at iL;obtain ⟨rfl,rfl⟩:=iL;exact .map hi
 | @ah MQ o n cap arr cs al aG aN aj ih=>
  intro b iJ;rcases iJ.j1 with ⟨rfl,rfl,a,kN,aP,rfl⟩ | ⟨b7,dZ,Dz,nm,k1,BJ,iH,dC,rfl⟩
  ·exact .gg a _ aP
  ·refine .ah dZ n Dz k1 BJ iH fun k v v' h1 ad=>?_;have hk:k<cs.length:=(VX.1 h1).1;exact ih k v _ h1 (avd (by omega)) (dC k v v' h1 ad)
 | @«at» MQ o arr cs al aN aj ih=>
  intro b iJ;obtain ⟨b7,dZ,nm,k1,iH,dC,rfl⟩:=iJ.um;refine .at dZ k1 iH fun k v v' h1 ad=>?_;have hk:k<cs.length:=(VX.1 h1).1;exact ih k v _ h1 (avd (by omega)) (dC k v v' h1 ad)
 | func fn aa bE aj bp jy Q7=>
  intro b al;cases al with
  | func fn fs Ib dC WA=>
   refine .func fn fs Ib (fun k v v' h1 ad=>?_) (fun k v v' h1 ad=>?_)
   ·have hk:=(VX.1 h1).1;exact jy k v _ h1 (avd (by omega)) (dC k v v' h1 ad)
   ·have hk:=(VX.1 h1).1;exact Q7 k v _ h1 (avd (by omega)) (WA k v v' h1 ad)
 | iface t h ih=>intro b al;cases al with | iface t g=>exact .iface t (ih g)
 | agg aa aj jy=>
  intro b al;cases al with
  | agg fs dC=>
   refine .agg fs fun k v v' h1 ad=>?_;have hk:=(VX.1 h1).1;exact jy k v _ h1 (avd (by omega)) (dC k v v' h1 ad)
 | tuple aa aj jy=>
  intro b al;cases al with
  | tuple fs dC=>
   refine .tuple fs fun k v v' h1 ad=>?_;have hk:=(VX.1 h1).1;exact jy k v _ h1 (avd (by omega)) (dC k v v' h1 ad)
 | gg a kN aP=>
  intro b al;rcases al.j1 with ⟨_,_,a,kN,aP,rfl⟩ | ⟨b7,dZ,Dz,nm,k1,BJ,iH,dC,rfl⟩
  ·exact .gg a _ aP
  ·exact .ah dZ 0 Dz k1 BJ iH (by simp)
 | z0 a aP=>intro b al;cases al with | z0 a aP=>exact .z0 a aP
 | top=>intro b al;exact .top _
 | _=>intro b al;cases al;constructor
theorem aX.join {ρ ρ':Ren} (hle:ρ.le ρ') {l:List V} {a b:List Value} (h:aX ρ l a) (g:aX ρ' l b):aX ⟨ρ.ren,ρ'.frz,ρ.dfr⟩ l b:=by
 refine ⟨g.1,fun k v v' h1 ad=>?_⟩;have hk:k<l.length:=(VX.1 h1).1;exact (h.2 k v _ h1 (ME (by rw [←h.1];exact hk))).join hle (g.2 k v v' h1 ad)
theorem aR.forget {ρ ρ':Ren} {B ajg:Nat} {aJ WB w w':World} {h h':I} (R:aR ρ ajg WB h w) (eu:aR ρ' B aJ h' w') (hle:ρ.le ρ') (hk:J h h' none_):aR ⟨ρ.ren,ρ'.frz,ρ.dfr⟩ B aJ h w':=by
 have aM:∀ i,h.get i≠.dead→i<h.n:=fun i hi=>by obtain ⟨_,_,_,_,U,_⟩:=R.heap.live hi;exact U
 refine ⟨⟨R.heap.lh,R.heap.inj,fun i=>?_,eu.heap.frz,fun g cs az=>?_,eu.heap.base⟩,eu.below⟩
 ·cases az:h.get i with
  | dead=>trivial
  | cells c e ex=>
   have hi:i<h.n:=aM i (by rw [az];simp)
   have gT:=R.heap.obj i;have dZ:=eu.heap.obj i;rw [hk.get i hi (by simp [none_]),az] at dZ
   rw [az] at gT;obtain ⟨b,bA,arr,aL,av,cr,hw,ay,aw,aj⟩:=gT;obtain ⟨b7,ji,nm,iG,h4,l7,iI,tg,ht,dC⟩:=dZ;have:=hle.ren i _ aL;rw [iG] at this;simp at this;obtain ⟨rfl,rfl⟩:=this;exact ⟨b7,ji,nm,aL,h4,l7,iI,tg,aw.join hle ht,dC⟩
  | map es cl=>
   have hi:i<h.n:=aM i (by rw [az];simp)
   have gT:=R.heap.obj i;have dZ:=eu.heap.obj i;rw [hk.get i hi (by simp [none_]),az] at dZ
   rw [az] at gT;obtain ⟨b,bA,arr,aL,av,cr,hw,hm⟩:=gT;obtain ⟨b7,ji,nm,iG,h4,l7,iI,nC⟩:=dZ;have:=hle.ren i _ aL;rw [iG] at this;simp at this;obtain ⟨rfl,rfl⟩:=this;refine ⟨b7,ji,nm,aL,h4,l7,iI,nC.1,fun k x y aj bp=>?_⟩;have hv:k<es.length:=(VX.1 aj).1;obtain ⟨_,cX,dT⟩:=hm.2 k x _ aj (avd (by rw [←hm.1];exact hv))
   obtain ⟨vD,pr,sS⟩:=nC.2 k x y aj bp;exact ⟨vD,cX.join hle pr,dT.join hle sS⟩
  | jx b mk vs=>
   have hi:i<h.n:=aM i (by rw [az];simp)
   have gT:=R.heap.obj i;have dZ:=eu.heap.obj i;rw [hk.get i hi (by simp [none_]),az] at dZ
   rw [az] at gT;obtain ⟨bA,arr,aL,av,cr,hw,aw⟩:=gT;obtain ⟨ji,nm,iG,h4,l7,iI,ht⟩:=dZ;have:=hle.ren i _ aL;rw [iG] at this;simp at this;subst this;exact ⟨ji,nm,aL,h4,l7,iI,aw.join hle ht⟩
  | iter m s l st=>
   have hi:i<h.n:=aM i (by rw [az];simp)
   have gT:=R.heap.obj i;have dZ:=eu.heap.obj i;rw [hk.get i hi (by simp [none_]),az] at dZ
   rw [az] at gT;obtain ⟨b,bA,bm,yP,aL,av,cr,hm,hw⟩:=gT;obtain ⟨b7,ji,WC,WD,iG,h4,l7,nC,iI⟩:=dZ;have:=hle.ren i _ aL;rw [iG] at this;simp at this;obtain ⟨rfl,rfl⟩:=this;have:=hle.ren m _ hm;rw [nC] at this;simp at this;obtain ⟨rfl,rfl⟩:=this;exact ⟨b7,ji,WC,WD,aL,h4,l7,hm,iI⟩
 ·obtain ⟨arr,av,aL⟩:=R.heap.glob g cs az;obtain ⟨nm,h4,iG⟩:=eu.heap.glob g cs (by rw [hk.glob];exact az)
  have:=hle.frz g _ av;rw [h4] at this;simp at this;subst this;exact ⟨nm,h4,(aL.list.join hle iG.list).jz⟩
theorem bV.pure {P:Program} {bG:FuncId} {args:List V} {h:I} {v:V} {E:I→Prop} (aH:a7 v) (ay:bV P bG args h (fun r h'=>∃ ad,aA r h' v ad∧J h ad none_) (fun h'=>J h h' none_∧E h)) :
  bV P bG args h (fun r h'=>r=v∧h'=h) (fun h'=>h'=h∧E h):=by
 intro ρ B aJ w args' hw aP;refine (ay ρ B aJ w args' hw aP).mono fun e w' U=>?_;rcases U with ⟨ρ',r,c0,h',he,aL,bX,hle,ad,An,hk⟩ | ⟨ρ',iv,h',he,nE,bX,hle,hk,bL⟩
 ·obtain ⟨ρ2,RA,iI,BE⟩:=An ρ' B aJ w' c0 bX aL;have aw:=hle.trans RA;exact .inl ⟨⟨ρ.ren,ρ2.frz,ρ.dfr⟩,v,c0,h,he,aH _ _ _ BE fun _ _ h=>h,hw.forget iI aw hk,⟨fun _ _ h=>h,aw.frz,rfl⟩,rfl,rfl⟩
 ·exact .inr ⟨⟨ρ.ren,ρ'.frz,ρ.dfr⟩,iv,h,he,nE,hw.forget bX hle hk,⟨fun _ _ h=>h,hle.frz,rfl⟩,rfl,bL⟩
theorem Pure.of {P:Program} {bG:FuncId} {args:List V} {h:I} {v:V} (aH:a7 v) (ay:af P bG args h (fun r h'=>∃ ad,aA r h' v ad∧J h ad none_)):Pure P bG args h v:=by
 have:=bV.pure (E:=fun _=>False) aH (ay.e);exact bV.mono this (fun _ _ h=>h) fun _ h=>h.2.elim
theorem Pure.val {P:Program} {bG:FuncId} {args:List V} {h:I} {v:V} (aH:a7 v) (ay:af P bG args h (fun r h'=>r=v∧J h h' none_)):Pure P bG args h v :=
 .of aH (ay.mono fun r h' ⟨e,k⟩=>⟨h',by subst e;exact aA.refl _ _,k⟩)
theorem Acc.cast {aK h:I} {e:TypeId} {sz:Nat} {v:V} {cs:List V} (a:Acc aK h e sz v cs) {n:Nat} (aG:cs.length=n * sz) (bo:0<sz):∃ ad,aA v h (.ah n cs) ad∧J aK ad none_:=by
 obtain ⟨ad,ay,hk⟩:=aA.own a.own aG bo;exact ⟨ad,ay,a.ai.trans hk fun k aM dk=>by have:=a.new k dk;omega⟩
def Gs (P:Program) (ops:List Oper) (h:I):List Oper→(ak→Prop)→ak→Prop
 | [],K,f=>K f
 | o::rest,K,f=>match hr ops o.guard f with
  | some true=>∃ v,BF P o h f v∧Gs P ops h rest K (f.put o.dst v)
  | some false=>Gs P ops h rest K (f.put o.dst (.tuple []))
  | none=>False
def gp (P:Program) (ops:List Oper) (h:I) (o:Oper) (v:V) (f:ak):Prop :=
 (hr ops o.guard f=some true∧BF P o h f v)∨(hr ops o.guard f=some false∧v=.tuple [])
theorem ajh {P:Program} {c:Call} {ty:TypeId} {bz cx:Operand→V} {h:I} (he:∀ x ∈ c.operands,bz x=cx x):kP P c ty bz h=kP P c ty cx h:=by
 have nU:c.args.toList.map bz=c.args.toList.map cx:=awS fun x aj=>he x (by simp at aj;simp [Call.operands,aj])
 unfold kP;rw [nU];cases ay:c.callee with
 | value f=>have av:bz f=cx f:=he f (by simp [Call.operands,ay]);simp only [av]
 | invoke r m=>have av:bz r=cx r:=he r (by simp [Call.operands,ay]);simp only [av]
 | builtin b=>cases b<;>rfl
theorem aji {P:Program} {o:Oper} {bz cx:Operand→V} {h:I} (he:∀ x ∈ o.op.operands,bz x=cx x):ej P o bz h=ej P o cx h:=by
 obtain ⟨dst,op,type,pos,after,guard⟩:=o;have E2:∀ ps:Array (Nat×Operand),(∀ x ∈ ps.toList.map (·.2),bz x=cx x) →
   (ps.toList.map fun p=>(p.1,bz p.2))=(ps.toList.map fun p=>(p.1,cx p.2)):=fun ps aU=>
  awS fun p hm=>by rw [aU p.2 (MF.2 ⟨p,hm,rfl⟩)]
 cases op<;>simp only [Op.operands] at he<;>simp only [ej]
 case build t ps=>rw [E2 ps fun x aj=>he x (by simpa using aj)]
 case buildSlice t n ps=>rw [E2 ps fun x aj=>he x (by simpa using aj)]
 case makeFunc fn first captured=>
  rw [awS (l:=first.toList) fun x aj=>he x (by simp at aj;simp [aj]),awS (l:=captured.toList) fun x aj=>he x (by simp at aj;simp [aj])]
 case call c=>exact ajh he
 case makeMap t r=>cases r<;>simp_all
 case slice t x lo hi mx=>cases lo<;>cases hi<;>cases mx<;>simp_all
 case next it s=>cases s<;>simp_all
 all_goals (first | rfl | (simp_all;done))
theorem ak.eval_put {f:ak} {h:I} {dst:Option Tmp} {v:V} {x:Operand} (aj:∀ d,dst=some d→x≠.tmp d):(f.put dst v).eval h x=f.eval h x:=by
 cases dst with
 | none=>rfl
 | some d=>
  cases x with
  | tmp t=>
   have bI:t≠d:=fun e=>aj d rfl (e ▸ rfl);simp [ak.eval,ak.put,bI]
  | _=>rfl
theorem ak.put_comm (f:ak) {x y:Option Tmp} (v u:V) (h:∀ d,x=some d→y≠some d):(f.put x v).put y u=(f.put y u).put x v:=by
 cases x with
 | none=>rfl
 | some d=>
  cases y with
  | none=>rfl
  | some e=>
   have bI:d≠e:=fun he=>h d rfl (he ▸ rfl)
   funext t
   simp only [ak.put];by_cases h1:t=e
   ·subst h1;simp [Ne.symm bI]
   ·simp [h1]
section
variable {P:Program} {ops:Array Oper} {h:I} {md:Region.Mode}
theorem RB (o:Oper) (f:ak) (dst:Option Tmp) (v:V) (aw:∀ d,dst=some d→d ∉ o.looksAt ops):ej P o ((f.put dst v).eval h) h=ej P o (f.eval h) h :=
 aji fun x aj=>ak.eval_put fun d bf WE=>aw d bf (by
  subst WE;exact List.mem_append_left _ (List.mem_filterMap.2 ⟨.tmp d,by simpa using aj,rfl⟩))
theorem RC (o:Oper) (f:ak) (dst:Option Tmp) (v:V) (aw:∀ d,dst=some d→d ∉ o.looksAt ops):hr ops.toList o.guard (f.put dst v)=hr ops.toList o.guard f:=by
 cases dst with
 | none=>rfl
 | some d=>
  unfold hr;cases az:o.guard with
  | none=>rfl
  | some ajj=>
   obtain ⟨g,want⟩:=ajj;simp only;have e:ops.toList[g]?=ops[g]?:=by simp
   rw [e];cases bE:(ops[g]?).bind (·.dst) with
   | none=>rfl
   | some t=>
    have bI:t≠d:=fun e=>aw d rfl (by subst e;simp [Oper.looksAt,az,bE])
    simp [ak.put,bI]
theorem gp.put {o:Oper} {v:V} {f:ak} (bp:gp P ops.toList h o v f) (dst:Option Tmp) (u:V) (aw:∀ d,dst=some d→d ∉ o.looksAt ops):gp P ops.toList h o v (f.put dst u):=by
 unfold gp BF at *;rw [RC o f dst u aw,RB o f dst u aw];exact bp
theorem gp.Au {o:Oper} {v:V} {f:ak} (dst:Option Tmp) (u:V) (aw:∀ d,dst=some d→d ∉ o.looksAt ops) (bp:gp P ops.toList h o v (f.put dst u)):gp P ops.toList h o v f:=by
 unfold gp BF at *;rwa [RC o f dst u aw,RB o f dst u aw] at bp
end
class Ic where
 h:I
def rf (P:Program) (ol l:List Oper) [H:Ic] [K:e7] (f:ak):Prop:=Gs P ol H.h l (fun f=>K.go f H.h) f
def oS (P:Program) (o:Oper) (ol l:List Oper) [H:Ic] [K:e7] (f:ak):Prop:=∃ v,BF P o H.h f v∧@rf P ol l H K (f.put o.dst v)
section
variable {P:Program} {ol l:List Oper} {H:Ic} {K:e7} {f:ak} {d:Option Tmp} {ty:TypeId} {pos:String} {cp:Array Edge} {op:Op} {g:Option (Nat×Bool)}
theorem ajk:@rf P ol [] H K f=@jm K f H.h:=nr rfl
theorem ajl:@rf P ol (⟨d,op,ty,pos,cp,none⟩::l) H K f=@oS P ⟨d,op,ty,pos,cp,none⟩ ol l H K f:=nr rfl
def zz (v:V) (o:Oper) (P:Program) (ol l:List Oper) [H:Ic] [K:e7] (f:ak):Prop :=
 match v,o.guard with
 | .bool c,some (_,b)=>if c=b then @oS P o ol l H K f else @rf P ol l H K (f.put o.dst (.tuple []))
 | .top,_=>False
 | _,_=>@rf P ol l H K (f.put o.dst (.tuple []))
theorem ajm {j:Nat} {b:Bool}:@rf P ol (⟨d,op,ty,pos,cp,some (j,b)⟩::l) H K f =
  (match yX ol j with | some t=>@zz (f t) ⟨d,op,ty,pos,cp,some (j,b)⟩ P ol l H K f | none=>@rf P ol l H K (f.put d (.tuple []))):=by
 rw [Rv];show Gs P ol H.h (⟨d,op,ty,pos,cp,some (j,b)⟩::l) (fun f=>K.go f H.h) f=_;simp only [Gs,hr];cases bE:(ol[j]?).bind (·.dst) with
 | none=>rfl
 | some t=>
  simp only [zz];cases av:f t<;>try rfl
  rename_i c;simp only;by_cases ay:c=b
  ·subst ay;simp only [beq_self_eq_true,if_true];rfl
  ·have:(c==b)=false:=by simp [ay]
   simp only [this,if_neg ay];rfl
theorem ajn {b:Bool} {j:Nat}:@zz (.bool b) ⟨d,op,ty,pos,cp,some (j,b)⟩ P ol l H K f=@oS P ⟨d,op,ty,pos,cp,some (j,b)⟩ ol l H K f:=if_pos rfl
theorem ajo {j:Nat}:@zz (.bool true) ⟨d,op,ty,pos,cp,some (j,false)⟩ P ol l H K f=@rf P ol l H K (f.put d (.tuple [])):=nr rfl
theorem ajp {j:Nat}:@zz (.bool false) ⟨d,op,ty,pos,cp,some (j,true)⟩ P ol l H K f=@rf P ol l H K (f.put d (.tuple [])):=nr rfl
theorem ajq {j:Nat} {b:Bool} {vs:List V}:@zz (.tuple vs) ⟨d,op,ty,pos,cp,some (j,b)⟩ P ol l H K f=@rf P ol l H K (f.put d (.tuple [])):=nr rfl
def qp (o:Option V) (d:Option Tmp) (P:Program) (ol l:List Oper) [H:Ic] [K:e7] (f:ak):Prop:=match o with | some v=>@rf P ol l H K (f.put d v) | none=>False
theorem ajr {v:V}:@qp (some v) d P ol l H K f=@rf P ol l H K (f.put d v):=nr rfl
theorem em {o:Oper} {x:Option V} (he:ej P o (f.eval H.h) H.h=gS x H.h):@oS P o ol l H K f=@qp x o.dst P ol l H K f:=by
 unfold oS BF;rw [he];cases x with
 | none=>simp [gS,qp]
 | some v=>
  simp [gS,qp]
theorem ajs {x:Operand}:@oS P ⟨d,.move x,ty,pos,cp,g⟩ ol l H K f=@rf P ol l H K (f.put d (f.eval H.h x)):=by
 rw [em (x:=some (f.eval H.h x)) rfl];rfl
theorem ajt {x:Operand}:@oS P ⟨d,.assign x,ty,pos,cp,g⟩ ol l H K f=@rf P ol l H K (f.put d (f.eval H.h x)):=by
 rw [em (x:=some (f.eval H.h x)) rfl];rfl
theorem Nm {c a b:Operand}:@oS P ⟨d,.pick c a b,ty,pos,cp,g⟩ ol l H K f=@qp (Gn (f.eval H.h c) (f.eval H.h a) (f.eval H.h b)) d P ol l H K f :=
 em (by unfold ej Gn gS;simp only;cases f.eval H.h c<;>rfl)
theorem No {t:TypeId} {a:Operand}:@oS P ⟨d,.load t a,ty,pos,cp,g⟩ ol l H K f=@qp (xh P t (f.eval H.h a) H.h) d P ol l H K f:=em rfl
theorem aju {t:TypeId} {ps:Array (Nat×Operand)}:@oS P ⟨d,.build t ps,ty,pos,cp,g⟩ ol l H K f=@qp (Dm P t (ps.toList.map fun p=>(p.1,f.eval H.h p.2))) d P ol l H K f:=em rfl
theorem ajv {x:Operand}:@oS P ⟨d,.nilCheck x,ty,pos,cp,g⟩ ol l H K f=@qp (xB (f.eval H.h x)) d P ol l H K f :=
 em (by
  unfold ej xB gS;simp only;generalize f.eval H.h x=y;cases y<;>try rfl
  rename_i fn xs ys;cases fn<;>rfl)
theorem ajw {op:BinOp} {t MS:TypeId} {x y:Operand}:@oS P ⟨d,.binOp op t x y MS,ty,pos,cp,g⟩ ol l H K f=@qp (cH P op t x y (f.eval H.h x) (f.eval H.h y)) d P ol l H K f:=em rfl
theorem ajx {op:UnOp} {t:TypeId} {x:Operand}:@oS P ⟨d,.unOp op t x,ty,pos,cp,g⟩ ol l H K f=@qp (xp P op (f.eval H.h x)) d P ol l H K f:=em rfl
theorem ajy {t:TypeId} {x:Operand} {lo hi mx:Option Operand}:@oS P ⟨d,.slice t x lo hi mx,ty,pos,cp,g⟩ ol l H K f=@qp (nT P t (f.eval H.h x) (lo.map (f.eval H.h)) (hi.map (f.eval H.h)) (mx.map (f.eval H.h))) d P ol l H K f:=em rfl
theorem ajz {t:TypeId} {x:Operand} {k:Nat}:@oS P ⟨d,.fieldAddr t x k,ty,pos,cp,g⟩ ol l H K f=@qp (Dg P t (f.eval H.h x) k) d P ol l H K f:=em rfl
theorem ajA {t:TypeId} {x:Operand} {k:Nat}:@oS P ⟨d,.field t x k,ty,pos,cp,g⟩ ol l H K f=@qp (Ge P t (f.eval H.h x) k) d P ol l H K f:=em rfl
theorem ajB {t:TypeId} {x y:Operand}:@oS P ⟨d,.indexAddr t x y,ty,pos,cp,g⟩ ol l H K f=@qp (hG P t (f.eval H.h x) (f.eval H.h y)) d P ol l H K f:=em rfl
theorem ajC {t:TypeId} {x y:Operand} {ok:Bool}:@oS P ⟨d,.lookup t x y ok,ty,pos,cp,g⟩ ol l H K f=@qp (nj P t (f.eval H.h x) (f.eval H.h y) ok H.h) d P ol l H K f:=em rfl
theorem ajD {x:Operand} {k:Nat}:@oS P ⟨d,.extract x k,ty,pos,cp,g⟩ ol l H K f=@qp (rS (f.eval H.h x) k) d P ol l H K f :=
 em (by unfold ej rS gS;simp only;cases f.eval H.h x<;>rfl)
theorem ajE {t:TypeId} {x:Operand}:@oS P ⟨d,.call ⟨.builtin .len,#[x],#[t]⟩,ty,pos,cp,g⟩ ol l H K f=@qp (dS P t (f.eval H.h x) H.h) d P ol l H K f :=
 em (by unfold ej kP qj gS;simp only [au9,avw];cases dS P t (f.eval H.h x) H.h<;>rfl)
theorem ajF {t t2:TypeId} {x y:Operand}:@oS P ⟨d,.call ⟨.builtin .min,#[x,y],#[t,t2]⟩,ty,pos,cp,g⟩ ol l H K f=@qp (tf P .min #[t,t2] ty (xx #[x,y]) (f.eval H.h x) (f.eval H.h y)) d P ol l H K f :=
 em (by
  unfold ej kP qj tf gS;simp only [au9,avw];cases jA [f.eval H.h x,f.eval H.h y] with
  | none=>rfl
  | some as=>
   simp only;generalize ey P _=r;cases r with
   | none=>rfl
   | some n=>cases n<;>rfl)
theorem PP {t t2:TypeId} {x y:Operand}:@oS P ⟨d,.call ⟨.builtin .max,#[x,y],#[t,t2]⟩,ty,pos,cp,g⟩ ol l H K f=@qp (tf P .max #[t,t2] ty (xx #[x,y]) (f.eval H.h x) (f.eval H.h y)) d P ol l H K f :=
 em (by
  unfold ej kP qj tf gS;simp only [au9,avw];cases jA [f.eval H.h x,f.eval H.h y] with
  | none=>rfl
  | some as=>
   simp only;generalize ey P _=r;cases r with
   | none=>rfl
   | some n=>cases n<;>rfl)
end
section
variable {h:I} {o o':aO} {i j:Nat}
theorem dq:(h.push o).n=h.n+1:=nr rfl
theorem lW:(h.set i o).n=h.n:=nr rfl
theorem DA:(h.push o).glob=h.glob:=nr rfl
theorem WG:(h.set i o).glob=h.glob:=nr rfl
theorem ck:(h.push o).get h.n=o:=by simp [I.push]
theorem lx (hi:i<h.n):(h.push o).get i=h.get i:=by simp [I.push,show i≠h.n by omega]
theorem y2 (i:Nat):(h.push o).get i=if i=h.n then o else h.get i:=nr rfl
theorem aT:(h.set i o).get i=o:=by simp [I.set]
theorem np (bI:i≠j):(h.set j o).get i=h.get i:=by simp [I.set,bI]
theorem set_push:(h.push o).set h.n o'=h.push o':=by
 unfold I.push I.set;simp only
 congr 1
 funext k
 split<;>rfl
theorem set_set:(h.set i o).set i o'=h.set i o':=by
 unfold I.set;simp only
 congr 1
 funext k
 split<;>rfl
theorem ajG (az:h.get i=o):h.set i o=h:=by
 unfold I.set;cases h with
 | mk n get glob=>
  simp only at az⊢
  congr 1
  funext k
  by_cases hk:k=i
  ·subst hk;simp [az]
  ·simp [hk]
theorem y5 {a b:aO}:((h.push a).push b).get (h.n+1)=b:=by
 have:=ck (h:=h.push a) (o:=b);rwa [dq] at this
theorem xD {a b:aO}:((h.push a).push b).get h.n=a:=by
 rw [lx (by rw [dq];omega),ck]
theorem ajH {a b c:aO}:((h.push a).push b).set (h.n+1) c=(h.push a).push c:=by
 have:=set_push (h:=h.push a) (o:=b) (o':=c);rwa [dq] at this
theorem ajI {a b c:aO}:((h.push a).push b).set h.n c=(h.push c).push b:=by
 simp only [I.push,I.set,I.mk.injEq,true_and,and_true]
 funext k
 by_cases h1:k=h.n
 ·subst h1;simp
 ·simp [h1]
end
def mapOf {α:Type} (kk:IntKind) (enc:α→V) (l:List (Nat×Int×α)):List (Nat×V×V):=l.map fun e=>(e.1,.int kk e.2.1,enc e.2.2)
def dU {α:Type} (l:List (Nat×Int×α)) (k:Int):Option α:=(l.find? fun e=>e.2.1==k).map (·.2.2)
def eM {α:Type} (cl:Nat) (l:List (Nat×Int×α)) (k:Int) (a:α):List (Nat×Int×α) :=
 match l with
 | []=>[(cl,k,a)]
 | e::r=>if e.2.1=k then (e.1,k,a)::r else e::eM cl r k a
def nq {α:Type} (cl:Nat) (l:List (Nat×Int×α)) (k:Int):Nat:=if (dU l k).isSome then cl else cl+1
section
variable {P:Program} {t c4 h3:TypeId} {kk:IntKind} {α:Type} {enc:α→V}
theorem WH {a b:Int} {d:TypeDesc} (bf:d=.int kk):wU P c4 d (.int kk a) (.int kk b)=some (a==b):=by
 subst bf;simp [wU,pk,nS,yU,Instr.sameNow]
theorem RD {k:Int}:∀ (l:List (Nat×Int×α)),oQ P c4 (.int kk) (.int kk k) (mapOf kk enc l)=some (l.findIdx? fun e=>e.2.1==k)
 | []=>rfl
 | e::l=>by
  show (match wU P c4 (.int kk) (.int kk k) (.int kk e.2.1) with | some true=>some (some 0) | some false=>(oQ P c4 (.int kk) (.int kk k) (mapOf kk enc l)).map (fun (o:Option Nat)=>o.map (·+1)) | none=>none)=_
  rw [WH rfl,RD l,axL];by_cases hk:k=e.2.1
  ·subst hk;simp
  ·have h1:(k==e.2.1)=false:=by simp [hk]
   have ad:(e.2.1==k)=false:=by simp [Ne.symm hk]
   simp [h1,ad]
theorem RE {b:Bool} {k:Int} {d:TypeDesc} (hu:P.underlying c4=some d) (bf:d=.int kk):xr P b c4 (.int kk k)=true:=by
 subst bf;unfold xr;simp only [pk,nS];unfold Instr.checkKey;rw [ni,Dy hu];rfl
theorem RF {l:List (Nat×Int×α)} {k:Int}:∀ {j:Nat},(l.findIdx? fun e=>e.2.1==k)=some j→∃ e,l[j]?=some e∧e.2.1=k∧dU l k=some e.2.2:=by
 induction l with
 | nil=>intro j h;simp at h
 | cons a l ih=>
  intro j h;rw [axL] at h;unfold dU;rw [avX];by_cases hk:a.2.1=k
  ·have:(a.2.1==k)=true:=by simp [hk]
   simp only [this,if_true,Option.some.injEq] at h;subst h;rw [this];exact ⟨a,rfl,hk,rfl⟩
  ·have:(a.2.1==k)=false:=by simp [hk]
   simp [this] at h⊢;obtain ⟨ajJ,jj,rfl⟩:=h;obtain ⟨e,h1,ad,aD⟩:=ih jj;unfold dU at aD;simp at aD;exact ⟨e.1,e.2.1,e.2.2,by simpa using h1,ad,by simpa using aD⟩
theorem WI {l:List (Nat×Int×α)} {k:Int} (h:(l.findIdx? fun e=>e.2.1==k)=none):dU l k=none:=by
 unfold dU;rw [List.findIdx?_eq_none_iff] at h;have:(l.find? fun e=>e.2.1==k)=none:=by
  rw [List.find?_eq_none];intro e he;simp [h e he]
 rw [this];rfl
theorem WJ {cl:Nat} {a:α} {k:Int}:∀ {l:List (Nat×Int×α)} {j:Nat},(l.findIdx? fun e=>e.2.1==k)=some j→mapOf kk enc (eM cl l k a)=(mapOf kk enc l).modify j fun e=>(e.1,.int kk k,enc a)
 | [],j,h=>by simp at h
 | e::l,j,h=>by
  rw [axL] at h;unfold eM;by_cases hk:e.2.1=k
  ·have:(e.2.1==k)=true:=by simp [hk]
   simp [this] at h;subst h;simp [hk,mapOf]
  ·have:(e.2.1==k)=false:=by simp [hk]
   simp [this] at h;obtain ⟨ajJ,jj,rfl⟩:=h;have:=WJ (cl:=cl) (a:=a) (l:=l) jj;simp only [mapOf] at this;simp [hk,mapOf,this]
theorem RG {cl:Nat} {a:α} {k:Int}:∀ {l:List (Nat×Int×α)},(l.findIdx? fun e=>e.2.1==k)=none→eM cl l k a=l++[(cl,k,a)]
 | [],h=>rfl
 | e::l,h=>by
  rw [axL] at h;unfold eM;by_cases hk:e.2.1=k
  ·have:(e.2.1==k)=true:=by simp [hk]
   simp [this] at h
  ·have:(e.2.1==k)=false:=by simp [hk]
   simp [this] at h;simp [hk,RG (cl:=cl) (a:=a) (k:=k) (l:=l) (by simpa using h)]
theorem lookup_int {z:Value} {h:I} {i:Nat} {l:List (Nat×Int×α)} {cl:Nat} {k:Int} {ok:Bool} (hm:eL P t=some (c4,h3,.int kk)) (bR:la P h3=some z) (az:h.get i=.map (mapOf kk enc l) cl) :
  nj P t (.map i) (.int kk k) ok h=some (match dU l k with | some a=>(if ok then .tuple [enc a,.bool true] else enc a) | none=>(if ok then .tuple [fg z,.bool false] else fg z)):=by
 obtain ⟨_,hu⟩:=xt hm;unfold nj;simp only [hm,bR,az,RE hu rfl,if_true,RD];cases av:l.findIdx? fun e=>e.2.1==k with
 | none=>rw [WI av]
 | some j=>
  obtain ⟨e,h1,ad,aD⟩:=RF av;rw [aD];have:(mapOf kk enc l)[j]?=some (e.1,.int kk e.2.1,enc e.2.2):=by simp [mapOf,h1]
  simp only [this];rfl
theorem RH {h:I} {i:Nat} {l:List (Nat×Int×α)} {cl:Nat} {k:Int} {a:α} {v:V} (hm:eL P t=some (c4,h3,.int kk)) (az:h.get i=.map (mapOf kk enc l) cl) (aH:v=enc a) :
  vB P t (.map i) (.int kk k) v h=some (h.set i (.map (mapOf kk enc (eM cl l k a)) (nq cl l k))):=by
 subst aH;obtain ⟨_,hu⟩:=xt hm;unfold vB nq;simp only [hm,az,RE hu rfl,if_true,RD];cases av:l.findIdx? fun e=>e.2.1==k with
 | none=>
  rw [WI av,RG av];simp [mapOf]
 | some j=>
  obtain ⟨e,h1,ad,aD⟩:=RF av;have:(mapOf kk enc l)[j]?=some (e.1,.int kk e.2.1,enc e.2.2):=by simp [mapOf,h1]
  rw [aD];simp only [this,avQ,pk,nS];have aa:Instr.sameBits 10000 (.int kk e.2.1) (.int kk k)=true:=by rw [ad];simp [Instr.sameBits]
  rw [if_pos aa,WJ av];rfl
end
def eA (es:List (Nat×V×V)) (cl:Nat):Prop:=(∀ e ∈ es,e.1<cl)∧(es.map (·.1)).Nodup
theorem eA.nil (cl:Nat):eA [] cl:=⟨by simp,by simp⟩
theorem eA.snoc {es:List (Nat×V×V)} {cl:Nat} (h:eA es cl) (k v:V):eA (es++[(cl,k,v)]) (cl+1):=by
 refine ⟨fun e he=>?_,?_⟩
 ·rcases avs.1 he with he | he
  ·have:=h.1 e he;omega
  ·simp at he;subst he;simp
 ·rw [List.map_append,List.nodup_append];refine ⟨h.2,by simp,fun a aP b al=>?_⟩
  obtain ⟨e,he,rfl⟩:=MF.1 aP;have:=h.1 e he;simp at al;omega
theorem M4 {r m cl:Nat} {seen:List Nat} {es:List (Nat×V×V)} {h:I} {d:Option Tmp} {K:e7} {f:ak} (aL:h.get r=.iter m cl seen cl) (hm:h.get m=.map es cl) (aa:eA es cl)
  (aK:nk es seen=[]→@jm K (f.put d (.tuple [.bool false])) h)
  (h1:∀ e ∈ nk es seen,@jm K (f.put d (.tuple [.bool true,e.2.1,e.2.2])) (h.set r (.iter m cl (seen++[e.1]) cl))):@MX (Ak (.ptr r 0) h) d K f:=by
 unfold Ak;simp only [aL,hm];have eh:¬((!seen.isEmpty&&!es.isEmpty&&es.all (fun e=>decide (cl≤e.1)))=true):=by
  intro U;simp only [VW,Bool.not_eq_true',avh,decide_eq_true_eq] at U;cases es with
  | nil=>simp at U
  | cons e r=>
   have ad:=U.2 e (by simp)
   have aD:=aa.1 e (by simp)
   omega
 rw [if_neg eh];unfold MX;intro v h' fJ;rcases avs.1 fJ with fJ | fJ
 ·split at fJ
  ·rename_i dr;simp at fJ;obtain ⟨rfl,rfl⟩:=fJ;refine aK ?_;cases aw:nk es seen with
   | nil=>rfl
   | cons e r=>
    have fJ:e ∈ nk es seen:=by rw [aw];simp
    have ad:=avh.1 dr e fJ;have aD:=aa.1 e (List.mem_filter.1 fJ).1;simp at ad;omega
  ·simp at fJ
 ·obtain ⟨e,he,heq⟩:=MF.1 fJ;simp at heq;obtain ⟨rfl,rfl⟩:=heq;exact h1 e he
theorem M5 {r m cl:Nat} {seen:List Nat} {es:List (Nat×V×V)} {h:I} {e:Nat×V×V} (aL:h.get r=.iter m cl (seen++[e.1]) cl) (hm:h.get m=.map es cl) (aa:eA es cl) (he:e ∈ es) :
  Gh (.ptr r 0) h=some (.tuple [e.2.1,e.2.2]):=by
 unfold Gh;have aw:(seen++[e.1]).getLast?=some e.1:=by simp
 simp only [aL,hm,aw,if_true];have av:es.find? (fun x=>x.1==e.1)=some e:=by
  have ad:=aa.2;clear hm aa
  induction es with
  | nil=>simp at he
  | cons a es ih=>
   rw [avX];rw [au9,List.nodup_cons] at ad;rcases IN.1 he with rfl | gG
   ·simp
   ·have:a.1≠e.1:=fun U=>ad.1 (by rw [U];exact MF.2 ⟨e,gG,rfl⟩)
    rw [show (a.1==e.1)=false by simp [this]]
    exact ih gG ad.2
 rw [av];rfl
theorem M6 {es:List (Nat×V×V)} {seen:List Nat} {e:Nat×V×V} (he:e ∈ nk es seen):(nk es (seen++[e.1])).length<(nk es seen).length:=by
 unfold nk at *;have h1:(es.filter fun x=>!(seen++[e.1]).contains x.1)=(es.filter fun x=>!seen.contains x.1).filter fun x=>x.1 !=e.1:=by
  rw [List.filter_filter]
  congr 1
  funext x
  by_cases h1:seen.contains x.1=true
  ·simp at h1;simp [h1]
  ·by_cases ad:x.1=e.1
   ·simp [ad]
   ·simp at h1;simp [h1,ad]
 rw [h1];have:=List.length_filter_lt_length_iff_exists (p:=fun x:Nat×V×V=>x.1 !=e.1) (l:=es.filter fun x=>!seen.contains x.1);exact this.2 ⟨e,he,by simp⟩
theorem M7 {P:Program} {t:TypeId} {q:TypeId×TypeId×TypeDesc} {i:Nat} {h:I} {es:List (Nat×V×V)} {cl:Nat} (hm:eL P t=some q) (az:h.get i=.map es cl):Gg P t (.map i) h=some (.ptr h.n 0,h.push (.iter i cl [] cl)):=by
 unfold Gg;simp [hm,az]
theorem ajK {P:Program} {t:TypeId} {h:I}:HL P t none h=some (.map h.n,h.push (.map [] 0)):=nr rfl
def sT (w:World):Ren:={ ren:=fun _=>none,frz:=fun b=>match w.heap[b]? with | some (.cells c _ _)=>some c | _=>none }
def xE:I:={ n:=0,get:=fun _=>.dead,glob:=fun _=>none }
theorem WK {w:World} {b:Nat} {c:Array Value} {e:TypeId} {ho:Nat×Nat} (h:w.heap[b]?=some (.cells c e ho)):(sT w).frz b=some c:=by simp [sT,h]
theorem WL (w:World):aR (sT w) w.heap.size w xE w:=by
 refine ⟨⟨fun _ _=>rfl,fun _ _ _ _ _ h=>by simp [xE] at h,fun _=>trivial,fun b arr al=>?_,fun g cs az=>by simp [xE] at az,BY _⟩,hn.refl _ _⟩
 simp only [sT] at al;split at al
 ·rename_i c e ho ab;simp at al;subst al;exact ⟨e,ho,ab⟩
 ·cases al
theorem af.calls {P:Program} {bG:FuncId} {args:List V} {v:V} {a:Value} (ay:af P bG args xE fun r _=>r=v) (aH:nS v=some a) {w:World}
  {args':Array Value} (aP:aX (sT w) args args'.toList):Calls P bG args' w fun e w'=>e=.returned a∧Below w.heap.size w w' :=
 (ay (sT w) w.heap.size w w args' (WL w) aP).mono fun e w' U=>by
  rcases U with ⟨ρ',r,c0,h',he,BD,hw,_,eC⟩ | ⟨_,_,_,_,_,_,_,bL⟩
  ·subst eC;rw [yO BD aH] at he;exact ⟨he,hw.below.below⟩
  ·exact bL.elim
def oe (ops:Array Oper):Nat→Nat→Nat→Bool
 | 0,_,_=>false
 | n+1,k,i=>match ops[k]? with
  | some o=>o.after.any fun e=>Region.binds .any e&&(e.on==i||oe ops n e.on i)
  | none=>false
def Down (ops:Array Oper) (listed:Array Bool):Prop:=∀ k o,ops[k]?=some o→listed.getD k false=true→∀ e ∈ o.after,Region.binds .any e=true→listed.getD e.on false=true
theorem RI {ops:Array Oper} {listed:Array Bool} (bf:Down ops listed):∀ (n k i:Nat),(∀ o,ops[k]?=some o→∀ e ∈ o.after,Region.binds .any e=true→listed.getD e.on false=true)→oe ops n k i=true→listed.getD i false=true
 | 0,k,i,_,h=>by simp [oe] at h
 | n+1,k,i,hk,h=>by
  unfold oe at h;cases aN:ops[k]? with
  | none=>simp [aN] at h
  | some o=>
   simp only [aN] at h;obtain ⟨j,aV,U⟩:=Array.any_eq_true.1 h;simp only [VW,avY,beq_iff_eq] at U;have hm:o.after[j] ∈ o.after:=Array.getElem_mem aV;have h1:=hk o aN _ hm U.1;rcases U.2 with ad | ad
   ·rw [←ad];exact h1
   ·exact RI bf n _ i (fun o' gY e he al=>bf _ o' gY h1 e he al) ad
theorem Down.add {ops:Array Oper} {listed:Array Bool} (bf:Down ops listed) {i:Nat} (aL:i ∈ Region.ready .any ops listed):Down ops (listed.setIfInBounds i true):=by
 obtain ⟨_,o,aN,dr⟩:=mem_ready.1 aL;intro k o' gY hk e he al;by_cases o0:k=i
 ·subst o0;rw [aN] at gY;obtain rfl:o=o':=by simpa using gY
  exact getD_set_true (dr e he al)
 ·rw [getD_set_ne false (Ne.symm o0)] at hk;exact getD_set_true (bf k o' gY hk e he al)
def rW (P:Program) (ops:Array Oper) (es:List Nat) (K E:ak→I→Prop):Nat→Array Bool→ak→I→Prop
 | 0,listed,f,h=>Region.ready .any ops listed=[]∧K f h
 | n+1,listed,f,h=>(Region.ready .any ops listed=[]→K f h) ∧
  ∀ i ∈ Region.ready .any ops listed,∀ o,ops[i]?=some o →
   if es.contains i then (match hr ops.toList o.guard f with
    | some true=>hV P o (fun bO h'=>rW P ops es K E n (listed.setIfInBounds i true) bO h') E f h
    | some false=>rW P ops es K E n (listed.setIfInBounds i true) (f.put o.dst (.tuple [])) h
    | none=>False)
   else ∃ v,gp P ops.toList h o v f∧rW P ops es K E n (listed.setIfInBounds i true) (f.put o.dst v) h
theorem DB {P:Program} {n:Nat} {ops:Array Oper} {es:List Nat} (aY:ops.toList.all (fun o=>sQ n o.dst)=true) {ρ0:Ren} {B:Nat} {aJ:World} {Q:cw→ak→I→Prop} :
  ∀ (m:Nat) (listed:Array Bool) (f:ak) (h:I) (ρ:Ren) (a:Act) (w:World),ρ0.le ρ→aR ρ B aJ h w→eg ρ n f a→rW P ops es (Q .normal) (Q .panic) m listed f h→wpAnyIn Fence.wide 0 P .any ops (lq n B aJ ρ0 Q) m listed a w
 | 0,listed,f,h,ρ,a,w,hle,hw,av,ab=>⟨ab.1,⟨ρ,.normal,f,h,trivial,hw,av,hle,ab.2⟩⟩
 | m+1,listed,f,h,ρ,a,w,hle,hw,av,ab=>by
  refine ⟨fun aK=>⟨ρ,.normal,f,h,trivial,hw,av,hle,ab.1 aK⟩,fun i hi=>?_⟩;unfold wpOpIn;cases aN:ops[i]? with
  | none=>
   obtain ⟨_,o,Pq,_⟩:=mem_ready.1 hi;rw [aN] at Pq;cases Pq
  | some o=>
   simp only;have c2:=ab.2 i hi o aN;have bf:sQ n o.dst=true:=(avh.1 aY) o (by rw [Array.mem_toList_iff];exact Array.mem_of_getElem? aN)
   by_cases he:es.contains i=true
   ·rw [if_pos he] at c2;cases pV:hr ops.toList o.guard f with
    | none=>simp [pV] at c2
    | some b=>
     rw [MU av ops o pV];cases b with
     | true=>
      simp only [pV] at c2;simp only [if_true];exact Rr te.wide bf hle hw av c2 (fun ρ' bO h' ig w' xF bX b8 aG=>DB aY m _ bO h' ρ' ig w' xF bX b8 aG)
       (fun ρ' bO h' ig w' iv xF bX b8 nE bL=>⟨ρ',.panic,bO,h',nE,bX,b8,xF,bL⟩)
     | false=>
      simp only [pV] at c2;simp only [avO,if_false];exact ⟨fun _ _=>trivial,DB aY m _ _ h ρ _ w hle hw (av.put (HX _) o.dst bf) c2⟩
   ·rw [if_neg he] at c2;obtain ⟨v,bp,iw⟩:=c2;rcases bp with ⟨pV,aa⟩ | ⟨pV,rfl⟩
    ·rw [MU av ops o pV];simp only [if_true];refine Rr te.wide (next:=fun bO h'=>bO=f.put o.dst v∧h'=h) (exc:=fun _ _=>False) bf hle hw av ?_ (fun ρ' bO h' ig w' xF bX b8 aG=>?_) (fun _ _ _ _ _ _ _ _ _ _ he=>he.elim)
     ·unfold hV;rcases aa with aa | ⟨g,args,aa,aU⟩
      ·rw [aa];exact ⟨rfl,rfl⟩
      ·rw [aa];exact aU.e.mono (fun r h' ⟨aC,bd⟩=>⟨by rw [aC],bd⟩) fun _ h=>h
     ·obtain ⟨rfl,rfl⟩:=aG;exact DB aY m _ _ _ ρ' ig w' xF bX b8 iw
    ·rw [MU av ops o pV];simp only [avO,if_false];exact ⟨fun _ _=>trivial,DB aY m _ _ h ρ _ w hle hw (av.put (HX _) o.dst bf) iw⟩
section
variable {P:Program} {ops:Array Oper} {es:List Nat} {K E:ak→I→Prop}
def vE (ops:Array Oper) (es:List Nat):Nat→Nat→Array Bool→Bool
 | 0,_,listed=>(Region.ready .any ops listed).isEmpty
 | fuel+1,k,listed=>(if es.contains k then Region.ready .any ops listed==[k]
   else (Region.ready .any ops listed).contains k&&Region.free .any ops listed k&&es.all fun e=>listed.getD e true||oe ops ops.size e k)&&vE ops es fuel (k+1) (listed.setIfInBounds k true)
theorem ajL {o:Oper} {K ux E:ak→I→Prop} (hk:∀ f h,K f h→ux f h) {f:ak} {h:I} (aa:hV P o K E f h):hV P o ux E f h:=by
 unfold hV at *;split at aa
 ·exact hk _ _ aa
 ·exact aa.mono (fun _ _ h=>hk _ _ h) fun _ h=>h
 ·exact fun v h' hm=>hk _ _ (aa v h' hm)
 ·exact aa
 ·exact aa.mono (fun _ _ h=>hk _ _ h)
 ·exact aa.elim
theorem WM {listed:Array Bool} {i e:Nat} (h:listed.getD e true=true):(listed.setIfInBounds i true).getD e true=true:=by
 by_cases pT:i=e
 ·subst pT;by_cases aM:i<listed.size
  ·simp [aM]
  ·simp [aM]
 ·rw [getD_set_ne true pT];exact h
theorem M8:∀ (l:List Oper) (k:Nat) (listed:Array Bool) (f:ak) (h:I),(∀ j,l[j]?=ops[k+j]?)→Down ops listed →
  vE ops es l.length k listed=true→lr P ops.toList es K E k l f h→rW P ops es K E l.length listed f h
 | [],_,_,_,_,_,_,cr,ab=>⟨by simpa [vE] using cr,ab⟩
 | o::l,k,listed,f,h,aw,hx,cr,ab=>by
  have aK:ops[k]?=some o:=by simpa using (aw 0).symm
  have fX:∀ j,l[j]?=ops[k+1+j]?:=fun j=>by have:=aw (j+1);simpa [Nat.add_assoc,Nat.add_comm 1 j] using this
  simp only [ave,vE,VW] at cr;obtain ⟨ay,Ie⟩:=cr;unfold lr at ab;by_cases he:es.contains k=true
  ·rw [if_pos he] at ay ab;have aL:Region.ready .any ops listed=[k]:=by simpa using ay
   refine ⟨fun h=>(by rw [aL] at h;cases h),fun i hi o' gY=>?_⟩
   rw [aL] at hi;obtain rfl:i=k:=by simpa using hi
   rw [aK] at gY;obtain rfl:o=o':=by simpa using gY
   rw [if_pos he];have xG:=hx.add (show i ∈ Region.ready .any ops listed by rw [aL];simp)
   cases hw:hr ops.toList o.guard f with
   | none=>simp [hw] at ab
   | some b=>
    cases b with
    | true=>
     simp only [hw] at ab⊢;exact ajL (fun bO h' hk=>M8 l (i+1) _ bO h' fX xG Ie hk) ab
    | false=>
     simp only [hw] at ab⊢;exact M8 l (i+1) _ _ h fX xG Ie ab
  ·rw [if_neg he] at ay ab;simp only [VW] at ay;obtain ⟨⟨aL,av⟩,RJ⟩:=ay;have gJ:k ∈ Region.ready .any ops listed:=by simpa using aL
   have:∃ v,gp P ops.toList h o v f∧lr P ops.toList es K E (k+1) l (f.put o.dst v) h:=by
    split at ab
    ·rename_i hw;obtain ⟨v,aa,ab⟩:=ab;exact ⟨v,.inl ⟨hw,aa⟩,ab⟩
    ·rename_i hw;exact ⟨.tuple [],.inr ⟨hw,rfl⟩,ab⟩
    ·exact ab.elim
   obtain ⟨v,bp,cq⟩:=this;have Ig:∀ e ∈ es,listed.getD e true=true∨oe ops ops.size e k=true:=fun e rI=>by
    have:=avh.1 RJ e rI;simpa using this
   refine y7 aK (by simpa using he) Ig l.length listed f h hx (Region.free_spec aK av) gJ bp (fun e h1=>h1)
    (M8 l (k+1) _ _ h fX (hx.add gJ) Ie cq)
where
 y7 {i:Nat} {lX:Oper} {v:V} (hi:ops[i]?=some lX) (pT:es.contains i=false) {zA:Array Bool} (Ig:∀ e ∈ es,zA.getD e true=true∨oe ops ops.size e i=true)
   (fuel:Nat) (listed:Array Bool) (f:ak) (h:I) (hx:Down ops listed) (kH:∀ j gK,ops[j]?=some gK→j≠i→listed.getD j true=false→(∀ e ∈ gK.after,Region.binds .any e=true→e.on≠i)→lX.apart ops gK=true)
   (aL:i ∈ Region.ready .any ops listed) (bp:gp P ops.toList h lX v f) (rX:∀ e,zA.getD e true=true→listed.getD e true=true)
   (H:rW P ops es K E fuel (listed.setIfInBounds i true) (f.put lX.dst v) h):rW P ops es K E (fuel+1) listed f h:=by
  induction fuel generalizing listed f with
  | zero=>
   refine ⟨fun h=>(by rw [h] at aL;cases aL),fun j aV o aN=>?_⟩
   by_cases cL:j=i
   ·subst cL;rw [hi] at aN;obtain rfl:lX=o:=by simpa using aN
    rw [if_neg (by rw [pT];exact aAC)]
    exact ⟨v,bp,H⟩
   ·have:=ready_mono aV cL;rw [H.1] at this;cases this
  | succ fuel ih=>
   refine ⟨fun h=>(by rw [h] at aL;cases aL),fun j aV gK nF=>?_⟩
   by_cases cL:j=i
   ·subst cL;rw [hi] at nF;obtain rfl:lX=gK:=by simpa using nF
    rw [if_neg (by rw [pT];exact aAC)]
    exact ⟨v,bp,H⟩
   ·have o3:=(mem_ready.1 aL).1;obtain ⟨rY,Ih,xH,dr⟩:=mem_ready.1 aV;rw [nF] at xH;obtain rfl:gK=Ih:=by simpa using xH
    have BK:¬es.contains j=true:=fun ay=>by
     rcases Ig j (by simpa using ay) with h1 | h1
     ·rw [rX j h1] at rY;cases rY
     ·have ad:=RI hx _ j i (fun o' gY e he al=>by
                                   rw [nF] at gY;obtain rfl:gK=o':=by simpa using gY
                                   exact dr e he al) h1
      rcases awr i listed.size with h' | h'
      ·simp [h'] at o3 ad;rw [o3] at ad;cases ad
      ·simp [axP h'] at ad
    have hH:=H.2 j (ready_mono aV cL) gK nF;rw [if_neg BK] at hH⊢;obtain ⟨u,Ii,iw⟩:=hH;have vF:∀ e ∈ gK.after,Region.binds .any e=true→e.on≠i:=fun e he al heq=>by
     have h1:=dr e he al;have aK:=o3;rw [heq] at h1;rcases awr i listed.size with h' | h'
     ·simp [h'] at aK h1;rw [aK] at h1;cases h1
     ·simp [axP h'] at h1
    obtain ⟨cb,a2,a3⟩:=Oper.apart_spec (kH j gK nF cL rY vF);refine ⟨u,Ii.Au lX.dst v cb,?_⟩;have uy:∀ k ok,ops[k]?=some ok→k≠i→(listed.setIfInBounds j true).getD k true=false →
      (∀ e ∈ ok.after,Region.binds .any e=true→e.on≠i)→lX.apart ops ok=true:=fun k ok hk o0 o3 eh=>by
     refine kH k ok hk o0 ?_ eh;by_cases BL:j=k
     ·subst BL;exact rY
     ·rw [getD_set_ne true BL] at o3;exact o3
    refine ih (listed.setIfInBounds j true) (f.put gK.dst u) (hx.add aV) uy (ready_mono aL (Ne.symm cL)) (bp.put gK.dst u a3) (fun e h1=>WM (rX e h1)) ?_;rw [Array.setIfInBounds_comm _ _ cL,←ak.put_comm f v u a2];exact iw
end
theorem aZ.drawn {P:Program} {n id:Nat} {ops:Array Oper} (es:List Nat) (hm:P.follows .mixedOrders=true) (cr:vE ops es ops.size 0 (awb ops.size false)=true) (aY:ops.toList.all (fun o=>sQ n o.dst)=true) {Q:cw→ak→I→Prop} {f:ak} {h:I}
  (ab:lr P ops.toList es (Q .normal) (Q .panic) 0 ops.toList f h):aZ P n (.region id ops true) Q f h:=by
 intro ρ B aJ a w hw av;refine wpIn_wide.1 (wpIn_region_any (n:=0) hm (DB (ρ0:=ρ) (es:=es) aY _ _ f h ρ a _ (Ren.le.refl ρ) hw.drew av ?_));have:=M8 (P:=P) (es:=es) ops.toList 0 (awb ops.size false) f h (by simp) (fun k o aN hk=>by simp [Array.getElem?_replicate] at hk;split at hk<;>simp_all) (by simpa using cr) ab
 simpa using this
def BM (P:Program) (ol:List Oper) (es:List Nat) (k:Nat) (l:List Oper) [K:e7] (f:ak) (h:I):Prop:=lr P ol es K.go K.exc k l f h
theorem aZ.rZ {P:Program} {n id:Nat} {ops:Array Oper} (es:List Nat) (hm:P.follows .mixedOrders=true) (cr:vE ops es ops.size 0 (awb ops.size false)=true) (aY:ops.toList.all (fun o=>sQ n o.dst)=true) {Q:rQ} {f:ak} {h:I}
  (ab:@BM P ops.toList es 0 ops.toList (.out Q) f h):aZ P n (.region id ops true) Q.go f h:=aZ.drawn es hm cr aY ab
section
variable {P:Program} {ol l:List Oper} {es:List Nat} {k:Nat} {K:e7} {f:ak} {h:I} {d:Option Tmp} {ty:TypeId} {pos:String} {cp:Array Edge} {op:Op} {g:Option (Nat×Bool)}
theorem Gt:@BM P ol es k [] K f h=@jm K f h:=nr rfl
theorem xI:@jm (e7.rest P ol es k l K) f h=@BM P ol es k l K f h:=nr rfl
theorem Ij:e7.exc (e7.rest P ol es k l K) f h=e7.exc K f h:=nr rfl
theorem ajM {o:Oper} {h:I} {f:ak} {X E:ak→I→Prop} (aH:∀ v h',ej P o (f.eval h) h=some (.val v h')→h'=h) (aa:hV P o X E f h) (BN:∀ g a,ej P o (f.eval h) h≠some (.call g a)) (WN:∀ l,ej P o (f.eval h) h≠some (.alts l)) (Po:ej P o (f.eval h) h≠some .panic) (WO:∀ l a,ej P o (f.eval h) h≠some (.round l a)) :
  ∃ v,BF P o h f v∧X (f.put o.dst v) h:=by
 unfold hV at aa;cases he:ej P o (f.eval h) h with
 | none=>simp [he] at aa
 | some s=>
  cases s with
  | val v h'=>simp only [he] at aa;have:=aH v h' he;subst this;exact ⟨v,.inl he,aa⟩
  | call g a=>exact absurd he (BN g a)
  | alts l=>exact absurd he (WN l)
  | panic=>exact absurd he Po
  | round l a=>exact absurd he (WO l a)
def nV:Op→Bool
 | .move _ | .assign _ | .pick .. | .build .. | .load .. | .nilCheck _ | .binOp .. | .unOp .. | .makeInterface .. | .makeFunc .. | .slice .. | .fieldAddr .. | .field .. | .indexAddr .. | .index .. | .lookup .. | .entry _ | .typeAssert .. | .extract ..=>true
 | .convert s d _=>s !=d
 | .call ⟨.builtin .len,_,_⟩ | .call ⟨.builtin .min,_,_⟩ | .call ⟨.builtin .max,_,_⟩=>true
 | _=>false
theorem RK {x:Option V} {h:I} {s:Step} (aV:gS x h=some s):∃ v,s=.val v h:=by
 unfold gS at aV;split at aV
 ·simp at aV;exact ⟨_,aV.symm⟩
 ·cases aV
theorem i6 {o:Oper} (hi:nV o.op=true) {bz:Operand→V} {s:Step} (he:ej P o bz h=some s):∃ v,s=.val v h:=by
 obtain ⟨dst,op,type,pos,after,guard⟩:=o;unfold ej at he;cases op<;>simp [nV] at hi<;>simp only at he
 case move x=>simp at he;exact ⟨_,he.symm⟩
 case assign x=>simp at he;exact ⟨_,he.symm⟩
 case pick c a b=>split at he<;>simp at he;exact ⟨_,he.symm⟩
 case nilCheck x=>split at he<;>simp at he<;>exact ⟨_,he.symm⟩
 case makeInterface t x=>split at he<;>simp at he;exact ⟨_,he.symm⟩
 case makeFunc fn xs ys=>simp at he;exact ⟨_,he.symm⟩
 case extract t k=>split at he<;>first | exact RK he | simp at he
 case convert a b x=>
  cases ay:re P a b (bz x) h with
  | some v=>
   rw [ay] at he;exact ⟨v,(Option.some.inj he).symm⟩
  | none=>
   rw [ay] at he;have:yW P a b (bz x) h=none:=by
    unfold yW;split
    ·rw [if_neg (fun e=>hi e.1)]
    ·rfl
   rw [this] at he;cases he
 case call c=>
  have al:c.callee=.builtin .len∨c.callee=.builtin .min∨c.callee=.builtin .max:=by
   split at hi<;>simp_all
  have Ik:∀ b,c.callee=.builtin b→(b=.len∨b=.min∨b=.max)→∃ v,s=.val v h:=fun b al ay=>by
   unfold kP at he;rw [al] at he;have gG:(match qj P b c.argTypes.toList type (xx c.args) (c.args.toList.map bz) h with | some (v,h')=>some (Step.val v h') | none=>none)=some s:=by
    rcases ay with rfl | rfl | rfl<;>exact he
   cases aP:qj P b c.argTypes.toList type (xx c.args) (c.args.toList.map bz) h with
   | none=>rw [aP] at gG;cases gG
   | some p=>
    obtain ⟨v,h'⟩:=p;rw [aP] at gG;simp at gG;subst gG;have:h'=h:=by
     unfold qj at aP;rcases ay with rfl | rfl | rfl
     ·split at aP
      ·split at aP<;>simp at aP;exact aP.2.symm
      all_goals first
       | (simp at *;done)
       | (
         split at aP
         ·split at aP<;>simp at aP;exact aP.2.symm
         ·simp at aP)
     all_goals
      split at aP
      all_goals first
       | (simp at *;done)
       | (
         split at aP
         ·split at aP<;>simp at aP;exact aP.2.symm
         ·simp at aP)
    subst this;exact ⟨v,rfl⟩
  rcases al with al | al | al
  ·exact Ik _ al (.inl rfl)
  ·exact Ik _ al (.inr (.inl rfl))
  ·exact Ik _ al (.inr (.inr rfl))
 all_goals exact RK he
def BO (w:Option Bool) (o:Oper) (P:Program) (ol:List Oper) (es:List Nat) (k:Nat) (l:List Oper) [K:e7] (f:ak) (h:I):Prop :=
 match w with
 | some true=>@eG P o (e7.rest P ol es (k+1) l K) f h
 | some false=>@BM P ol es (k+1) l K (f.put o.dst (.tuple [])) h
 | none=>False
theorem ajN {o:Oper} (hi:(nV o.op||es.contains k)=true) (aa:@BO (hr ol o.guard f) o P ol es k l K f h):@BM P ol es k (o::l) K f h:=by
 unfold BM lr;unfold BO at aa;by_cases he:es.contains k=true
 ·rw [if_pos he];cases hw:hr ol o.guard f with
  | none=>simp [hw] at aa
  | some b=>cases b<;>simp only [hw] at aa⊢<;>exact aa
 ·rw [if_neg he];have dk:nV o.op=true:=by
   simp only [avY] at hi;exact hi.resolve_right he
  cases hw:hr ol o.guard f with
  | none=>simp [hw] at aa
  | some b=>
   cases b with
   | false=>simp only [hw] at aa⊢;exact aa
   | true=>
    simp only [hw] at aa⊢;have hy:hV P o (fun bO h'=>lr P ol es K.go K.exc (k+1) l bO h') K.exc f h:=aa;exact ajM (fun v h' he=>by obtain ⟨u,hu⟩:=i6 dk he;cases hu;rfl) hy
     (fun g a he=>by obtain ⟨u,hu⟩:=i6 dk he;cases hu) (fun l he=>by obtain ⟨u,hu⟩:=i6 dk he;cases hu) (fun he=>by obtain ⟨u,hu⟩:=i6 dk he;cases hu) (fun l a he=>by obtain ⟨u,hu⟩:=i6 dk he;cases hu)
theorem xJ {o:Oper} (hi:(nV o.op||es.contains k)=true):@BM P ol es k (o::l) K f h=@BO (hr ol o.guard f) o P ol es k l K f h:=by
 refine propext ⟨fun az=>?_,ajN hi⟩;unfold BM lr at az;unfold BO;by_cases he:es.contains k=true
 ·rw [if_pos he] at az;cases hw:hr ol o.guard f with
  | none=>simp [hw] at az
  | some b=>cases b<;>simp only [hw] at az⊢<;>exact az
 ·rw [if_neg he] at az;have dk:nV o.op=true:=by
   simp only [avY] at hi;exact hi.resolve_right he
  cases hw:hr ol o.guard f with
  | none=>simp [hw] at az
  | some b=>
   cases b with
   | false=>simp only [hw] at az⊢;exact az
   | true=>
    simp only [hw] at az⊢;obtain ⟨v,ab,hk⟩:=az;show hV P o (fun bO h'=>lr P ol es K.go K.exc (k+1) l bO h') K.exc f h;unfold hV;rcases ab with ab | ⟨g,a,ab,_⟩
    ·rw [ab];exact hk
    ·obtain ⟨u,hu⟩:=i6 (h:=h) dk ab;cases hu
theorem xK {o:Oper}:@BO (some true) o P ol es k l K f h=@eG P o (e7.rest P ol es (k+1) l K) f h:=nr rfl
theorem xL:hr ol none f=some true:=nr rfl
end
end Go.Proofs.YtemdgidnhgcafaaGreatDoor.Ab
