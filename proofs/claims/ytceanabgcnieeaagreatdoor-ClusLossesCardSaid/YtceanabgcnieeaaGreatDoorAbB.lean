/-
  Rules of the machine on abstract states. Conditions: as each theorem says.
-/
import Derived.Test.YtceanabgcnieeaaGreatDoorAbA
import Derived.LoopN
import Derived.ScopeJumps
import Derived.Deep.Quiet
import Derived.OrdersIn
import Derived.RangeFuncIn
import Derived.RangeFuncLeaves
import Derived.RangeFuncRecord
import Derived.IntWalk
import Derived.SizedLaws
import Derived.Laws.StructEq
import Derived.Sort.Row
import Derived.Sort.Grow
import Derived.Sort.Statements
set_option linter.unusedVariables false
set_option linter.unusedSimpArgs false
namespace Go.Proofs.YtceanabgcnieeaaGreatDoor.Ab
open Go Go.RowKit
class Dm where
 prop:Prop
def vC [p:Dm]:Prop:=p.prop
theorem aR {p:Prop} (h:p):@vC ⟨p⟩:=h
inductive ey where
 | normal
 | exit (id:Nat)
 | goto (l:Nat)
 | ret
 | panic
def w7 (gT:List PanicEntry):Prop:=∃ t v',gT=[{ v:=.iface t v',recovered:=false }]
def lL:ey→Exit→Prop
 | .normal,.normal=>True
 | .exit i,.exit j=>i=j
 | .goto i,.goto j=>i=j
 | .ret,.ret=>True
 | .panic,.panic gT=>w7 gT
 | _,_=>False
def cd (P:Program) (f:FuncId) (args:List V) (h:I) (R:V→I→Prop) (E:I→Prop):Prop :=
 ∀ (ρ:Ren) (B:Nat) (aG w:World) (args':Array Value),aM ρ B aG h w→aQ ρ args args'.toList →
  Calls P f args' w fun e w'=>(∃ (ρ':Ren) (r:V) (r':Value) (U:I),e=.returned r'∧ax ρ' r r'∧aM ρ' B aG U w'∧ρ.le ρ'∧R r U) ∨
   (∃ (ρ':Ren) (gT:List PanicEntry) (U:I),e=.panicked gT∧w7 gT∧aM ρ' B aG U w'∧ρ.le ρ'∧E U)
def ah (P:Program) (f:FuncId) (args:List V) (h:I) (R:V→I→Prop):Prop:=cd P f args h R fun _=>False
def jl (P:Program) (l:Nat) (args:List V) (h:I) (R:V→I→Prop):Prop :=
 ∀ (ρ:Ren) (B:Nat) (aG w:World) (args':Array Value) (b c:Nat),ρ.ren l=some (b,c)→aM ρ B aG h w→aQ ρ args args'.toList →
  ∃ fn tmps assign body,(Instr.yield b args').run P w=.ok (.round b fn tmps assign body) w∧RoundIn Fence.wide 0 P b fn tmps assign body w fun e w'=>
   ∃ (ρ':Ren) (r:V) (r':Value) (U:I),e=.returned r'∧ax ρ' r r'∧aM ρ' B aG U w'∧ρ.le ρ'∧R r U
theorem jl.mono {P:Program} {l:Nat} {args:List V} {h:I} {R dA:V→I→Prop} (al:jl P l args h R) (aq:∀ r U,R r U→dA r U):jl P l args h dA :=
 fun ρ B aG w args' b c ar hw aL=>let ⟨fn,tmps,assign,body,h1,ab⟩:=al ρ B aG w args' b c ar hw aL
  ⟨fn,tmps,assign,body,h1,ab.mono fun _ _ ⟨ρ',r,r',U,aK,a6,dB,hj,j5⟩=>⟨ρ',r,r',U,aK,a6,dB,hj,aq _ _ j5⟩⟩
structure pn (F:Fence):Prop where
 fn:∀ f,F.fn f
 depth:F.depth=none
 calls:∀ {n:Nat} {P:Program} {f:FuncId} {args:Array Value} {w:World} {R:Ending→World→Prop},Calls P f args w R→CallsIn F n P f args w R
 round:∀ {n:Nat} {P:Program} {l:Nat} {f:FuncId} {tmps:Array Value} {a b:Code} {w:World} {R:Ending→World→Prop},RoundIn Fence.wide 0 P l f tmps a b w R→RoundIn F n P l f tmps a b w R
theorem pn.wide:pn Fence.wide:=⟨fun _=>trivial,rfl,fun h=>callsIn_wide.2 h,fun h=>⟨trivial,fun c cs _=>h.2 c cs (room_wide _)⟩⟩
theorem pn.inRound (l:Nat):pn (Fence.wide.inRound l):=⟨fun _=>trivial,rfl,fun {n P f args w R} h=>show CallsIn Fence.wide n P f args w R from callsIn_wide.2 h,fun h=>⟨trivial,fun c cs _=>h.2 c cs (room_wide _)⟩⟩
theorem cd.mono {P:Program} {f:FuncId} {args:List V} {h:I} {R dA:V→I→Prop} {E w8:I→Prop} (al:cd P f args h R E) (aq:∀ r U,R r U→dA r U) (he:∀ U,E U→w8 U):cd P f args h dA w8 :=
 fun ρ B aG w args' hw aL=>(al ρ B aG w args' hw aL).mono fun _ _ ad=>by
  rcases ad with ⟨ρ',r,r',U,h1,ab,aI,h4,h5⟩ | ⟨ρ',gT,U,h1,ab,aI,h4,h5⟩
  ·exact .inl ⟨ρ',r,r',U,h1,ab,aI,h4,aq _ _ h5⟩
  ·exact .inr ⟨ρ',gT,U,h1,ab,aI,h4,he _ h5⟩
theorem ah.mono {P:Program} {f:FuncId} {args:List V} {h:I} {R dA:V→I→Prop} (al:ah P f args h R) (aq:∀ r U,R r U→dA r U):ah P f args h dA :=
 cd.mono al aq fun _ h=>h
theorem ah.e {P:Program} {f:FuncId} {args:List V} {h:I} {R:V→I→Prop} {E:I→Prop} (al:ah P f args h R):cd P f args h R E :=
 cd.mono al (fun _ _ h=>h) fun _ h=>h.elim
def jm (n:Nat) (B:Nat) (aG:World) (ρ:Ren) (Q:ey→ak→I→Prop) (e:Exit) (a:Act) (w:World):Prop :=
 ∃ (ρ':Ren) (x:ey) (f:ak) (h:I),lL x e∧aM ρ' B aG h w∧df ρ' n f a∧ρ.le ρ'∧Q x f h
theorem jm.le {n B:Nat} {aG:World} {ρ ρ1:Ren} (hle:ρ.le ρ1) {Q:ey→ak→I→Prop} {e:Exit} {a:Act} {w:World} (h:jm n B aG ρ1 Q e a w):jm n B aG ρ Q e a w :=
 let ⟨ρ',x,f,U,af,hw,aB,aw,ae⟩:=h
 ⟨ρ',x,f,U,af,hw,aB,hle.trans aw,ae⟩
def aZ (P:Program) (n:Nat) (c:Code) (Q:ey→ak→I→Prop) (f:ak) (h:I):Prop :=
 ∀ (ρ:Ren) (B:Nat) (aG:World) (a:Act) (w:World),aM ρ B aG h w→df ρ n f a→c.wp P (jm n B aG ρ Q) a w
theorem aZ.mono {P:Program} {n:Nat} {c:Code} {Q BU:ey→ak→I→Prop} {f:ak} {h:I} (J:aZ P n c Q f h) (ae:∀ e f h,Q e f h→BU e f h):aZ P n c BU f h :=
 fun ρ B aG a w hw aB=>wp_mono (J ρ B aG a w hw aB) fun _ _ _ ⟨ρ',x,bE,U,af,bo,bG,aw,ct⟩=>⟨ρ',x,bE,U,af,bo,bG,aw,ae _ _ _ ct⟩
def aV (r:V) (h:I) (ck:V) (ab:I):Prop :=
 ∀ (ρ:Ren) (B:Nat) (aG w:World) (r':Value),aM ρ B aG h w→ax ρ r r'→∃ ρ',ρ.le ρ'∧aM ρ' B aG ab w∧ax ρ' ck r'
theorem cd.cast {P:Program} {f:FuncId} {args:List V} {h:I} {R:V→I→Prop} {E:I→Prop} (al:cd P f args h (fun r U=>∃ ck ab,aV r U ck ab∧R ck ab) E):cd P f args h R E :=
 fun ρ B aG w args' hw aL=>(al ρ B aG w args' hw aL).mono fun _ _ ad=>by
  rcases ad with ⟨ρ',r,r',U,h1,ab,aI,h4,ck,ev,vD,ed⟩ | ad
  ·obtain ⟨ρ2,hle,eS,w9⟩:=vD ρ' B aG _ r' aI ab
   exact .inl ⟨ρ2,ck,r',ev,h1,w9,eS,h4.trans hle,ed⟩
  ·exact .inr ad
theorem ah.cast {P:Program} {f:FuncId} {args:List V} {h:I} {R:V→I→Prop} (al:ah P f args h (fun r U=>∃ ck ab,aV r U ck ab∧R ck ab)):ah P f args h R:=cd.cast al
def andThen (K:ak→I→Prop) (Q:ey→ak→I→Prop):ey→ak→I→Prop
 | .normal,f,h=>K f h
 | e,f,h=>Q e f h
theorem aZ.seq {P:Program} {n:Nat} {x y:Code} {Q:ey→ak→I→Prop} {f:ak} {h:I} (J:aZ P n x (andThen (aZ P n y Q) Q) f h):aZ P n (.seq x y) Q f h:=by
 intro ρ B aG a w hw aB
 refine wp_seq (wp_mono (J ρ B aG a w hw aB) fun e du w' ⟨ρ',x,bE,U,af,bo,bG,aw,ct⟩=>?_)
 cases x<;>cases e<;>simp only [lL] at af
 ·exact wp_mono (ct ρ' B aG du w' bo bG) fun _ _ _ az=>az.le aw
 ·exact ⟨ρ',_,bE,U,by exact af,bo,bG,aw,ct⟩
 ·exact ⟨ρ',_,bE,U,by exact af,bo,bG,aw,ct⟩
 ·exact ⟨ρ',.ret,bE,U,trivial,bo,bG,aw,ct⟩
 ·exact ⟨ρ',.panic,bE,U,by exact af,bo,bG,aw,ct⟩
theorem aZ.cond {P:Program} {n:Nat} {c:Operand} {x y:Code} {Q:ey→ak→I→Prop} {f:ak} {h:I} {t:Bool} (al:f.eval h c=.bool t)
  (J:aZ P n (if t then x else y) Q f h):aZ P n (.cond c x y) Q f h:=by
 intro ρ B aG a w hw aB
 have aN:=aB.eval hw.heap c
 rw [al] at aN
 exact wp_cond (tZ aN rfl) (J ρ B aG a w hw aB)
def BV (id:Nat) (Q:ey→ak→I→Prop):ey→ak→I→Prop
 | .exit j,f,h=>if j=id then Q .normal f h else Q (.exit j) f h
 | e,f,h=>Q e f h
theorem aZ.block {P:Program} {n id:Nat} {c:Code} {Q:ey→ak→I→Prop} {f:ak} {h:I} (J:aZ P n c (BV id Q) f h):aZ P n (.block id c) Q f h:=by
 intro ρ B aG a w hw aB
 refine wp_block (wp_mono (J ρ B aG a w hw aB) fun e du w' ⟨ρ',x,bE,U,af,bo,bG,aw,ct⟩=>?_)
 cases x<;>cases e<;>simp only [lL] at af
 ·exact ⟨ρ',.normal,bE,U,trivial,bo,bG,aw,ct⟩
 ·subst af
  simp only [BV] at ct
  simp only [Exit.inBlock]
  split
  ·rename_i he
   simp only [he,if_true] at ct
   exact ⟨ρ',.normal,bE,U,trivial,bo,bG,aw,ct⟩
  ·rename_i he
   simp only [he,if_false] at ct
   exact ⟨ρ',.exit _,bE,U,rfl,bo,bG,aw,ct⟩
 ·exact ⟨ρ',.goto _,bE,U,af,bo,bG,aw,ct⟩
 ·exact ⟨ρ',.ret,bE,U,trivial,bo,bG,aw,ct⟩
 ·exact ⟨ρ',.panic,bE,U,af,bo,bG,aw,ct⟩
theorem aZ.skip {P:Program} {n:Nat} {Q:ey→ak→I→Prop} {f:ak} {h:I} (ae:Q .normal f h):aZ P n .skip Q f h :=
 fun ρ _ _ _ _ hw aB=>wp_skip ⟨ρ,.normal,f,h,trivial,hw,aB,Ren.le.refl ρ,ae⟩
theorem aZ.label {P:Program} {n l:Nat} {Q:ey→ak→I→Prop} {f:ak} {h:I} (ae:Q .normal f h):aZ P n (.label l) Q f h :=
 fun ρ _ _ _ _ hw aB=>wp_label ⟨ρ,.normal,f,h,trivial,hw,aB,Ren.le.refl ρ,ae⟩
theorem aZ.exit {P:Program} {n id:Nat} {Q:ey→ak→I→Prop} {f:ak} {h:I} (ae:Q (.exit id) f h):aZ P n (.exit id) Q f h :=
 fun ρ _ _ _ _ hw aB=>wp_exit ⟨ρ,.exit id,f,h,rfl,hw,aB,Ren.le.refl ρ,ae⟩
theorem aZ.goto {P:Program} {n l:Nat} {Q:ey→ak→I→Prop} {f:ak} {h:I} (ae:Q (.goto l) f h):aZ P n (.goto l) Q f h :=
 fun ρ _ _ _ _ hw aB=>wp_goto ⟨ρ,.goto l,f,h,rfl,hw,aB,Ren.le.refl ρ,ae⟩
theorem aZ.ret {P:Program} {n:Nat} {Q:ey→ak→I→Prop} {f:ak} {h:I} (ae:Q .ret f h):aZ P n .ret Q f h :=
 fun ρ _ _ _ _ hw aB=>wp_ret ⟨ρ,.ret,f,h,trivial,hw,aB,Ren.le.refl ρ,ae⟩
theorem aZ.cu {P:Program} {n:Nat} {c:Code} {Q:ey→ak→I→Prop} {f:ak} {h:I} {α:Type} (YV:α→ak→I→Prop) (μ:α→Nat) (yR:α) (ay:YV yR f h)
  (round:∀ x f h,YV x f h→aZ P n c (andThen (fun bE U=>@vC ⟨∃ y,YV y bE U∧μ y<μ x⟩) Q) f h):aZ P n (.loop c) Q f h:=by
 intro ρ B aG a w hw aB
 have key:∀ m x f h,YV x f h→μ x<m→∀ ρ1:Ren,ρ.le ρ1→∀ a w,aM ρ1 B aG h w→df ρ1 n f a→Code.rounds P c (jm n B aG ρ Q) m a w:=by
  intro m
  induction m with
  | zero=>intro x f h _ hm;omega
  | succ m ih=>
   intro x f h pA hm ρ1 hle a w hw aB
   rw [rounds_succ]
   refine wp_mono (round x f h pA ρ1 B aG a w hw aB) fun e du w' ⟨ρ',bO,bE,U,af,bo,bG,aw,ct⟩=>?_
   cases bO<;>cases e<;>simp only [lL] at af
   ·obtain ⟨y,aX,aT⟩:=ct
    exact ih y bE U aX (by omega) ρ' (hle.trans aw) du w' bo bG
   ·exact ⟨ρ',.exit _,bE,U,af,bo,bG,hle.trans aw,ct⟩
   ·exact ⟨ρ',.goto _,bE,U,af,bo,bG,hle.trans aw,ct⟩
   ·exact ⟨ρ',.ret,bE,U,trivial,bo,bG,hle.trans aw,ct⟩
   ·exact ⟨ρ',.panic,bE,U,af,bo,bG,hle.trans aw,ct⟩
 exact wp_loop_rounds (μ yR+1) (key _ yR f h ay (Nat.lt_succ_self _) ρ (Ren.le.refl ρ) a w hw aB)
def NE (ops:List Oper) (f:ak) (j:Nat):Option Bool :=
 match (ops[j]?).bind (·.dst) with
 | some d=>match f d with
  | .bool b=>some b
  | _=>none
 | none=>none
def ej (ops:List Oper) (g:Option (Nat×Bool)) (f:ak):Option Bool :=
 match g with
 | none=>some true
 | some (j,want)=>match (ops[j]?).bind (·.dst) with
  | some d=>match f d with
   | .top=>none
   | .bool b=>some (b==want)
   | _=>some false
  | none=>some false
theorem Hu {ρ:Ren} {n:Nat} {f:ak} {a:Act} (aB:df ρ n f a) (ops:Array Oper) (o:Oper) {b:Bool} (ar:ej ops.toList o.guard f=some b):Region.wanted o (yielded ops a.tmps)=b:=by
 unfold Region.wanted
 unfold ej at ar
 cases aE:o.guard with
 | none=>simp [aE] at ar;simp [ar]
 | some p=>
  obtain ⟨j,want⟩:=p
  simp only [aE] at ar⊢
  have e:ops.toList[j]?=ops[j]?:=by simp
  rw [e] at ar
  unfold yielded
  cases a7:(ops[j]?).bind (·.dst) with
  | none=>simp [a7] at ar;subst ar;rfl
  | some d=>
   simp only [a7] at ar⊢
   have aN:=aB.tmps d
   cases bM:a.tmps[d]? with
   | none=>
    have hu:a.tmps.getD d undef=undef:=by simp [bM]
    rw [hu] at aN
    generalize f d=x at aN ar
    unfold undef at aN
    cases aN with
    | top=>simp at ar
    | tuple J af=>simp at ar;subst ar;simp [bM]
   | some u=>
    have hu:a.tmps.getD d undef=u:=by simp [bM]
    rw [hu] at aN
    generalize f d=x at aN ar
    cases aN<;>simp at ar<;>subst ar<;>simp [bM]
def eL (P:Program) (o:Oper) (next exc:ak→I→Prop) (f:ak) (h:I):Prop :=
 match cG P o (f.eval h) h with
 | some (.val v U)=>next (f.put o.dst v) U
 | some (.call g args)=>cd P g args h (fun r U=>next (f.put o.dst r) U) (fun U=>exc f U)
 | some (.alts l)=>∀ v U,(v,U) ∈ l→next (f.put o.dst v) U
 | some .panic=>exc f h
 | some (.round l args)=>jl P l args h (fun r U=>next (f.put o.dst r) U)
 | none=>False
def il (P:Program) (ops:List Oper):List Oper→(ak→I→Prop)→(ak→I→Prop)→ak→I→Prop
 | [],K,_,f,h=>K f h
 | o::rest,K,E,f,h=>match ej ops o.guard f with
  | some true=>eL P o (il P ops rest K E) E f h
  | some false=>il P ops rest K E (f.put o.dst (.tuple [])) h
  | none=>False
def codeOk (n:Nat):Code→Bool
 | .region _ ops _=>ops.toList.all fun o=>j3 n o.dst
 | .seq a b=>codeOk n a&&codeOk n b
 | .cond c a b=>codeOk n a&&codeOk n b
 | .block _ b=>codeOk n b
 | .loop b=>codeOk n b
 | .scope b=>codeOk n b
 | .rangeFunc ..=>false
 | .refuse _=>false
 | _=>true
theorem ZQ {P:Program} {o:Oper} {ba:Operand→V} {h:I} {s:Step} (J:cG P o ba h=some s) (ro:Option Nat) (cg:Operand→Value):o.semAt ro cg=execOp cg o :=
 Oper.semAt_eq ro cg o fun c al=>by unfold cG at J;rw [al] at J;simp at J
theorem LS {F:Fence} (eM:pn F) {rm:Nat} {P:Program} {n:Nat} {o:Oper} (a7:j3 n o.dst=true) {ρ0 ρ:Ren} {B:Nat} {aG w:World} {f:ak} {h:I} {a:Act} {next exc:ak→I→Prop}
  {next':Act→World→Prop} {BU:Exit→Act→World→Prop} (hle:ρ0.le ρ) (hw:aM ρ B aG h w) (aB:df ρ n f a) (ae:eL P o next exc f h)
  (oR:∀ ρ f h a w,ρ0.le ρ→aM ρ B aG h w→df ρ n f a→next f h→next' a w) (Dn:∀ ρ f h a w gT,ρ0.le ρ→aM ρ B aG h w→df ρ n f a→w7 gT→exc f h→BU (.panic gT) a w) :
  o.wpIn F rm P a w next' BU:=by
 unfold eL at ae
 unfold Oper.wpIn
 refine ⟨fun f _=>eM.fn f,?_⟩
 have bN:=aB.eval hw.heap
 have JX:F.depth.isSome=true→1≤rm:=fun ad=>by rw [eM.depth] at ad;cases ad
 have fin:∀ v U,hX P (execOp a.eval o) ρ B aG w v U→next (f.put o.dst v) U→Oper.uponIn F rm P o a next' BU ((execOp a.eval o).run P w):=fun v U aX aJ=>by
  obtain ⟨ρ',v',w',ch,aN,bo,dq⟩:=aX
  rcases ch with ch | ⟨ch,rfl⟩
  ·rw [ch,Oper.uponIn_value]
   exact oR ρ' _ _ _ _ (hle.trans dq) bo ((aB.mono dq).put aN o.dst a7) aJ
  ·rw [ch,Oper.uponIn_skip]
   exact oR ρ' _ _ _ _ (hle.trans dq) bo ((aB.mono dq).put aN o.dst a7) aJ
 cases he:cG P o (f.eval h) h with
 | none=>simp [he] at ae
 | some s=>
  rw [ZQ he]
  cases s with
  | val v U=>simp only [he] at ae;exact fin v U (ZL he hw bN) ae
  | alts l=>
   simp only [he] at ae
   obtain ⟨v,U,hm,aX⟩:=ZO he hw bN
   exact fin v U aX (ae v U hm)
  | panic=>
   simp only [he] at ae
   obtain ⟨t,v',ch⟩:=ZP he hw bN
   rw [ch,Oper.uponIn_panic]
   exact Dn ρ f h a w _ hle hw aB ⟨t,v',rfl⟩ ae
  | call g args=>
   simp only [he] at ae
   obtain ⟨args',ch,aL⟩:=ZM he hw bN
   rw [ch,Oper.uponIn_enter]
   refine ⟨JX,(eM.calls (ae ρ B aG w args' hw aL)).mono fun e w' ad=>?_⟩
   rcases ad with ⟨ρ',r,r',U,sJ,aN,bo,dq,ed⟩ | ⟨ρ',gT,U,sJ,n5,bo,dq,dH⟩
   ·subst sJ
    exact oR ρ' _ _ _ _ (hle.trans dq) bo ((aB.mono dq).put aN o.dst a7) ed
   ·subst sJ
    exact Dn ρ' f U a w' gT (hle.trans dq) bo (aB.mono dq) n5 dH
  | round l args=>
   simp only [he] at ae
   obtain ⟨args',r8,cc,kg,ch,aL⟩:=ZN he hw bN
   obtain ⟨fn,tmps,assign,body,aX,aq⟩:=ae ρ B aG w args' r8 cc kg hw aL
   rw [ch,aX,Oper.uponIn_round]
   refine ⟨JX,(eM.round aq).mono fun e w' ad=>?_⟩
   obtain ⟨ρ',r,r',U,sJ,aN,bo,dq,ed⟩:=ad
   subst sJ
   exact oR ρ' _ _ _ _ (hle.trans dq) bo ((aB.mono dq).put aN o.dst a7) ed
theorem Hv {F:Fence} (eM:pn F) {rm:Nat} {P:Program} {n:Nat} {ops:Array Oper} (aU:ops.toList.all (fun o=>j3 n o.dst)=true) {Q:ey→ak→I→Prop} {ρ0:Ren} {B:Nat} {aG:World} :
  ∀ (l:List Oper) (k:Nat),l=ops.toList.drop k→∀ (ρ:Ren) (f:ak) (h:I) (a:Act) (w:World),ρ0.le ρ→aM ρ B aG h w→df ρ n f a →
   il P ops.toList l (Q .normal) (Q .panic) f h→wpOpsIn F rm P ops (jm n B aG ρ0 Q) (List.range' k l.length) a w
 | [],k,aw,ρ,f,h,a,w,hle,hw,aB,ae=>by
  simp only [List.length_nil,List.range'_zero,wpOpsIn]
  exact ⟨ρ,.normal,f,h,trivial,hw,aB,hle,ae⟩
 | o::rest,k,aw,ρ,f,h,a,w,hle,hw,aB,ae=>by
  have hk:ops.toList[k]?=some o:=by
   have:=congrArg (·[0]?) aw
   simpa using this.symm
  have fh:rest=ops.toList.drop (k+1):=by
   have:=congrArg List.tail aw
   simpa [List.tail_drop] using this
  have av:ops[k]?=some o:=by simpa using hk
  have a7:j3 n o.dst=true:=(List.all_eq_true.1 aU) o (List.mem_of_getElem? hk)
  simp only [List.length_cons,List.range'_succ,wpOpsIn,av]
  unfold il at ae
  cases kX:ej ops.toList o.guard f with
  | none=>simp [kX] at ae
  | some b=>
   rw [Hu aB ops o kX]
   cases b with
   | true=>
    simp only [kX] at ae
    simp only [if_true]
    exact LS eM a7 hle hw aB ae (fun ρ f h a w hle hw aB aJ=>Hv eM aU rest (k+1) fh ρ f h a w hle hw aB aJ)
     (fun ρ f h a w gT hle hw aB n5 dH=>⟨ρ,.panic,f,h,n5,hw,aB,hle,dH⟩)
   | false=>
    simp only [kX] at ae
    simp only [Bool.false_eq_true,if_false]
    exact ⟨fun f _=>eM.fn f,Hv eM aU rest (k+1) fh ρ _ _ _ _ hle hw (aB.put (Dl _) o.dst a7) ae⟩
theorem aZ.region {P:Program} {n id:Nat} {ops:Array Oper} (aU:ops.toList.all (fun o=>j3 n o.dst)=true) {Q:ey→ak→I→Prop} {f:ak} {h:I}
  (ae:il P ops.toList ops.toList (Q .normal) (Q .panic) f h):aZ P n (.region id ops false) Q f h:=by
 intro ρ B aG a w hw aB
 refine wpIn_wide.1 (wpIn_region (n:=0) ?_)
 have:=Hv pn.wide (rm:=0) (P:=P) aU (ρ0:=ρ) ops.toList 0 (by simp) ρ f h a w (Ren.le.refl ρ) hw aB ae
 rwa [Array.length_toList,←List.range_eq_range'] at this
def Pure (P:Program) (fid:FuncId) (args:List V) (h:I) (v:V):Prop:=ah P fid args h fun r U=>r=v∧U=h
def vE (P:Program) (o:Oper) (h:I) (f:ak) (v:V):Prop :=
 cG P o (f.eval h) h=some (.val v h)∨∃ g args,cG P o (f.eval h) h=some (.call g args)∧Pure P g args h v
def jn (P:Program) (ops:List Oper) (es:List Nat) (K E:ak→I→Prop):Nat→List Oper→ak→I→Prop
 | _,[],f,h=>K f h
 | k,o::rest,f,h=>if es.contains k then (match ej ops o.guard f with
   | some true=>eL P o (fun bE U=>jn P ops es K E (k+1) rest bE U) E f h
   | some false=>jn P ops es K E (k+1) rest (f.put o.dst (.tuple [])) h
   | none=>False)
  else (match ej ops o.guard f with
   | some true=>∃ v,vE P o h f v∧jn P ops es K E (k+1) rest (f.put o.dst v) h
   | some false=>jn P ops es K E (k+1) rest (f.put o.dst (.tuple [])) h
   | none=>False)
def nA (P:Program) (n:Nat):Code→(ey→ak→I→Prop)→ak→I→Prop
 | .skip,Q,f,h=>Q .normal f h
 | .region id ops false,Q,f,h=>il P ops.toList ops.toList (Q .normal) (Q .panic) f h
 | .region id ops true,Q,f,h=>aZ P n (.region id ops true) Q f h
 | .seq a b,Q,f,h=>nA P n a (andThen (fun f h=>nA P n b Q f h) Q) f h
 | .cond c a b,Q,f,h=>match f.eval h c with
  | .bool true=>nA P n a Q f h
  | .bool false=>nA P n b Q f h
  | _=>False
 | .block id b,Q,f,h=>nA P n b (BV id Q) f h
 | .loop b,Q,f,h=>aZ P n (.loop b) Q f h
 | .scope b,Q,f,h=>aZ P n (.scope b) Q f h
 | .exit id,Q,f,h=>Q (.exit id) f h
 | .goto l,Q,f,h=>Q (.goto l) f h
 | .label _,Q,f,h=>Q .normal f h
 | .ret,Q,f,h=>Q .ret f h
 | _,_,_,_=>False
theorem yS {P:Program} {n:Nat}:∀ (c:Code) (Q:ey→ak→I→Prop) (f:ak) (h:I),codeOk n c=true→nA P n c Q f h→aZ P n c Q f h
 | .skip,Q,f,h,_,ae=>.skip ae
 | .region id ops false,Q,f,h,aU,ae=>.region (by simpa [codeOk] using aU) ae
 | .region id ops true,Q,f,h,_,ae=>ae
 | .seq a b,Q,f,h,aU,ae=>by
  simp only [codeOk,Bool.and_eq_true] at aU
  refine .seq ((yS a _ f h aU.1 ae).mono fun e bE U ad=>?_)
  cases e with
  | normal=>exact yS b Q bE U aU.2 ad
  | _=>exact ad
 | .cond c a b,Q,f,h,aU,ae=>by
  simp only [codeOk,Bool.and_eq_true] at aU
  unfold nA at ae
  split at ae
  ·rename_i al;exact .cond al (yS a Q f h aU.1 ae)
  ·rename_i al;exact .cond al (yS b Q f h aU.2 ae)
  ·exact ae.elim
 | .block id b,Q,f,h,aU,ae=>.block (yS b _ f h (by simpa [codeOk] using aU) ae)
 | .loop b,Q,f,h,_,ae=>ae
 | .scope b,Q,f,h,_,ae=>ae
 | .exit id,Q,f,h,_,ae=>.exit ae
 | .goto l,Q,f,h,_,ae=>.goto ae
 | .label _,Q,f,h,_,ae=>.label ae
 | .ret,Q,f,h,_,ae=>.ret ae
 | .rangeFunc ..,Q,f,h,aU,_=>by simp [codeOk] at aU
 | .refuse _,Q,f,h,aU,_=>by simp [codeOk] at aU
def dQ (args:List V):ak:=fun t=>args.getD t .top
def lM (P:Program) (f:ak) (h:I):ResultVar→Option V
 | .tmp t=>some (f t)
 | .cell a t=>i6 P t (f a) h
def iZ (P:Program) (rs:List ResultVar) (f:ak) (h:I):Option V :=
 match rs with
 | [r]=>lM P f h r
 | _=>match rs.mapM (lM P f h) with
  | some vs=>some (.tuple vs)
  | none=>none
def sK (P:Program) (fn:Func) (R:V→I→Prop) (E:I→Prop):ey→ak→I→Prop
 | .normal,f,h | .ret,f,h=>match iZ P fn.results.toList f h with
  | some r=>R r h
  | none=>False
 | .panic,f,h=>E h
 | _,_,_=>False
theorem ZR {P:Program} {ρ:Ren} {B n:Nat} {aG w:World} {f:ak} {h:I} {a:Act} (hw:aM ρ B aG h w) (aB:df ρ n f a) {g:ResultVar→Sem Value}
  (mE:∀ t,g (.tmp t)=pure (a.tmps.getD t undef)) (rJ:∀ c t,g (.cell c t)=(do loadVar t (←asAddr (a.tmps.getD c undef)))) {r:ResultVar} {v:V} (aq:lM P f h r=some v) :
  ∃ v',(g r).run P w=.ok v' w∧ax ρ v v':=by
 cases r with
 | tmp t=>
  obtain rfl:f t=v:=by simpa [lM] using aq
  rw [mE]
  exact ⟨_,Sem.run_pure ..,aB.tmps t⟩
 | cell c t=>
  simp only [lM] at aq
  obtain ⟨⟨an4,aL⟩,v',ch,aN⟩:=PZ aq hw (aB.tmps c)
  refine ⟨v',?_,aN⟩
  rw [rJ]
  rw [aL] at ch⊢
  simpa [Instr.loadAt,Instr.sureAddr,asAddr] using ch
theorem LU {P:Program} {ρ:Ren} {B n:Nat} {aG w:World} {f:ak} {h:I} {a:Act} (hw:aM ρ B aG h w) (aB:df ρ n f a) {g:ResultVar→Sem Value}
  (mE:∀ t,g (.tmp t)=pure (a.tmps.getD t undef)) (rJ:∀ c t,g (.cell c t)=(do loadVar t (←asAddr (a.tmps.getD c undef)))):∀ (rs:List ResultVar) (vs:List V),rs.mapM (lM P f h)=some vs →
  vs.length=rs.length∧∃ fP,(rs.mapM g).run P w=.ok fP w∧aQ ρ vs fP
 | [],vs,hm=>by
  simp at hm
  subst hm
  exact ⟨rfl,[],by simp,.nil ρ⟩
 | r::rs,vs,hm=>by
  simp only [List.mapM_cons,Option.bind_eq_bind,Option.pure_def] at hm
  cases aq:lM P f h r with
  | none=>simp [aq] at hm
  | some v=>
   cases Dp:rs.mapM (lM P f h) with
   | none=>simp [aq,Dp] at hm
   | some us=>
    simp [aq,Dp] at hm
    subst hm
    obtain ⟨v',h1,ab⟩:=ZR hw aB mE rJ aq
    obtain ⟨aw,Qw,aI,h4⟩:=LU hw aB mE rJ rs us Dp
    refine ⟨by simp [aw],v'::Qw,?_,.cons ab h4⟩
    simp only [List.mapM_cons,Sem.run_bind,h1,aI,Result.andThen_ok,Sem.run_pure]
def yT (tmps:Array Value):ResultVar→Sem Value
 | .tmp t=>pure (tmps.getD t undef)
 | .cell a t=>do loadVar t (←asAddr (tmps.getD a undef))
theorem ZS (fn:Func) (tmps:Array Value):results fn tmps=(do let vs ←fn.results.mapM (yT tmps);pure (if h:vs.size=1 then vs[0] else .tuple vs)):=rfl
theorem Hw {P:Program} {ρ:Ren} {B n:Nat} {aG w:World} {f:ak} {h:I} {a:Act} {fn:Func} (hw:aM ρ B aG h w) (aB:df ρ n f a) {r:V} (jX:iZ P fn.results.toList f h=some r) :
  ∃ r',(results fn a.tmps).run P w=.ok r' w∧ax ρ r r':=by
 rw [ZS,Array.mapM_eq_mapM_toList]
 unfold iZ at jX
 split at jX
 ·rename_i rv heq
  have hm:[rv].mapM (lM P f h)=some [r]:=by simp [jX]
  rw [heq]
  obtain ⟨_,fP,h1,ab⟩:=LU hw aB (g:=yT a.tmps) (fun _=>rfl) (fun _ _=>rfl) [rv] [r] hm
  obtain ⟨v',k1,rfl,aN,bM⟩:=ab.dF
  obtain rfl:=bM.eq_nil
  refine ⟨v',?_,aN⟩
  simp only [Sem.run_bind,Sem.run_map,h1,Result.andThen_ok]
  simp
 ·rename_i bc
  split at jX
  case h_2=>cases jX
  rename_i vs lS
  obtain rfl:_=r:=by simpa using jX
  obtain ⟨oS,fP,h1,ab⟩:=LU hw aB (g:=yT a.tmps) (fun _=>rfl) (fun _ _=>rfl) _ vs lS
  have jY:fP.length≠1:=by
   rw [←ab.1,oS]
   intro al
   obtain ⟨r,aq⟩:=List.length_eq_one_iff.1 al
   exact bc r aq
  refine ⟨.tuple fP.toArray,?_,.tuple ab.arr.1 ab.arr.2⟩
  simp only [Sem.run_bind,Sem.run_map,h1,Result.andThen_ok]
  simp [jY]
theorem Hx {ρ:Ren} {n:Nat} {args:List V} {args':Array Value} (aL:aQ ρ args args'.toList) (hlen:args.length≤n) (a7:ρ.dfr=[]):df ρ n (dQ args) { tmps:=args'++Array.replicate (n - args'.size) undef,defers:=[] }:=by
 have bn:args'.size=args.length:=by have:=aL.1;simpa using this.symm
 refine ⟨fun t=>?_,by simp;omega,a7.symm⟩
 simp only [dQ]
 by_cases bM:t<args.length
 ·obtain ⟨v',h1,ab⟩:=aL.get (List.getElem?_eq_getElem bM)
  have uO:args'[t]?=some v':=by simpa using h1
  simp only [List.getD,List.getElem?_eq_getElem bM,Option.getD_some]
  have:(args'++Array.replicate (n - args'.size) undef).getD t undef=v':=by
   rw [Array.getD_eq_getD_getElem?,Array.getElem?_append_left (by omega),uO]
   rfl
  rw [this]
  exact ab
 ·simp only [List.getD,List.getElem?_eq_none (show args.length≤t by omega),Option.getD_none]
  exact .top _
theorem cd.enter {P:Program} {fid:FuncId} {fn:Func} {c:Code} (iD:P.funcs[fid]?=some fn) (ar:fn.body=some c) (aU:codeOk fn.ntmps c=true) {args:List V} (hlen:args.length≤fn.ntmps)
  {h:I} {R:V→I→Prop} {E:I→Prop} (ae:nA P fn.ntmps c (sK P fn R E) (dQ args) h):cd P fid args h R E:=by
 intro ρ B aG w args' hw aL
 refine calls_of_wp iD ar ?_
 have fin:∀ (ρ':Ren) (f:ak) (U:I) (du:Act) (w':World),Ren.le { ρ with dfr:=[] } ρ'→aM ρ' B aG U w'→df ρ' fn.ntmps f du→(match iZ P fn.results.toList f U with | some r=>R r U | none=>False) →
   du.defers=[]∧∃ v,(results fn du.tmps).run P w'=.ok v w'∧((∃ (ρ':Ren) (r:V) (r':Value) (U:I),Ending.returned v=.returned r'∧ax ρ' r r'∧aM ρ' B aG U w'∧ρ.le ρ'∧R r U) ∨
    (∃ (ρ':Ren) (gT:List PanicEntry) (U:I),Ending.returned v=.panicked gT∧w7 gT∧aM ρ' B aG U w'∧ρ.le ρ'∧E U)):=by
  intro ρ' f U du w' aw bo bG ct
  refine ⟨bG.defers.trans aw.dfr,?_⟩
  cases jX:iZ P fn.results.toList f U with
  | none=>simp [jX] at ct
  | some r=>
  simp only [jX] at ct
  obtain ⟨r',h1,ab⟩:=Hw bo bG jX
  exact ⟨r',h1,.inl ⟨_,r,r',U,rfl,ab.dfr ρ.dfr,bo.dfr ρ.dfr,aw.mU,ct⟩⟩
 refine wp_mono (yS c _ _ h aU ae { ρ with dfr:=[] } B aG _ w (hw.dfr []) (Hx (aL.dfr []) hlen rfl)) fun e du w' ⟨ρ',x,f,U,af,bo,bG,aw,ct⟩=>?_
 cases x<;>cases e<;>simp only [lL] at af
 ·exact fin ρ' f U du w' aw bo bG ct
 ·exact ct.elim
 ·exact ct.elim
 ·exact fin ρ' f U du w' aw bo bG ct
 ·exact ⟨bG.defers.trans aw.dfr,.inr ⟨_,_,U,rfl,af,bo.dfr ρ.dfr,aw.mU,ct⟩⟩
theorem nr {α:Sort _} {a b:α} (h:a=b):a=b:=h
class inductive sL where
 | fn (run:ey→ak→I→Prop)
 | seq (P:Program) (n:Nat) (b:Code) (Q:sL)
 | kp (id:Nat) (Q:sL)
def sL.go:sL→ey→ak→I→Prop
 | .fn r=>r
 | .seq P n b Q=>andThen (fun f h=>nA P n b Q.go f h) Q.go
 | .kp id Q=>BV id Q.go
class inductive fq where
 | fn (run exc:ak→I→Prop)
 | out (Q:sL)
 | ops (P:Program) (ol l:List Oper) (K:fq)
 | rest (P:Program) (ol:List Oper) (es:List Nat) (k:Nat) (l:List Oper) (K:fq)
def fq.exc:fq→ak→I→Prop
 | .fn _ e=>e
 | .out Q=>Q.go .panic
 | .ops _ _ _ K=>K.exc
 | .rest _ _ _ _ _ K=>K.exc
def fq.go:fq→ak→I→Prop
 | .fn r _=>r
 | .out Q=>Q.go .normal
 | .ops P ol l K=>il P ol l K.go K.exc
 | .rest P ol es k l K=>jn P ol es K.go K.exc k l
def jo (P:Program) (n:Nat) (c:Code) [Q:sL] (f:ak) (h:I):Prop:=nA P n c Q.go f h
def hl (P:Program) (ol l:List Oper) [K:fq] (f:ak) (h:I):Prop:=il P ol l K.go K.exc f h
def dI (P:Program) (o:Oper) [K:fq] (f:ak) (h:I):Prop:=eL P o K.go K.exc f h
def fI (x:ey) [Q:sL] (f:ak) (h:I):Prop:=Q.go x f h
def hG [K:fq] (f:ak) (h:I):Prop:=K.go f h
def Hy (v:V) [p:Dm] [q:Dm]:Prop:=match v with | .bool true=>p.prop | .bool false=>q.prop | _=>False
section
variable {P:Program} {n id:Nat} {ops:Array Oper} {l:List Oper} {Q:sL} {K:fq} {f:ak} {h:I}
theorem ZT:@jo P n .skip Q f h=@fI .normal Q f h:=nr rfl
theorem ZU:@jo P n (.region id ops false) Q f h=@hl P ops.toList ops.toList (.out Q) f h:=nr rfl
theorem ZV {a b:Code}:@jo P n (.seq a b) Q f h=@jo P n a (.seq P n b Q) f h:=nr rfl
theorem ZW {p q:Dm}:@Hy (.bool true) p q=p.prop:=nr rfl
theorem ZX {p q:Dm}:@Hy (.bool false) p q=q.prop:=nr rfl
theorem ZY {c:Operand} {a b:Code}:@jo P n (.cond c a b) Q f h=@Hy (f.eval h c) ⟨@jo P n a Q f h⟩ ⟨@jo P n b Q f h⟩:=by
 show (match f.eval h c with | .bool true=>nA P n a Q.go f h | .bool false=>nA P n b Q.go f h | _=>False)=_
 unfold Hy
 cases f.eval h c with
 | bool t=>cases t<;>rfl
 | _=>rfl
theorem ZZ {b:Code}:@jo P n (.block id b) Q f h=@jo P n b (.kp id Q) f h:=nr rfl
theorem Z0:@jo P n (.exit id) Q f h=@fI (.exit id) Q f h:=nr rfl
theorem Z1:@jo P n (.goto id) Q f h=@fI (.goto id) Q f h:=nr rfl
theorem Z2:@jo P n (.label id) Q f h=@fI .normal Q f h:=nr rfl
theorem Z3:@jo P n .ret Q f h=@fI .ret Q f h:=nr rfl
theorem Z4 {b:Code}:@jo P n (.loop b) Q f h=aZ P n (.loop b) Q.go f h:=nr rfl
theorem Z5 {b:Code}:@jo P n (.scope b) Q f h=aZ P n (.scope b) Q.go f h:=nr rfl
theorem Z6:@jo P n (.region id ops true) Q f h=aZ P n (.region id ops true) Q.go f h:=nr rfl
theorem Z7 {b:Code}:@fI .normal (.seq P n b Q) f h=@jo P n b Q f h:=nr rfl
theorem Z8 {b:Code} {j:Nat}:@fI (.exit j) (.seq P n b Q) f h=@fI (.exit j) Q f h:=nr rfl
theorem Z9 {b:Code} {j:Nat}:@fI (.goto j) (.seq P n b Q) f h=@fI (.goto j) Q f h:=nr rfl
theorem aaa {b:Code}:@fI .ret (.seq P n b Q) f h=@fI .ret Q f h:=nr rfl
theorem aab:@fI .normal (.kp id Q) f h=@fI .normal Q f h:=nr rfl
theorem aac {j:Nat}:@fI (.exit j) (.kp id Q) f h=if j=id then @fI .normal Q f h else @fI (.exit j) Q f h:=nr rfl
theorem aad:@fI .ret (.kp id Q) f h=@fI .ret Q f h:=nr rfl
theorem aae {x:ey} {Q:ey→ak→I→Prop}:@fI x (.fn Q) f h=Q x f h:=nr rfl
theorem aaf:@hG (.out Q) f h=@fI .normal Q f h:=nr rfl
theorem GE {ol:List Oper}:@hG (.ops P ol l K) f h=@hl P ol l K f h:=nr rfl
theorem aag {K E:ak→I→Prop}:@hG (.fn K E) f h=K f h:=nr rfl
theorem aah {ol:List Oper}:@hl P ol [] K f h=@hG K f h:=nr rfl
theorem Qx {x:ey}:sL.go Q x f h=@fI x Q f h:=nr rfl
theorem aai {K:ak→I→Prop} {Q:ey→ak→I→Prop}:andThen K Q .normal f h=K f h:=nr rfl
theorem aaj {K:ak→I→Prop} {Q:ey→ak→I→Prop}:andThen K Q (.exit id) f h=Q (.exit id) f h:=nr rfl
theorem aak {K:ak→I→Prop} {Q:ey→ak→I→Prop}:andThen K Q .ret f h=Q .ret f h:=nr rfl
theorem gn {c:Code} {Q:ey→ak→I→Prop} (aU:codeOk n c=true) (ae:@jo P n c (.fn Q) f h):aZ P n c Q f h:=yS c Q f h aU ae
theorem ah.aH {fid:FuncId} {fn:Func} {c:Code} (iD:P.funcs[fid]?=some fn) (ar:fn.body=some c) (aU:codeOk fn.ntmps c=true) {args:List V} (hlen:args.length≤fn.ntmps)
  {h:I} {R:V→I→Prop} (ae:@jo P fn.ntmps c (.fn (sK P fn (fun r h=>@vC ⟨R r h⟩) fun _=>False)) (dQ args) h):ah P fid args h R:=cd.enter iD ar aU hlen ae
variable {d:Option Tmp} {ty:TypeId} {pos:String} {b0:Array Edge} {ol:List Oper}
def jq (o:Option V) (d:Option Tmp) [K:fq] (f:ak) (h:I):Prop:=match o with | some v=>K.go (f.put d v) h | none=>False
def oc (o:Option (V×I)) (d:Option Tmp) [K:fq] (f:ak):Prop:=match o with | some (v,h)=>K.go (f.put d v) h | none=>False
def thenS (o:Option I) (d:Option Tmp) [K:fq] (f:ak):Prop:=match o with | some h=>K.go (f.put d .top) h | none=>False
theorem aal {v:V}:@jq (some v) d K f h=@hG K (f.put d v) h:=nr rfl
theorem aam {v:V} {U:I}:@oc (some (v,U)) d K f=@hG K (f.put d v) U:=nr rfl
theorem aan {U:I}:@thenS (some U) d K f=@hG K (f.put d .top) U:=nr rfl
theorem aao {op:Op}:@hl P ol (⟨d,op,ty,pos,b0,none⟩::l) K f h=@dI P ⟨d,op,ty,pos,b0,none⟩ (.ops P ol l K) f h:=nr rfl
def sM:List Oper→Nat→Option Tmp
 | [],_=>none
 | o::_,0=>o.dst
 | _::r,j+1=>sM r j
theorem Hz:∀ (l:List Oper) (j:Nat),sM l j=(l[j]?).bind (·.dst)
 | [],j=>by simp [sM]
 | o::r,0=>by simp [sM]
 | o::r,j+1=>by simp [sM,Hz r j]
def xa (v:V) (o:Oper) (P:Program) (ol l:List Oper) [K:fq] (f:ak) (h:I):Prop :=
 match v,o.guard with
 | .bool c,some (_,b)=>if c=b then @dI P o (.ops P ol l K) f h else @hl P ol l K (f.put o.dst (.tuple [])) h
 | .top,_=>False
 | _,_=>@hl P ol l K (f.put o.dst (.tuple [])) h
theorem aap {op:Op} {j:Nat} {b:Bool}:@hl P ol (⟨d,op,ty,pos,b0,some (j,b)⟩::l) K f h =
  (match sM ol j with | some t=>@xa (f t) ⟨d,op,ty,pos,b0,some (j,b)⟩ P ol l K f h | none=>@hl P ol l K (f.put d (.tuple [])) h):=by
 rw [Hz]
 show il P ol (⟨d,op,ty,pos,b0,some (j,b)⟩::l) K.go K.exc f h=_
 simp only [il,ej]
 cases bM:(ol[j]?).bind (·.dst) with
 | none=>rfl
 | some t=>
  simp only [xa]
  cases aB:f t<;>try rfl
  rename_i c
  simp only
  by_cases al:c=b
  ·subst al;simp only [beq_self_eq_true,if_true];rfl
  ·have:(c==b)=false:=by simp [al]
   simp only [this,if_neg al]
   rfl
theorem aaq {b:Bool} {op:Op} {j:Nat}:@xa (.bool b) ⟨d,op,ty,pos,b0,some (j,b)⟩ P ol l K f h=@dI P ⟨d,op,ty,pos,b0,some (j,b)⟩ (.ops P ol l K) f h:=if_pos rfl
theorem aar {op:Op} {j:Nat}:@xa (.bool true) ⟨d,op,ty,pos,b0,some (j,false)⟩ P ol l K f h=@hl P ol l K (f.put d (.tuple [])) h:=nr rfl
theorem aas {op:Op} {j:Nat}:@xa (.bool false) ⟨d,op,ty,pos,b0,some (j,true)⟩ P ol l K f h=@hl P ol l K (f.put d (.tuple [])) h:=nr rfl
theorem aat {o:Oper} {r:List Oper}:sM (o::r) 0=o.dst:=nr rfl
theorem aau {o:Oper} {r:List Oper} {j:Nat}:sM (o::r) (j+1)=sM r j:=nr rfl
variable {g:Option (Nat×Bool)}
theorem qb {o:Oper} {x:Option V} (he:cG P o (f.eval h) h=eI x h):@dI P o K f h=@jq x o.dst K f h:=by
 unfold dI eL;rw [he]<;>cases x<;>rfl
theorem yU {o:Oper} {x:Option (V×I)} (he:cG P o (f.eval h) h=dV x):@dI P o K f h=@oc x o.dst K f:=by
 unfold dI eL;rw [he]<;>cases x<;>rfl
theorem Qy {o:Oper} {x:Option I} (he:cG P o (f.eval h) h=nN x):@dI P o K f h=@thenS x o.dst K f:=by
 unfold dI eL;rw [he]<;>cases x<;>rfl
theorem aav {x:Operand}:@dI P ⟨d,.move x,ty,pos,b0,g⟩ K f h=@hG K (f.put d (f.eval h x)) h:=nr rfl
theorem aaw {x:Operand}:@dI P ⟨d,.assign x,ty,pos,b0,g⟩ K f h=@hG K (f.put d (f.eval h x)) h:=nr rfl
def BW (c a b:V):Option V:=match c with | .bool t=>some (if t then a else b) | _=>none
theorem aax {c a b:Operand}:@dI P ⟨d,.pick c a b,ty,pos,b0,g⟩ K f h=@jq (BW (f.eval h c) (f.eval h a) (f.eval h b)) d K f h:=by
 unfold dI eL cG BW jq;simp only;cases f.eval h c<;>rfl
theorem aay {a b:V}:BW (.bool true) a b=some a:=nr rfl
theorem aaz {a b:V}:BW (.bool false) a b=some b:=nr rfl
theorem aaA {e:TypeId}:@dI P ⟨d,.alloc e,ty,pos,b0,g⟩ K f h=@oc (vo P e h) d K f:=yU rfl
theorem aaB {e:TypeId} {x:Operand}:@dI P ⟨d,.box e x,ty,pos,b0,g⟩ K f h=@oc (mV e (f.eval h x) h) d K f:=yU rfl
theorem aaC {t:TypeId} {ps:Array (Nat×Operand)}:@dI P ⟨d,.build t ps,ty,pos,b0,g⟩ K f h=@jq (li P t (ps.toList.map fun p=>(p.1,f.eval h p.2))) d K f h:=qb rfl
theorem aaD {t:TypeId} {len:Nat} {ps:Array (Nat×Operand)}:@dI P ⟨d,.buildSlice t len ps,ty,pos,b0,g⟩ K f h=@oc (iA P t len (ps.toList.map fun p=>(p.1,f.eval h p.2)) h) d K f:=yU rfl
theorem aaE {t:TypeId} {a:Operand}:@dI P ⟨d,.load t a,ty,pos,b0,g⟩ K f h=@jq (i6 P t (f.eval h a) h) d K f h:=qb rfl
theorem aaF {t:TypeId} {a x:Operand}:@dI P ⟨d,.store t a x,ty,pos,b0,g⟩ K f h=@thenS (vn P t (f.eval h a) (f.eval h x) h) d K f:=Qy rfl
def sN (x:V):Option V:=match x with | .ptr i o=>some (.ptr i o) | .at cs=>some (.at cs) | .func (.func fid) xs ys=>some (.func (.func fid) xs ys) | _=>none
theorem aaG {i o:Nat}:sN (.ptr i o)=some (.ptr i o):=nr rfl
theorem aaH {x:Operand}:@dI P ⟨d,.nilCheck x,ty,pos,b0,g⟩ K f h=@jq (sN (f.eval h x)) d K f h:=by
 unfold dI eL cG sN jq;simp only
 generalize f.eval h x=y
 cases y<;>try rfl
 rename_i fn xs ys
 cases fn<;>rfl
theorem aaI {op:BinOp} {t Ht:TypeId} {x y:Operand}:@dI P ⟨d,.binOp op t x y Ht,ty,pos,b0,g⟩ K f h=@jq (cl P op t x y (f.eval h x) (f.eval h y)) d K f h:=qb rfl
theorem aaJ {op:UnOp} {t:TypeId} {x:Operand}:@dI P ⟨d,.unOp op t x,ty,pos,b0,g⟩ K f h=@jq (rF P op (f.eval h x)) d K f h:=qb rfl
def LV (o:Option V) (b:Option (V×I)) (d:Option Tmp) [K:fq] (f:ak) (h:I):Prop:=match o with | some v=>K.go (f.put d v) h | none=>@oc b d K f
theorem aaK {v:V} {b:Option (V×I)}:@LV (some v) b d K f h=@hG K (f.put d v) h:=nr rfl
theorem aaL {s t:TypeId} {x:Operand}:@dI P ⟨d,.convert s t x,ty,pos,b0,g⟩ K f h=@LV (k8 P s t (f.eval h x) h) (p9 P s t (f.eval h x) h) d K f h:=by
 have he:cG P ⟨d,.convert s t x,ty,pos,b0,g⟩ (f.eval h) h=(match k8 P s t (f.eval h x) h with | some v=>some (.val v h) | none=>dV (p9 P s t (f.eval h x) h)):=rfl
 unfold LV
 cases al:k8 P s t (f.eval h x) h with
 | some v=>
  rw [al] at he
  exact qb (x:=some v) he
 | none=>
  rw [al] at he
  exact yU he
theorem aaM {t:TypeId} {r:Option Operand}:@dI P ⟨d,.makeMap t r,ty,pos,b0,g⟩ K f h=@oc (yO P t (r.map (f.eval h)) h) d K f:=yU rfl
theorem aaN {t:TypeId} {x y:Operand}:@dI P ⟨d,.makeSlice t x y,ty,pos,b0,g⟩ K f h=@oc (i5 P t (f.eval h x) (f.eval h y) h) d K f:=yU rfl
theorem aaO {t:TypeId} {x:Operand} {lo hi mx:Option Operand}:@dI P ⟨d,.slice t x lo hi mx,ty,pos,b0,g⟩ K f h=@jq (jL P t (f.eval h x) (lo.map (f.eval h)) (hi.map (f.eval h)) (mx.map (f.eval h))) d K f h:=qb rfl
theorem aaP {t:TypeId} {x:Operand} {k:Nat}:@dI P ⟨d,.fieldAddr t x k,ty,pos,b0,g⟩ K f h=@jq (wL P t (f.eval h x) k) d K f h:=qb rfl
theorem aaQ {t:TypeId} {x:Operand} {k:Nat}:@dI P ⟨d,.field t x k,ty,pos,b0,g⟩ K f h=@jq (yM P t (f.eval h x) k) d K f h:=qb rfl
theorem aaR {t:TypeId} {x y:Operand}:@dI P ⟨d,.indexAddr t x y,ty,pos,b0,g⟩ K f h=@jq (ik P t (f.eval h x) (f.eval h y)) d K f h:=qb rfl
theorem aaS {t:TypeId} {x y:Operand}:@dI P ⟨d,.index t x y,ty,pos,b0,g⟩ K f h=@jq (ua P t (f.eval h x) (f.eval h y)) d K f h:=qb rfl
theorem aaT {t:TypeId} {x y:Operand} {ok:Bool}:@dI P ⟨d,.lookup t x y ok,ty,pos,b0,g⟩ K f h=@jq (nM P t (f.eval h x) (f.eval h y) ok h) d K f h:=qb rfl
theorem aaU {t:TypeId} {m k x:Operand}:@dI P ⟨d,.mapUpdate t m k x,ty,pos,b0,g⟩ K f h=@thenS (qS P t (f.eval h m) (f.eval h k) (f.eval h x) h) d K f:=Qy rfl
theorem aaV {t:TypeId} {x:Operand}:@dI P ⟨d,.range t x,ty,pos,b0,g⟩ K f h=@oc (jp P t (f.eval h x) h) d K f:=yU rfl
def HA (l:Option (List (V×I))) (d:Option Tmp) [K:fq] (f:ak):Prop:=match l with | some l=>∀ v U,(v,U) ∈ l→@hG K (f.put d v) U | none=>False
theorem aaW {it:Operand}:@dI P ⟨d,.next it false,ty,pos,b0,g⟩ K f h=@HA (r7 (f.eval h it) h) d K f:=by
 unfold dI eL cG HA;simp only;cases r7 (f.eval h it) h<;>rfl
theorem aaX {x:Operand}:@dI P ⟨d,.entry x,ty,pos,b0,g⟩ K f h=@jq (BS (f.eval h x) h) d K f h:=qb rfl
def od (x:V) (k:Nat):Option V:=match x with | .tuple vs=>vs[k]? | _=>none
theorem aaY {v:V} {vs:List V}:od (.tuple (v::vs)) 0=some v:=nr rfl
theorem aaZ {v:V} {vs:List V} {k:Nat}:od (.tuple (v::vs)) (k+1)=od (.tuple vs) k:=by simp [od]
theorem qr {x:Operand} {k:Nat}:@dI P ⟨d,.extract x k,ty,pos,b0,g⟩ K f h=@jq (od (f.eval h x) k) d K f h:=by
 unfold dI eL cG od jq;simp only
 cases f.eval h x with
 | tuple vs=>simp only;cases vs[k]?<;>rfl
 | _=>rfl
def yV (b:Option Bool) (t:TypeId) (x:V):Option V:=match b with | some false=>some (.iface t x) | _=>none
theorem aa0 {t:TypeId} {x:V}:yV (some false) t x=some (.iface t x):=nr rfl
theorem aa1 {t:TypeId} {x:Operand}:@dI P ⟨d,.makeInterface t x,ty,pos,b0,g⟩ K f h=@jq (yV (Df P t) t (f.eval h x)) d K f h:=by
 unfold dI eL cG yV jq;simp only
 cases Df P t with
 | none=>rfl
 | some b=>cases b<;>rfl
theorem aa2 {fn:FuncId} {xs ys:Array Operand}:@dI P ⟨d,.makeFunc (.func fn) xs ys,ty,pos,b0,g⟩ K f h=@hG K (f.put d (.func (.func fn) (xs.toList.map (f.eval h)) (ys.toList.map (f.eval h)))) h:=nr rfl
def vF (x:V) [K:fq] (f:ak) (h:I):Prop:=match x with | .iface _ _=>K.exc f h | _=>False
theorem an5 {x:Operand}:@dI P ⟨d,.panic x,ty,pos,b0,g⟩ K f h=@vF (f.eval h x) K f h:=by
 unfold dI eL cG vF;simp only;cases f.eval h x<;>rfl
theorem an6 {x:Operand} {ts:Array TypeId}:@dI P ⟨d,.call ⟨.builtin .panic,#[x],ts⟩,ty,pos,b0,g⟩ K f h=@vF (f.eval h x) K f h:=by
 unfold dI eL cG gZ vF;simp only [List.map_cons,List.map_nil];cases f.eval h x<;>rfl
theorem aa3 {t:TypeId} {x:Operand}:@dI P ⟨d,.call ⟨.builtin .len,#[x],#[t]⟩,ty,pos,b0,g⟩ K f h=@jq (cE P t (f.eval h x) h) d K f h:=by
 unfold dI eL cG gZ mX jq;simp only [List.map_cons,List.map_nil];cases cE P t (f.eval h x) h<;>rfl
theorem aa4 {t tx:TypeId} {x y:Operand}:@dI P ⟨d,.call ⟨.builtin .append,#[x,y],#[t,tx]⟩,ty,pos,b0,g⟩ K f h=@oc (k6 P t tx (f.eval h x) (f.eval h y) h) d K f:=by
 unfold dI eL cG gZ mX oc;simp only [List.map_cons,List.map_nil];cases k6 P t tx (f.eval h x) (f.eval h y) h<;>rfl
theorem aa5 {t tx:TypeId} {x y:Operand}:@dI P ⟨d,.call ⟨.builtin .copy,#[x,y],#[t,tx]⟩,ty,pos,b0,g⟩ K f h=@oc (p7 P t (f.eval h x) (f.eval h y) h) d K f:=by
 unfold dI eL cG gZ mX oc;simp only [List.map_cons,List.map_nil];cases p7 P t (f.eval h x) (f.eval h y) h<;>rfl
theorem an7 {t:TypeId} {x:Operand}:@dI P ⟨d,.call ⟨.builtin .cap,#[x],#[t]⟩,ty,pos,b0,g⟩ K f h=@jq (sI P t (f.eval h x)) d K f h:=by
 unfold dI eL cG gZ mX jq;simp only [List.map_cons,List.map_nil];cases sI P t (f.eval h x)<;>rfl
theorem an8 {t tx:TypeId} {x y:Operand}:@dI P ⟨d,.call ⟨.builtin .delete,#[x,y],#[t,tx]⟩,ty,pos,b0,g⟩ K f h=@oc ((wW P t (f.eval h x) (f.eval h y) h).map fun U=>(.tuple [],U)) d K f:=by
 unfold dI eL cG gZ mX oc;simp only [List.map_cons,List.map_nil];cases wW P t (f.eval h x) (f.eval h y) h<;>rfl
theorem aa6 {t:TypeId} {x:Operand}:@dI P ⟨d,.call ⟨.builtin .clear,#[x],#[t]⟩,ty,pos,b0,g⟩ K f h=@oc ((oX P t (f.eval h x) h).map fun U=>(.tuple [],U)) d K f:=by
 unfold dI eL cG gZ mX oc;simp only [List.map_cons,List.map_nil];cases oX P t (f.eval h x) h<;>rfl
def sO (P:Program) (bi:Builtin) (ts:Array TypeId) (ty:TypeId) (cs:Array Bool) (x y:V):Option V :=
 match hQ [x,y] with
 | some p8=>match dg P (builtin bi ts ty cs p8.toArray) with
  | some (.value v)=>some (eD v)
  | _=>none
 | none=>none
theorem aa7 {t t2:TypeId} {x y:Operand}:@dI P ⟨d,.call ⟨.builtin .min,#[x,y],#[t,t2]⟩,ty,pos,b0,g⟩ K f h=@jq (sO P .min #[t,t2] ty (vB #[x,y]) (f.eval h x) (f.eval h y)) d K f h :=
 qb (by
  unfold cG gZ mX sO eI
  simp only [List.map_cons,List.map_nil]
  cases hQ [f.eval h x,f.eval h y] with
  | none=>rfl
  | some p8=>
   simp only
   generalize dg P _=r
   cases r with
   | none=>rfl
   | some n=>cases n<;>rfl)
theorem aa8 {t t2:TypeId} {x y:Operand}:@dI P ⟨d,.call ⟨.builtin .max,#[x,y],#[t,t2]⟩,ty,pos,b0,g⟩ K f h=@jq (sO P .max #[t,t2] ty (vB #[x,y]) (f.eval h x) (f.eval h y)) d K f h :=
 qb (by
  unfold cG gZ mX sO eI
  simp only [List.map_cons,List.map_nil]
  cases hQ [f.eval h x,f.eval h y] with
  | none=>rfl
  | some p8=>
   simp only
   generalize dg P _=r
   cases r with
   | none=>rfl
   | some n=>cases n<;>rfl)
theorem aa9 {ts:Array TypeId} {cs:Array Bool} {k:IntKind} {a b:Int}:sO P .min ts ty cs (.int k a) (.int k b)=some (.int k (min a b)):=by
 have e:(if b<a then b else a)=min a b:=by rw [Int.min_def];split<;>split<;>omega
 rw [←e]
 rfl
theorem aba {ts:Array TypeId} {cs:Array Bool} {k:IntKind} {a b:Int}:sO P .max ts ty cs (.int k a) (.int k b)=some (.int k (max a b)):=by
 have e:(if a<b then b else a)=max a b:=by rw [Int.max_def];split<;>split<;>omega
 rw [←e]
 rfl
def Dq (P:Program) (fid:FuncId) (args:List V) (h:I) (d:Option Tmp) [K:fq] (f:ak):Prop:=bP P fid=false∧∃ v U,lV P fid args h=some (v,U)∧K.go (f.put d v) U
def sP (P:Program) (fid:FuncId) (args:List V) (h:I) (d:Option Tmp) [K:fq] (f:ak):Prop:=(bP P fid=true∧cd P fid args h (fun r U=>K.go (f.put d r) U) (fun U=>K.exc f U))∨@Dq P fid args h d K f
open Classical in
theorem abb {fid:FuncId} {args:Array Operand} {ts:Array TypeId}:@dI P ⟨d,.call ⟨.value (.func fid),args,ts⟩,ty,pos,b0,g⟩ K f h=@sP P fid (args.toList.map (f.eval h)) h d K f:=by
 unfold dI eL cG gZ sP Dq
 simp only [ak.eval]
 by_cases al:bP P fid=true
 ·simp [al]
 ·cases aL:lV P fid (args.toList.map (f.eval h)) h with
  | none=>simp [al,aL]
  | some p=>obtain ⟨v,U⟩:=p;simp [al,aL];exact ⟨fun ad=>⟨v,U,⟨rfl,rfl⟩,ad⟩,fun ⟨_,_,⟨aK,a6⟩,ad⟩=>by subst aK;subst a6;exact ad⟩
def LW (P:Program) (j6:V) (args:List V) (h:I) (d:Option Tmp) [K:fq] (f:ak):Prop:=match j6 with | .func (.func fid) xs ys=>@sP P fid (xs++args++ys) h d K f | .func (.yield l) [] []=>jl P l args h (fun r U=>K.go (f.put d r) U) | _=>False
theorem abc {t:Tmp} {args:Array Operand} {ts:Array TypeId}:@dI P ⟨d,.call ⟨.value (.tmp t),args,ts⟩,ty,pos,b0,g⟩ K f h=@LW P (f t) (args.toList.map (f.eval h)) h d K f:=by
 unfold dI eL cG gZ LW sP Dq
 simp only [ak.eval]
 generalize f t=v
 cases v<;>try rfl
 rename_i fn xs ys
 cases fn<;>try rfl
 case yield l=>cases xs<;>cases ys<;>rfl
 rename_i fid
 simp only
 by_cases al:bP P fid=true
 ·simp [al]
 ·cases aL:lV P fid (xs++args.toList.map (f.eval h)++ys) h with
  | none=>simp at aL;simp [al,aL]
  | some p=>obtain ⟨v,U⟩:=p;simp at aL;simp [al,aL];exact ⟨fun ad=>⟨v,U,⟨rfl,rfl⟩,ad⟩,fun ⟨_,_,⟨aK,a6⟩,ad⟩=>by subst aK;subst a6;exact ad⟩
def yW (P:Program) (x:V) (name:String) (args:List V) (h:I) (d:Option Tmp) [K:fq] (f:ak):Prop:=match x with | .iface t v=>∃ g,dX P t name g∧@sP P g (v::args) h d K f | _=>False
theorem abd {r:Operand} {name:String} {args:Array Operand} {ts:Array TypeId}:@dI P ⟨d,.call ⟨.invoke r name,args,ts⟩,ty,pos,b0,g⟩ K f h=@yW P (f.eval h r) name (args.toList.map (f.eval h)) h d K f:=by
 unfold dI eL cG gZ yW
 simp only
 generalize f.eval h r=v
 cases v<;>try rfl
 rename_i t x
 by_cases ad:∃ g,dX P t name g
 ·obtain ⟨g,hm⟩:=ad
  rw [Qs hm]
  refine propext ⟨fun J=>⟨g,hm,.inl ⟨hm.2,J⟩⟩,?_⟩
  rintro ⟨sQ,fE,al⟩
  have e:=hm.uniq fE
  subst e
  rcases al with ⟨_,al⟩ | ⟨al,_⟩
  ·exact al
  ·rw [hm.2] at al;cases al
 ·have:pz P (.iface t x) name (args.toList.map (f.eval h))=none:=by
   unfold pz
   simp only [dif_neg ad]
  rw [this]
  exact propext ⟨False.elim,fun ⟨g,hm,_⟩=>ad ⟨g,hm⟩⟩
theorem Dr {t:TypeId} {x:V} {name:String} {args:List V} {fid:FuncId} (hm:dX P t name fid):@yW P (.iface t x) name args h d K f=@sP P fid (x::args) h d K f:=by
 refine propext ⟨?_,fun al=>⟨fid,hm,al⟩⟩
 rintro ⟨g,aE,al⟩
 have e:=hm.uniq aE
 subst e
 exact al
theorem abe {fid:FuncId} {xs ys args:List V}:@LW P (.func (.func fid) xs ys) args h d K f=@sP P fid (xs++args++ys) h d K f:=nr rfl
theorem cC {fid:FuncId} {args:List V} {R:V→I→Prop} (al:bP P fid=true) (J:ah P fid args h R) (hk:∀ r U,R r U→@hG K (f.put d r) U):@sP P fid args h d K f :=
 .inl ⟨al,J.e.mono hk fun _ h=>h⟩
theorem cK {fid:FuncId} {args:List V} {v:V} (al:bP P fid=true) (J:Pure P fid args h v) (hk:@hG K (f.put d v) h):@sP P fid args h d K f :=
 cC al J fun r U ⟨aK,a6⟩=>by subst aK;subst a6;exact hk
theorem abf {fid:FuncId} {args:List V} {v:V} (al:bP P fid=false) (av:l3 P fid) (aL:rI h args=some v) (hk:@hG K (f.put d v) h):@sP P fid args h d K f:=.inr ⟨al,v,h,Qq av aL,hk⟩
theorem abg {fid:FuncId} {args:List V} {v:V} {U:I} (al:bP P fid=false) (av:l4 P fid) (aL:pk h args=some (v,U)) (hk:@hG K (f.put d v) U):@sP P fid args h d K f:=.inr ⟨al,v,U,Qr av aL,hk⟩
theorem abh {t:Tmp} {v:V} {k:Nat}:ak.put f (some t) v k=if k=t then v else f k:=nr rfl
theorem abi {v:V} {k:Nat}:ak.put f none v k=f k:=nr rfl
theorem abj {t:Tmp}:ak.eval f h (.tmp t)=f t:=nr rfl
theorem eval_const {v:Value}:ak.eval f h (.const v)=eZ v:=nr rfl
theorem eval_func {k:FuncId}:ak.eval f h (.func k)=.func (.func k) [] []:=nr rfl
theorem abk {k:Nat} {cs:List V} (aE:h.glob k=some cs):ak.eval f h (.global k)=.at cs:=by simp [ak.eval,aE]
theorem v6 {a:V} {l:List V}:dQ (a::l) 0=a:=nr rfl
theorem abl {a:V} {l:List V} {n:Nat}:dQ (a::l) (n+1)=dQ l n:=nr rfl
end
theorem abm {k:IntKind} {n:Int}:eZ (.int k n)=.int k n:=nr rfl
theorem abn {b:Bool}:eZ (.bool b)=.bool b:=nr rfl
theorem abo {s:ByteArray}:eZ (.string s)=.string s:=nr rfl
theorem abp:eZ (.pointer none)=.en:=nr rfl
theorem abq:eZ (.slice none 0 0)=.ag:=nr rfl
section
variable {P:Program} {fn:Func} {R:V→I→Prop} {E:I→Prop} {f:ak} {h:I}
theorem bd:sK P fn R E .ret f h=(match iZ P fn.results.toList f h with | some r=>R r h | none=>False):=nr rfl
theorem o0:sK P fn R E .normal f h=(match iZ P fn.results.toList f h with | some r=>R r h | none=>False):=nr rfl
theorem bT {t:Tmp}:iZ P [.tmp t] f h=some (f t):=nr rfl
theorem lv:iZ P [] f h=some (.tuple []):=nr rfl
theorem ha {t u:Tmp}:iZ P [.tmp t,.tmp u] f h=some (.tuple [f t,f u]):=nr rfl
theorem qU {t u v:Tmp}:iZ P [.tmp t,.tmp u,.tmp v] f h=some (.tuple [f t,f u,f v]):=nr rfl
end
theorem Ds {P:Program} {t:TypeId} {d:TypeDesc} (h:P.underlying t=some d):dg P (underlying t)=some d:=by
 unfold underlying program
 rw [ji]
 simp only [dg,Option.bind_some,h]
 rfl
section
variable {P:Program} {t:TypeId} {xo yo:Operand} {k HB:IntKind} {a b:Int}
theorem LX {op:BinOp} {x y:V} {a b v:Value} (af:lK x=some a) (aX:lK y=some b) (aE:eqGuard op t xo yo a b=pure ()) (h:dg P (binOp op t a b)=some v):cl P op t xo yo x y=some (eD v):=by
 unfold cl
 simp only [af,aX]
 have e:(do eqGuard op t xo yo a b;binOp op t a b)=binOp op t a b:=by rw [aE];rfl
 rw [e,h]
 rfl
theorem oe {op:BinOp} {v:Value} (h:dg P (binOp op t (.int k a) (.int HB b))=some v):cl P op t xo yo (.int k a) (.int HB b)=some (eD v):=LX rfl rfl (by cases op<;>rfl) h
theorem abr:cl P .add t xo yo (.int k a) (.int k b)=some (.int k (k.wrap (a+b))):=oe (v:=.int k (k.wrap (a+b))) (by simp [binOp,Op.intArith];rfl)
theorem abt:cl P .sub t xo yo (.int k a) (.int k b)=some (.int k (k.wrap (a - b))):=oe (v:=.int k (k.wrap (a - b))) (by simp [binOp,Op.intArith];rfl)
theorem abu:cl P .mul t xo yo (.int k a) (.int k b)=some (.int k (k.wrap (a * b))):=oe (v:=.int k (k.wrap (a * b))) (by simp [binOp,Op.intArith];rfl)
theorem abv:cl P .eql t xo yo (.int k a) (.int k b)=some (.bool (a==b)):=oe (v:=.bool (a==b)) (by simp [binOp,Op.intCmp];rfl)
theorem abw:cl P .neq t xo yo (.int k a) (.int k b)=some (.bool (a !=b)):=oe (v:=.bool (a !=b)) (by simp [binOp,Op.intCmp];rfl)
theorem abx:cl P .lss t xo yo (.int k a) (.int k b)=some (.bool (decide (a<b))):=oe (v:=.bool (decide (a<b))) (by simp [binOp,Op.intCmp];rfl)
theorem aby:cl P .leq t xo yo (.int k a) (.int k b)=some (.bool (decide (a≤b))):=oe (v:=.bool (decide (a≤b))) (by simp [binOp,Op.intCmp];rfl)
theorem Fd:cl P .gtr t xo yo (.int k a) (.int k b)=some (.bool (decide (b<a))):=oe (v:=.bool (decide (b<a))) (by simp [binOp,Op.intCmp];rfl)
theorem abz:cl P .geq t xo yo (.int k a) (.int k b)=some (.bool (decide (b≤a))):=oe (v:=.bool (decide (b≤a))) (by simp [binOp,Op.intCmp];rfl)
theorem xb (ar:0≤b):cl P .shl t xo yo (.int k a) (.int HB b)=some (.int k (k.wrap (a * 2 ^ (min b.toNat k.bits)))) :=
 oe (v:=.int k (k.wrap (a * 2 ^ (min b.toNat k.bits)))) (by simp only [binOp,Op.shift,if_neg (show ¬b<0 by omega)];rfl)
theorem yX (ar:0≤b):cl P .shr t xo yo (.int k a) (.int HB b)=some (.int k (a.fdiv (2 ^ (min b.toNat k.bits)))) :=
 oe (v:=.int k (a.fdiv (2 ^ (min b.toNat k.bits)))) (by simp only [binOp,Op.shift,if_neg (show ¬b<0 by omega)];rfl)
theorem abA (ar:b≠0):cl P .quo t xo yo (.int k a) (.int k b)=some (.int k (k.wrap (a.tdiv b))) :=
 oe (v:=.int k (k.wrap (a.tdiv b))) (by simp only [binOp,Op.intDiv,ne_eq,not_true,if_false,if_neg ar];rfl)
theorem LY (ar:b≠0):cl P .rem t xo yo (.int k a) (.int k b)=some (.int k (a.tmod b)) :=
 oe (v:=.int k (a.tmod b)) (by simp only [binOp,Op.intDiv,ne_eq,not_true,if_false,if_neg ar];rfl)
def og (k:IntKind) (a b:Int):Int:=k.wrap ((BitVec.ofInt k.bits a &&& BitVec.ofInt k.bits b).toNat:Int)
def qc (k:IntKind) (a b:Int):Int:=k.wrap ((BitVec.ofInt k.bits a ||| BitVec.ofInt k.bits b).toNat:Int)
def jr (k:IntKind) (a b:Int):Int:=k.wrap ((BitVec.ofInt k.bits a ^^^ BitVec.ofInt k.bits b).toNat:Int)
def BX (k:IntKind) (a b:Int):Int:=k.wrap ((BitVec.ofInt k.bits a &&& ~~~(BitVec.ofInt k.bits b)).toNat:Int)
theorem abB:cl P .and t xo yo (.int k a) (.int k b)=some (.int k (og k a b)):=oe (v:=.int k (og k a b)) (by simp only [binOp,ne_eq,not_true,if_false];rfl)
theorem abC:cl P .or t xo yo (.int k a) (.int k b)=some (.int k (qc k a b)):=oe (v:=.int k (qc k a b)) (by simp only [binOp,ne_eq,not_true,if_false];rfl)
theorem abD:cl P .xor t xo yo (.int k a) (.int k b)=some (.int k (jr k a b)):=oe (v:=.int k (jr k a b)) (by simp only [binOp,ne_eq,not_true,if_false];rfl)
theorem abE:cl P .andNot t xo yo (.int k a) (.int k b)=some (.int k (BX k a b)):=oe (v:=.int k (BX k a b)) (by simp only [binOp,ne_eq,not_true,if_false];rfl)
theorem abF {b:Bool}:rF P .not (.bool b)=some (.bool (!b)):=nr rfl
theorem abG:rF P .neg (.int k a)=some (.int k (k.wrap (0 - a))):=nr rfl
def l5 (P:Program) (t:TypeId):Option IntKind:=match P.underlying t with | some (.int k)=>some k | _=>none
theorem js {src dst:TypeId} {h:I} {bj k2:IntKind} (J:l5 P src=some bj) (a7:l5 P dst=some k2):k8 P src dst (.int k a) h=some (.int k2 (k2.wrap a)):=by
 have h1:P.underlying src=some (.int bj):=by
  unfold l5 at J;split at J
  ·rename_i hu;simp at J;subst J;exact hu
  ·cases J
 have ab:P.underlying dst=some (.int k2):=by
  unfold l5 at a7;split at a7
  ·rename_i hu;simp at a7;subst a7;exact hu
  ·cases a7
 unfold k8
 have e:(k3 (.int k a)).bind (fun x=>dg P (convert src dst x))=some (.int k2 (k2.wrap a)):=by
  show dg P (convert src dst (.int k a))=_
  unfold convert
  rw [ji,Ds h1,Option.bind_some,ji,Ds ab]
  rfl
 rw [e]
 rfl
theorem abH {op:BinOp} {x y:ByteArray} {v:Value} (h:dg P (Op.stringOp op x y)=some v) (br:op≠.shl∧op≠.shr):cl P op t xo yo (.string x) (.string y)=some (eD v):=by
 refine LX rfl rfl (by cases op<;>rfl) ?_
 have e:binOp op t (.string x) (.string y)=Op.stringOp op x y:=by cases op<;>first | rfl | simp at br
 rw [e,h]
theorem abI {x y:ByteArray}:cl P .eql t xo yo (.string x) (.string y)=some (.bool (x.toList==y.toList)):=abH (v:=.bool _) rfl (by simp)
end
def gL (P:Program) (t:TypeId):Option Nat:=(P.underlying t).bind sF
section
variable {P:Program} {t:TypeId} {xo yo:Operand} {x y:V} {k:Nat}
theorem yY (h:gL P t=some k):∃ d,P.underlying t=some d∧sF d=some k:=by
 unfold gL at h
 cases hu:P.underlying t with
 | none=>simp [hu] at h
 | some d=>simp [hu] at h;exact ⟨d,rfl,h⟩
theorem LZ (h:gL P t=some k) (az:lK x=none∨lK y=none) (aJ:(wS x=some k∧vu y=some k)∨(vu x=some k∧wS y=some k)):cl P .eql t xo yo x y=some (.bool false):=by
 obtain ⟨d,hu,a7⟩:=yY h
 have aL:wT d x y=true:=by
  unfold wT
  rw [a7]
  rcases aJ with ⟨h1,ab⟩ | ⟨h1,ab⟩<;>simp [h1,ab]
 unfold cl
 split
 ·rename_i h1 ab;rw [h1,ab] at az;simp at az
 ·rw [hu];simp only [aL,if_true]
theorem abJ (h:gL P t=some k) (az:lK x=none∨lK y=none) (aJ:(wS x=some k∧vu y=some k)∨(vu x=some k∧wS y=some k)):cl P .neq t xo yo x y=some (.bool true):=by
 obtain ⟨d,hu,a7⟩:=yY h
 have aL:wT d x y=true:=by
  unfold wT
  rw [a7]
  rcases aJ with ⟨h1,ab⟩ | ⟨h1,ab⟩<;>simp [h1,ab]
 unfold cl
 split
 ·rename_i h1 ab;rw [h1,ab] at az;simp at az
 ·rw [hu];simp only [aL,if_true]
theorem abK {i o:Nat} (h:gL P t=some 0):cl P .eql t xo yo (.ptr i o) .en=some (.bool false):=LZ h (.inl rfl) (.inr ⟨rfl,rfl⟩)
theorem abL {i o:Nat} (h:gL P t=some 0):cl P .neq t xo yo (.ptr i o) .en=some (.bool true):=abJ h (.inl rfl) (.inr ⟨rfl,rfl⟩)
end
theorem abM {k:IntKind} {n:Int}:(V.int k n).cells=some [.int k n]:=nr rfl
theorem abN {b:Bool}:(V.bool b).cells=some [.bool b]:=nr rfl
theorem abO:V.ag.cells=some [.ag]:=nr rfl
theorem abP {i o:Nat}:(V.ptr i o).cells=some [.ptr i o]:=nr rfl
theorem abQ {i o n m:Nat}:(V.aj i o n m).cells=some [.aj i o n m]:=nr rfl
theorem abR {n:Nat} {cs:List V}:(V.an n cs).cells=some [.an n cs]:=nr rfl
theorem abS {i:Nat}:(V.map i).cells=some [.map i]:=nr rfl
theorem abT {t:TypeId} {v:V}:(V.iface t v).cells=some [.iface t v]:=nr rfl
theorem abU {cs:List V}:(V.agg cs).cells=some cs:=nr rfl
theorem abV {k:IntKind} {n:Int}:(V.int k n).one=true:=nr rfl
theorem abW {b:Bool}:(V.bool b).one=true:=nr rfl
theorem abX:V.ag.one=true:=nr rfl
theorem abY {i o n m:Nat}:(V.aj i o n m).one=true:=nr rfl
theorem abZ {n:Nat} {cs:List V}:(V.an n cs).one=true:=nr rfl
theorem ab0 {i:Nat}:(V.map i).one=true:=nr rfl
theorem all_nil:([]:List V).all (·.one)=true:=nr rfl
theorem all_cons {v:V} {l:List V}:(v::l).all (·.one)=(v.one&&l.all (·.one)):=nr rfl
section
variable {P:Program} {t tx e:TypeId} {x y v:V} {h:I} {k:Nat}
def dO (P:Program) (s:TypeId) (k:Nat):Option Nat :=
 match P.underlying s with
 | some (.struct di)=>match di[k]? with
  | some f=>match ap P f.type with
   | some (_+1)=>some f.offset
   | _=>none
  | none=>none
 | _=>none
def HC (off:Option Nat) (x:V):Option V :=
 match off,x with
 | some off,.ptr i o=>some (.ptr i (o+off))
 | some off,.at cs=>if off≤cs.length then some (.at (cs.drop off)) else none
 | _,_=>none
theorem ab1:wL P t x k=HC (dO P t k) x:=by
 unfold wL dO
 cases P.underlying t with
 | none=>rfl
 | some d=>
  cases d<;>try rfl
  rename_i di
  simp only
  cases di[k]? with
  | none=>rfl
  | some f=>
   simp only
   cases ap P f.type with
   | none=>rfl
   | some n=>cases n<;>simp only [HC]<;>cases x<;>rfl
theorem ab2 {i o off:Nat}:HC (some off) (.ptr i o)=some (.ptr i (o+off)):=nr rfl
theorem ab3 {cs:List V} {off:Nat}:HC (some off) (.at cs)=if off≤cs.length then some (.at (cs.drop off)) else none:=nr rfl
def loadT (P:Program) (t:TypeId):Option (Option Nat) :=
 match j4 P t,ap P t with
 | some true,some n=>some (some n)
 | some false,some _=>some none
 | _,_=>none
def hI (ty:Option (Option Nat)) (p:Option (List V)):Option V :=
 match ty,p with
 | some (some n),some cs=>if n≤cs.length then some (.agg (cs.take n)) else none
 | some none,some (v::_)=>some v
 | _,_=>none
theorem Qz:i6 P t x h=hI (loadT P t) (mT h x):=by
 unfold i6 loadT
 cases mT h x with
 | none=>cases j4 P t with
  | none=>rfl
  | some b=>cases b<;>cases ap P t<;>rfl
 | some cs=>cases j4 P t with
  | none=>cases cs<;>rfl
  | some b=>cases b<;>cases ap P t<;>cases cs<;>rfl
theorem ab4 {v:V} {r:List V}:hI (some none) (some (v::r))=some v:=nr rfl
theorem QA {n:Nat} {cs:List V}:hI (some (some n)) (some cs)=if n≤cs.length then some (.agg (cs.take n)) else none:=nr rfl
def cW (o:aD) (n:Nat):Option (List V):=match o with | .cells c _ _=>if n≤c.length then some (c.drop n) else none | _=>none
theorem QB {i o:Nat}:mT h (.ptr i o)=cW (h.get i) o:=by
 simp only [mT,cW]
 cases h.get i<;>rfl
theorem ab5 {cs:List V}:mT h (.at cs)=some cs:=nr rfl
theorem L0 {c:List V} {e:TypeId} {ex:Option Nat} {n:Nat}:cW (.cells c e ex) n=if n≤c.length then some (c.drop n) else none:=nr rfl
def ca (n:Option Nat) (ob:aD) (o:Nat) (vs:List V):Option aD :=
 match n,ob with
 | some n,.cells c e ex=>if vs.length=n∧vs.all (·.one)=true∧o+n≤c.length then some (.cells (lay c o vs) e ex) else none
 | _,_=>none
def L1 (n:Option Nat) (x:V) (vs:Option (List V)) (h:I):Option I :=
 match x,vs with
 | .ptr i o,some vs=>(ca n (h.get i) o vs).map fun ob=>h.set i ob
 | _,_=>none
theorem ab6:vn P t x v h=L1 (ap P t) x v.cells h:=by
 unfold vn L1
 cases x<;>try rfl
 rename_i i o
 cases v.cells with
 | none=>rfl
 | some vs=>
  simp only [ca]
  cases h.get i<;>cases ap P t<;>simp
  rename_i c e ex n
  by_cases ad:vs.length=n
  ·subst ad;split<;>rfl
  ·simp [ad]
theorem ab7 {i o:Nat} {n:Option Nat} {vs:List V}:L1 n (.ptr i o) (some vs) h=(ca n (h.get i) o vs).map fun ob=>h.set i ob:=nr rfl
theorem ab8 (c:List V) (o:Nat) (v:V) (av:o<c.length):lay c o [v]=c.set o v:=by
 unfold lay
 rw [List.set_eq_take_append_cons_drop,if_pos av]
 simp
theorem ab9 (v:V) (vs c:List V) (o:Nat) (aw:o+(vs.length+1)≤c.length):lay c o (v::vs)=lay (c.set o v) (o+1) vs:=by
 have av:o<c.length:=by omega
 have al:c.set o v=c.take o++v::c.drop (o+1):=by rw [List.set_eq_take_append_cons_drop,if_pos av]
 have hlen:(c.take o).length=o:=by simp;omega
 unfold lay
 rw [al]
 have aK:(c.take o++v::c.drop (o+1)).take (o+1)=c.take o++[v]:=by
  rw [List.take_append,hlen,List.take_of_length_le (by omega),show o+1 - o=1 by omega]
  rfl
 have a6:(c.take o++v::c.drop (o+1)).drop (o+1+vs.length)=c.drop (o+(vs.length+1)):=by
  rw [List.drop_append,hlen,List.drop_eq_nil_of_le (by omega),show o+1+vs.length - o=vs.length+1 by omega]
  rw [List.drop_succ_cons,List.drop_drop,List.nil_append]
  congr 1
  omega
 rw [aK,a6]
 simp
theorem QC:∀ (vs c:List V) (o:Nat),o+vs.length≤c.length→lay c o vs=qR c o vs
 | [],c,o,_=>by simp [lay,qR]
 | v::vs,c,o,aw=>by
  have dq:o+(vs.length+1)≤c.length:=by simpa using aw
  unfold qR
  rw [ab9 v vs c o dq,QC vs (c.set o v) (o+1) (by simp;omega)]
theorem nO {c:List V} {e:TypeId} {ex:Option Nat} {o:Nat} (aN:v.one=true):ca (some 1) (.cells c e ex) o [v]=if o<c.length then some (.cells (c.set o v) e ex) else none:=by
 simp only [ca,List.length_cons,List.length_nil,all_cons,all_nil,aN,Bool.and_self,true_and]
 by_cases av:o<c.length
 ·have:(0+1=1∧o+1≤c.length):=⟨rfl,av⟩
  rw [if_pos av]
  simp [this.2,ab8 _ _ _ av]
 ·rw [if_neg av]
  simp
  omega
theorem uf {c vs:List V} {e:TypeId} {ex:Option Nat} {o n:Nat} (aJ:vs.length=n) (aN:vs.all (·.one)=true):ca (some n) (.cells c e ex) o vs=if o+n≤c.length then some (.cells (qR c o vs) e ex) else none:=by
 simp only [ca,aJ,aN,true_and]
 by_cases av:o+n≤c.length
 ·rw [if_pos av,if_pos av,QC _ _ _ (by omega)]
 ·rw [if_neg av,if_neg av]
theorem aca {c:List V} {o:Nat}:qR c o []=c:=nr rfl
theorem acb {c r:List V} {o:Nat}:qR c o (v::r)=qR (c.set o v) (o+1) r:=nr rfl
theorem acd:vo P e h=(gw P e).map fun zs=>(.ptr h.n 0,h.push (.cells zs e none)):=by
 unfold vo;cases gw P e<;>rfl
theorem ace:mV e x h=x.cells.map fun cs=>(.ptr h.n 0,h.push (.cells cs e none)):=by
 unfold mV;cases x.cells<;>rfl
def ee (P:Program) (t:TypeId):Option Nat:=match P.underlying t with | some (.slice e)=>ap P e | _=>none
def qV (P:Program) (t:TypeId):Option (Nat×Nat):=match P.underlying t with | some (.array n e)=>(ap P e).map fun s=>(n,s) | _=>none
def l6 (aj:Option Nat) (BZ:Option (Nat×Nat)) (x:V) (n:Int):Option V :=
 match aj,BZ,x with
 | some sz,_,.aj i o len _=>if 0≤n∧n<len then some (.ptr i (o+n.toNat * sz)) else none
 | some sz,_,.an len cs=>if 0≤n∧n<len∧n.toNat * sz≤cs.length then some (.at (cs.drop (n.toNat * sz))) else none
 | _,some (len,sz),.ptr i o=>if 0≤n∧n<len then some (.ptr i (o+n.toNat * sz)) else none
 | _,some (len,sz),.at cs=>if 0≤n∧n<len∧n.toNat * sz≤cs.length then some (.at (cs.drop (n.toNat * sz))) else none
 | _,_,_=>none
theorem B0 {kk:IntKind} {n:Int}:ik P t x (.int kk n)=l6 (ee P t) (qV P t) x n:=by
 unfold ik ee qV
 cases P.underlying t with
 | none=>rfl
 | some d=>
  cases d<;>try rfl
  ·rename_i e
   simp only
   cases J:ap P e with
   | none=>cases x<;>simp [l6,J]
   | some sz=>cases x<;>simp [l6,J]
  ·rename_i len e
   simp only
   cases J:ap P e with
   | none=>cases x<;>simp [l6,J]
   | some sz=>cases x<;>simp [l6,J]
theorem L2 {i o len cap sz:Nat} {BZ:Option (Nat×Nat)} {n:Int}:l6 (some sz) BZ (.aj i o len cap) n=if 0≤n∧n<len then some (.ptr i (o+n.toNat * sz)) else none:=nr rfl
theorem acf {len sz:Nat} {cs:List V} {BZ:Option (Nat×Nat)} {n:Int}:l6 (some sz) BZ (.an len cs) n=if 0≤n∧n<len∧n.toNat * sz≤cs.length then some (.at (cs.drop (n.toNat * sz))) else none:=nr rfl
theorem acg {i o len sz:Nat} {n:Int}:l6 none (some (len,sz)) (.ptr i o) n=if 0≤n∧n<len then some (.ptr i (o+n.toNat * sz)) else none:=nr rfl
theorem ach {len sz:Nat} {cs:List V} {n:Int}:l6 none (some (len,sz)) (.at cs) n=if 0≤n∧n<len∧n.toNat * sz≤cs.length then some (.at (cs.drop (n.toNat * sz))) else none:=nr rfl
def aci (kind:Option Nat) (x:V) (h:I):Option V :=
 match kind,x with
 | some 1,.aj _ _ n _=>some (.int .i64 n)
 | some 1,.an n _=>some (.int .i64 n)
 | some 1,.ag=>some (.int .i64 0)
 | some 1,.z0=>some (.int .i64 0)
 | some 2,.dk=>some (.int .i64 0)
 | some 2,.map i=>match h.get i with
  | .map es _=>some (.int .i64 es.length)
  | _=>none
 | _,_=>none
theorem HD {kind:Nat} (hk:gL P t=some kind) (QD:kind=1∨kind=2):cE P t x h=aci (some kind) x h:=by
 obtain ⟨d,hu,a7⟩:=yY hk
 unfold cE
 rw [hu]
 cases d<;>simp [sF] at a7<;>subst a7<;>simp at QD
 all_goals cases x<;>try rfl
theorem B1 (hk:gL P t=some 1) {i o n c:Nat}:cE P t (.aj i o n c) h=some (.int .i64 n):=HD hk (.inl rfl)
theorem Dt (hk:gL P t=some 1) {n:Nat} {cs:List V}:cE P t (.an n cs) h=some (.int .i64 n):=HD hk (.inl rfl)
theorem B2 (hk:gL P t=some 1):cE P t .ag h=some (.int .i64 0):=HD hk (.inl rfl)
theorem Du (hk:gL P t=some 1):cE P t .z0 h=some (.int .i64 0):=HD hk (.inl rfl)
def vG (P:Program) (t:TypeId):Bool:=match P.underlying t with | some .string=>true | _=>false
structure kY where
 e:TypeId
 zs:List V
 sz:Nat
 bs:Nat
def fF (P:Program) (t:TypeId):Option kY :=
 match pw P t with
 | none=>none
 | some e=>match gw P e,ap P e,BN P e with
  | some zs,some sz,some bs=>if zs.length=sz then some ⟨e,zs,sz,bs⟩ else none
  | _,_,_=>none
theorem sR {T:kY} (cV:fF P t=some T):pw P t=some T.e∧gw P T.e=some T.zs∧ap P T.e=some T.sz∧BN P T.e=some T.bs∧T.zs.length=T.sz∧P.underlying t=some (.slice T.e):=by
 unfold fF at cV
 split at cV
 ·cases cV
 ·rename_i e he
  split at cV
  ·rename_i zs sz bs h1 ab aI
   split at cV
   ·rename_i aw
    simp at cV
    subst cV
    refine ⟨he,h1,ab,aI,aw,?_⟩
    unfold pw at he
    split at he
    ·rename_i hu;rw [hu];simpa using he
    ·cases he
   ·cases cV
  ·cases cV
end
structure aa (h U:I) (own:Nat→Prop):Prop where
 n:h.n≤U.n
 get:∀ j,j<h.n→¬own j→U.get j=h.get j
 glob:U.glob=h.glob
def none_:Nat→Prop:=fun _=>False
theorem aa.refl (h:I) (own:Nat→Prop):aa h h own:=⟨Nat.le_refl _,fun _ _ _=>rfl,rfl⟩
theorem aa.trans {h h1 ab:I} {o c0:Nat→Prop} (a:aa h h1 o) (b:aa h1 ab c0) (av:∀ k,k<h.n→c0 k→o k):aa h ab o :=
 ⟨Nat.le_trans a.n b.n,fun j aC bc=>(b.get j (Nat.lt_of_lt_of_le aC a.n) fun al=>bc (av j aC al)).trans (a.get j aC bc),b.glob.trans a.glob⟩
theorem aa.trans' {h h1 ab:I} {o:Nat→Prop} (a:aa h h1 o) (b:aa h1 ab o):aa h ab o:=a.trans b fun _ _ h=>h
theorem aa.mono {h U:I} {o o':Nat→Prop} (a:aa h U o) (hm:∀ k,o k→o' k):aa h U o':=⟨a.n,fun j aC bc=>a.get j aC fun al=>bc (hm j al),a.glob⟩
theorem aa.up {h U:I} {o:Nat→Prop} (a:aa h U none_):aa h U o:=a.mono fun _ h=>h.elim
theorem aa.push (h:I) (o:aD) (own:Nat→Prop):aa h (h.push o) own:=⟨by simp [I.push],fun j aC _=>by simp [I.push,show j≠h.n by omega],rfl⟩
theorem aa.set (h:I) (i:Nat) (o:aD):aa h (h.set i o) (·=i):=⟨Nat.le_refl _,fun j aC bc=>by simp [I.set];intro ad;exact absurd ad bc,rfl⟩
theorem aa.kq {ay h:I} {own:Nat→Prop} (k:aa ay h own) {i:Nat} (hi:ay.n≤i) (o:aD):aa ay (h.set i o) own :=
 k.trans (aa.set h i o) fun j aC al=>by omega
theorem aa.cB {ay h:I} {own:Nat→Prop} (k:aa ay h own) (o:aD):aa ay (h.push o) own:=k.trans' (aa.push h o own)
def aA:V→Option Nat
 | .aj i _ _ _=>some i
 | _=>none
def aW (v:V):Nat→Prop:=fun k=>aA v=some k
def Own (h:I) (e:TypeId) (sz:Nat) (v:V) (cs:List V):Prop :=
 ((v=.ag∨v=.z0)∧cs=[]) ∨
 ∃ i len cap c ex,v=.aj i 0 len cap∧i<h.n∧h.get i=.cells c e ex∧cs.length=len * sz∧c.take (len * sz)=cs ∧
  ((cap<ai∧cap * sz≤c.length∧len≤cap)∨(cap=ai∧ex=some sz))
theorem Own.ag (h:I) (e:TypeId) (sz:Nat):Own h e sz .ag []:=.inl ⟨.inl rfl,rfl⟩
theorem Own.au {h U:I} {e:TypeId} {sz:Nat} {v:V} {cs:List V} {own:Nat→Prop} (av:Own h e sz v cs) (hk:aa h U own) (bc:∀ k,aA v=some k→¬own k):Own U e sz v cs:=by
 rcases av with av | ⟨i,len,cap,c,ex,rfl,hi,aE,rest⟩
 ·exact .inl av
 ·exact .inr ⟨i,len,cap,c,ex,rfl,Nat.lt_of_lt_of_le hi hk.n,(hk.get i hi (bc i rfl)).trans aE,rest⟩
theorem Own.cP {h U:I} {e:TypeId} {sz:Nat} {v:V} {cs:List V} (av:Own h e sz v cs) (hk:aa h U none_):Own U e sz v cs:=av.au hk fun _ _ h=>h
theorem Own.lt {h:I} {e:TypeId} {sz:Nat} {v:V} {cs:List V} (av:Own h e sz v cs):∀ k,aA v=some k→k<h.n:=by
 intro k hk
 rcases av with ⟨rfl | rfl,_⟩ | ⟨i,len,cap,c,ex,rfl,hi,_⟩
 ·simp [aA] at hk
 ·simp [aA] at hk
 ·simp [aA] at hk;omega
theorem Own.fresh {h:I} {e:TypeId} {sz:Nat} (c:List V) (len cap:Nat) (al:c.length=cap * sz) (aw:len≤cap) (hu:cap<ai) :
  Own (h.push (.cells c e none)) e sz (.aj h.n 0 len cap) (c.take (len * sz)) :=
 .inr ⟨h.n,len,cap,c,none,rfl,by simp [I.push],by simp [I.push],by rw [List.length_take,al];exact Nat.min_eq_left (Nat.mul_le_mul_right _ aw),rfl,.inl ⟨hu,by omega,aw⟩⟩
theorem Own.grown {h:I} {e:TypeId} {sz i len:Nat} {cs:List V} (hi:i<h.n) (aE:h.get i=.cells cs e (some sz)) (aw:cs.length=len * sz) :
  Own h e sz (.aj i 0 len ai) cs :=
 .inr ⟨i,len,ai,cs,some sz,rfl,hi,aE,aw,by rw [←aw];exact List.take_length,.inr ⟨rfl,rfl⟩⟩
def nP (h:I) (a b:V):Prop:=aA b=aA a∨∀ k,aA b=some k→h.n≤k
theorem HE {P:Program} {t tx:TypeId} {T:kY} (cV:fF P t=some T) (dK:0<T.sz)
  {h:I} {s x:V} {cs:List V} (av:Own h T.e T.sz s cs) {n:Nat} {news:List V} (gS:e3 P T.sz tx x h=some (n,news)) (aJ:news.length=n * T.sz)
  (h1:(cs.length+news.length) * T.bs≤lim) (ab:cs.length+news.length≤lim) :
  ∃ v U,k6 P t tx s x h=some (v,U)∧Own U T.e T.sz v (cs++news)∧aa h U (aW s)∧nP h s v:=by
 obtain ⟨he,bB,bn,hE,eH,_⟩:=sR cV
 unfold k6
 simp only [he,bB,bn,hE,eH,if_true,gS]
 have start:∀ s:V,(s=.ag∨s=.z0)→cs=[]→∃ v U,(if n=0 then some (s,h) else if n * T.bs≤lim∧n≤lim then some (.aj h.n 0 n ai,h.push (.cells news T.e (some T.sz))) else none)=some (v,U)∧Own U T.e T.sz v (cs++news)∧aa h U (aW s)∧nP h s v:=fun s J dd=>by
  subst dd
  by_cases ay:n=0
  ·subst ay
   have:news=[]:=List.eq_nil_of_length_eq_zero (by simpa using aJ)
   subst this
   exact ⟨s,h,by simp,.inl ⟨J,rfl⟩,aa.refl _ _,.inl rfl⟩
  ·have sS:n≤news.length:=by rw [aJ];exact Nat.le_mul_of_pos_right n dK
   have bf:n * T.bs≤lim:=Nat.le_trans (Nat.mul_le_mul_right T.bs (by omega)) h1
   have bx:n≤lim:=by omega
   exact ⟨.aj h.n 0 n ai,h.push (.cells news T.e (some T.sz)),by simp [ay,bf,bx],Own.grown (by simp [I.push]) (by simp [I.push]) (by simpa using aJ),aa.push _ _ _,.inr fun k hk=>by simp [aA] at hk;omega⟩
 rcases av with ⟨rfl | rfl,dd⟩ | ⟨i,len,cap,c,ex,rfl,hi,aE,hlen,cp,cQ⟩
 ·exact start _ (.inl rfl) dd
 ·exact start _ (.inr rfl) dd
 ·by_cases ay:n=0
  ·subst ay
   have:news=[]:=List.eq_nil_of_length_eq_zero (by simpa using aJ)
   subst this
   exact ⟨.aj i 0 len cap,h,by simp,by rw [List.append_nil];exact .inr ⟨i,len,cap,c,ex,rfl,hi,aE,hlen,cp,cQ⟩,aa.refl _ _,.inl rfl⟩
  ·have sS:len+n≤cs.length+news.length:=by
    rw [aJ,hlen,←Nat.add_mul];exact Nat.le_mul_of_pos_right _ dK
   have bf:(len+n) * T.bs≤lim:=Nat.le_trans (Nat.mul_le_mul_right T.bs sS) h1
   have bx:len+n≤lim:=by omega
   have cr:len * T.sz≤c.length:=by
    have:=congrArg List.length cp
    rw [List.length_take,hlen] at this
    omega
   simp only [ay,bf,bx,and_self,if_true,if_false,aE]
   rcases cQ with ⟨kT,lT,hle⟩ | ⟨rfl,rfl⟩
   ·simp only [kT,if_true]
    by_cases ff:len+n≤cap
    ·have dU:0+(len+n) * T.sz≤c.length:=by rw [Nat.zero_add];exact Nat.le_trans (Nat.mul_le_mul_right _ ff) lT
     have hll:(lay c (len * T.sz) news).length=c.length:=co _ _ _ (by rw [aJ,←Nat.add_mul];omega)
     simp only [ff,if_true,dU]
     refine ⟨_,_,rfl,.inr ⟨i,len+n,cap,lay c (0+len * T.sz) news,ex,rfl,hi,by simp [I.set],by simp [hlen,aJ,Nat.add_mul],?_,.inl ⟨kT,?_,ff⟩⟩,⟨Nat.le_refl _,fun j aC bc=>?_,rfl⟩,.inl rfl⟩
     ·simp only [Nat.zero_add,lay,cp,Nat.add_mul,←aJ]
      have:(cs++news).length=len * T.sz+news.length:=by simp [hlen]
      rw [←this]
      exact List.take_left
     ·rw [Nat.zero_add,hll];exact lT
     ·simp only [I.set]
      rw [if_neg (by intro cI;subst cI;simp [aW,aA] at bc)]
    ·simp only [ff,if_false]
     have vH:0+len * T.sz≤c.length:=by omega
     simp only [vH,if_true,List.drop_zero,cp]
     exact ⟨_,_,rfl,Own.grown (by simp [I.push]) (by simp [I.push]) (by simp [hlen,aJ,Nat.add_mul]),aa.push _ _ _,.inr fun k hk=>by simp [aA] at hk;omega⟩
   ·simp only [Nat.lt_irrefl,if_false,true_and,cr,and_self,if_true]
    refine ⟨_,_,rfl,Own.grown (by simp [I.push,I.set]) (by simp [I.push,I.set,cp]) (by simp [hlen,aJ,Nat.add_mul]),⟨by simp [I.push,I.set],fun j aC bc=>?_,rfl⟩,.inr fun k hk=>by simp [aA] at hk;omega⟩
    have h1:j≠i:=by intro cI;subst cI;simp [aW,aA] at bc
    have ab:j≠h.n:=by omega
    simp [I.push,I.set,h1,ab]
theorem yZ {P:Program} {t:TypeId} {h:I} {sz n:Nat} {cs:List V} (hk:gL P t=some 1) (aw:cs.length=n * sz) (ec:cs.all (·.one)=true):e3 P sz t (.an n cs) h=some (n,cs):=by
 obtain ⟨d,hu,a7⟩:=yY hk
 cases d<;>simp [sF] at a7
 simp only [e3,hu]
 rw [if_pos ⟨aw,ec⟩]
theorem an9 {α:Type} (z:List α):made z 1=z:=by simp [made]
theorem HF {P:Program} {t:TypeId} {T:kY} (cV:fF P t=some T) (dK:0<T.sz)
  {h:I} {s:V} {cs xs:List V} (av:Own h T.e T.sz s cs) (aw:xs.length=T.sz) (ec:xs.all (·.one)=true)
  (h1:(cs.length+T.sz) * T.bs≤lim) (ab:cs.length+T.sz≤lim) :
  ∃ v U,k6 P t t s (.aj h.n 0 1 1) (h.push (.cells xs T.e none))=some (v,U)∧Own U T.e T.sz v (cs++xs)∧aa h U (aW s)∧nP h s v:=by
 obtain ⟨he,bB,bn,hE,eH,hu⟩:=sR cV
 have hk:=aa.push h (.cells xs T.e none) none_
 have gS:e3 P T.sz t (.aj h.n 0 1 1) (h.push (.cells xs T.e none))=some (1,xs):=by
  simp only [e3,hu,I.push,if_true,Nat.one_mul,Nat.zero_add,List.drop_zero]
  rw [List.take_of_length_le (by omega),if_pos ⟨by omega,ec⟩]
 obtain ⟨v,U,aL,e9,cF,cO⟩:=HE (tx:=t) cV dK (av.cP hk) gS (by omega) (by rw [aw];exact h1) (by rw [aw];exact ab)
 refine ⟨v,U,aL,e9,(hk.up).trans' cF,cO.imp id fun ad k qd=>?_⟩
 have:=ad k qd
 simp [I.push] at this
 omega
structure Acc (ay h:I) (e:TypeId) (sz:Nat) (v:V) (cs:List V):Prop where
 own:Own h e sz v cs
 au:aa ay h none_
 new:∀ k,aA v=some k→ay.n≤k
theorem Acc.nil {ay h:I} {e:TypeId} {sz:Nat} (k:aa ay h none_):Acc ay h e sz .ag []:=⟨Own.ag _ _ _,k,by simp [aA]⟩
theorem Acc.elem {P:Program} {t:TypeId} {T:kY} (cV:fF P t=some T) {ay h:I} {s:V} {cs xs:List V} (a:Acc ay h T.e T.sz s cs) (dK:0<T.sz) (aw:xs.length=T.sz) (ec:xs.all (·.one)=true)
  (h1:(cs.length+T.sz) * T.bs≤lim) (ab:cs.length+T.sz≤lim) :
  ∃ v U,k6 P t t s (.aj h.n 0 1 1) (h.push (.cells xs T.e none))=some (v,U)∧Acc ay U T.e T.sz v (cs++xs):=by
 obtain ⟨v,U,aL,e9,cF,cO⟩:=HF cV dK a.own aw ec h1 ab
 refine ⟨v,U,aL,e9,a.au.trans cF fun k hk al=>?_,fun k hk=>?_⟩
 ·have:=a.new k al;omega
 ·rcases cO with cO | cO
  ·exact a.new k (cO ▸ hk)
  ·exact Nat.le_trans a.au.n (cO k hk)
theorem Acc.app {P:Program} {t tx:TypeId} {T:kY} (cV:fF P t=some T) {ay h:I} {s x:V} {cs news:List V} (a:Acc ay h T.e T.sz s cs) (dK:0<T.sz) {n:Nat} (gS:e3 P T.sz tx x h=some (n,news)) (aJ:news.length=n * T.sz)
  (h1:(cs.length+news.length) * T.bs≤lim) (ab:cs.length+news.length≤lim) :
  ∃ v U,k6 P t tx s x h=some (v,U)∧Acc ay U T.e T.sz v (cs++news):=by
 obtain ⟨v,U,aL,e9,cF,cO⟩:=HE cV dK a.own gS aJ h1 ab
 refine ⟨v,U,aL,e9,a.au.trans cF fun k hk al=>?_,fun k hk=>?_⟩
 ·have:=a.new k al;omega
 ·rcases cO with cO | cO
  ·exact a.new k (cO ▸ hk)
  ·exact Nat.le_trans a.au.n (cO k hk)
theorem Own.length {h:I} {e:TypeId} {v:V} {cs:List V} {sz:Nat} (av:Own h e sz v cs) (bn:0<sz) (P:Program) {t:TypeId} (hk:gL P t=some 1):cE P t v h=some (.int .i64 (cs.length / sz:Nat)):=by
 rcases av with ⟨rfl | rfl,rfl⟩ | ⟨i,len,cap,c,ex,rfl,hi,aE,hlen,_⟩
 ·rw [B2 hk];simp
 ·rw [Du hk];simp
 ·rw [B1 hk,hlen,Nat.mul_div_cancel _ bn]
theorem aV.refl (r:V) (h:I):aV r h r h:=fun ρ B aG w r' hw aN=>⟨ρ,Ren.le.refl ρ,hw,aN⟩
theorem aV.trans {r cq ck:V} {h h1 ab:I} (a:aV r h cq h1) (b:aV cq h1 ck ab):aV r h ck ab:=fun ρ B aG w r' hw aN=>
 let ⟨ρ1,fg,bK,v1⟩:=a ρ B aG w r' hw aN
 let ⟨ρ2,dN,bV,v2⟩:=b ρ1 B aG w r' bK v1
 ⟨ρ2,fg.trans dN,bV,v2⟩
theorem aV.own {h:I} {e:TypeId} {sz:Nat} {v:V} {cs:List V} (av:Own h e sz v cs) {n:Nat} (aJ:cs.length=n * sz) (bn:0<sz):∃ ab,aV v h (.an n cs) ab∧aa h ab (aW v):=by
 rcases av with ⟨rfl | rfl,rfl⟩ | ⟨i,len,cap,c,ex,rfl,hi,aE,hlen,cp,cQ⟩
 ·have ay:n=0:=by
   have:n * sz=0:=by simpa using aJ.symm
   rcases Nat.mul_eq_zero.1 this with h | h<;>omega
  subst ay
  refine ⟨h,fun ρ B aG w r' hw aN=>⟨ρ,Ren.le.refl ρ,hw,?_⟩,aa.refl _ _⟩
  cases aN
  exact .fH none 0 (by simp)
 ·have ay:n=0:=by
   have:n * sz=0:=by simpa using aJ.symm
   rcases Nat.mul_eq_zero.1 this with h | h<;>omega
  subst ay
  exact ⟨h,fun ρ B aG w r' hw aN=>by
   cases aN with
   | z0 a aL=>exact ⟨ρ,Ren.le.refl ρ,hw,.fH a 0 (by simp)⟩,aa.refl _ _⟩
 ·have nB:n=len:=by
   have:n * sz=len * sz:=by omega
   exact Nat.eq_of_mul_eq_mul_right bn this
  subst nB
  refine ⟨h.set i .dead,fun ρ B aG w r' hw aN=>?_,(aa.set h i .dead).mono fun k hk=>by subst hk;rfl⟩
  obtain ⟨ρ',hle,bo,b,bh,arr,aq,aB,al,aw⟩:=hw.freeze aE
  obtain ⟨cZ,hs,eN,gz,rfl⟩:=aN.ft
  rw [aq] at eN
  simp at eN
  obtain ⟨rfl,rfl⟩:=eN
  have cr:n * sz≤c.length:=by
   have:=congrArg List.length cp
   rw [List.length_take,hlen] at this
   omega
  refine ⟨ρ',hle,bo,.an 0 n _ aB gz (by rw [hlen];omega) fun k v v' h1 ab=>?_⟩
  have hk:k<n * sz:=by rw [←hlen];exact (List.getElem?_eq_some_iff.1 h1).1
  rw [←cp,List.getElem?_take,if_pos hk] at h1
  refine (aw.2 k v v' h1 ?_).mono hle
  rw [List.getElem?_take,if_pos (by omega),Array.getElem?_toList]
  simpa using ab
def aS (l:List V) (h:I) (dN:List V) (ab:I):Prop :=
 ∀ (ρ:Ren) (B:Nat) (aG w:World) (b7:List Value),aM ρ B aG h w→aQ ρ l b7→∃ ρ',ρ.le ρ'∧aM ρ' B aG ab w∧aQ ρ' dN b7
theorem aS.refl (l:List V) (h:I):aS l h l h:=fun ρ B aG w b7 hw aw=>⟨ρ,Ren.le.refl ρ,hw,aw⟩
theorem aS.cons {v v2:V} {l dN:List V} {h h1 ab:I} (a:aV v h v2 h1) (b:aS l h1 dN ab):aS (v::l) h (v2::dN) ab:=fun ρ B aG w b7 hw aw=>by
 obtain ⟨v',k1,rfl,aN,bM⟩:=aw.dF
 obtain ⟨ρ1,fg,bK,v1⟩:=a ρ B aG w v' hw aN
 obtain ⟨ρ2,dN,bV,v2⟩:=b ρ1 B aG w k1 bK (bM.mono fg)
 exact ⟨ρ2,fg.trans dN,bV,.cons (v1.mono dN) v2⟩
theorem aV.tuple {l dN:List V} {h ab:I} (a:aS l h dN ab):aV (.tuple l) h (.tuple dN) ab:=fun ρ B aG w r' hw aN=>by
 cases aN with
 | tuple J af=>
  obtain ⟨ρ1,fg,bK,v1⟩:=a ρ B aG w _ hw (c1.list ⟨J,af⟩)
  exact ⟨ρ1,fg,bK,v1.ij.tuple⟩
def bb (v:V):Prop:=∀ (ρ ρ':Ren) (v':Value),ax ρ v v'→(∀ b a,ρ.frz b=some a→ρ'.frz b=some a)→ax ρ' v v'
def aO (l:List V):Prop:=∀ v ∈ l,bb v
theorem aO.nil:aO []:=by simp [aO]
theorem aO.cons {v:V} {l:List V} (h:bb v) (g:aO l):aO (v::l):=by
 intro x af
 rcases List.mem_cons.1 af with rfl | af
 ·exact h
 ·exact g x af
theorem aO.flatMap {α:Type} {f:α→List V} {l:List α} (h:∀ x ∈ l,aO (f x)):aO (l.flatMap f):=by
 intro v aN
 obtain ⟨x,af,aN⟩:=List.mem_flatMap.1 aN
 exact h x af v aN
theorem aO.map {α:Type} {f:α→V} {l:List α} (h:∀ x ∈ l,bb (f x)):aO (l.map f):=by
 intro v aN
 obtain ⟨x,af,rfl⟩:=List.mem_map.1 aN
 exact h x af
theorem bb.flat {v:V} {a:Value} (h:k3 v=some a):bb v:=fun ρ ρ' v' aN _=>by
 have:=tZ aN h
 subst this
 cases aN<;>simp [k3] at h<;>first | (constructor;done) | skip
 rename_i xs dE J af
 cases xs with
 | nil=>exact .tuple J (by simp)
 | cons x t=>simp at h
theorem bb.int (k:IntKind) (n:Int):bb (.int k n):=bb.flat rfl
theorem bb.bool (b:Bool):bb (.bool b):=bb.flat rfl
theorem bb.ag:bb .ag:=bb.flat rfl
theorem bb.an {n:Nat} {cs:List V} (h:aO cs):bb (.an n cs):=fun ρ ρ' v' aN aB=>by
 rcases aN.hS with ⟨rfl,rfl,a,fv,aL,rfl⟩ | ⟨b,o,cap,arr,ar,aJ,av,af,rfl⟩
 ·exact .fH a _ aL
 ·exact .an o n cap (aB _ _ ar) aJ av fun k v v' h1 ab=>h v (List.mem_of_getElem? h1) ρ ρ' v' (af k v v' h1 ab) aB
theorem bb.agg {cs:List V} (h:aO cs):bb (.agg cs):=fun ρ ρ' v' aN aB=>by
 cases aN with
 | agg J af=>exact .agg J fun k v v' h1 ab=>h v (List.mem_of_getElem? h1) ρ ρ' v' (af k v v' h1 ab) aB
theorem bb.tuple {cs:List V} (h:aO cs):bb (.tuple cs):=fun ρ ρ' v' aN aB=>by
 cases aN with
 | tuple J af=>exact .tuple J fun k v v' h1 ab=>h v (List.mem_of_getElem? h1) ρ ρ' v' (af k v v' h1 ab) aB
theorem ax.join {ρ ρ':Ren} (hle:ρ.le ρ') {v:V} {a:Value} (h:ax ρ v a):∀ {b:Value},ax ρ' v b→ax ⟨ρ.ren,ρ'.frz,ρ.dfr⟩ v b:=by
 induction h with
 | ptr hi o=>
  intro b ar
  obtain ⟨cZ,bx,eN,rfl⟩:=ar.mw
  rw [hle.ren _ _ hi] at eN
  simp at eN
  obtain ⟨rfl,rfl⟩:=eN
  exact ax.ptr (ρ:=⟨ρ.ren,ρ'.frz,ρ.dfr⟩) hi o
 | aj hi o len cap aw=>
  intro b ar
  obtain ⟨cZ,bx,eN,gz,rfl⟩:=ar.ft
  rw [hle.ren _ _ hi] at eN
  simp at eN
  obtain ⟨rfl,rfl⟩:=eN
  exact ax.aj (ρ:=⟨ρ.ren,ρ'.frz,ρ.dfr⟩) hi o len cap aw
 | map hi=>
  intro b ar
  cases ar with
  | map eN=>
   rw [hle.ren _ _ hi] at eN
   simp at eN
   obtain ⟨rfl,rfl⟩:=eN
   exact .map hi
 | @an r8 o n cap arr cs ar aJ av af ih=>
  intro b h7
  rcases h7.hS with ⟨rfl,rfl,a,fv,aL,rfl⟩ | ⟨cZ,cw,qW,kD,eC,sT,iz,cn,rfl⟩
  ·exact .fH a _ aL
  ·refine .an cw n qW eC sT iz fun k v v' h1 ab=>?_
   have hk:k<cs.length:=(List.getElem?_eq_some_iff.1 h1).1
   exact ih k v _ h1 (Array.getElem?_eq_getElem (by omega)) (cn k v v' h1 ab)
 | @«at» r8 o arr cs ar av af ih=>
  intro b h7
  obtain ⟨cZ,cw,kD,eC,iz,cn,rfl⟩:=h7.sy
  refine .at cw eC iz fun k v v' h1 ab=>?_
  have hk:k<cs.length:=(List.getElem?_eq_some_iff.1 h1).1
  exact ih k v _ h1 (Array.getElem?_eq_getElem (by omega)) (cn k v v' h1 ab)
 | kB h=>
  intro b ar
  cases ar with
  | func _ ay=>cases ay
  | kB ab=>
   have:=hle.ren _ _ h
   rw [ab] at this
   cases this
   exact .kB h
 | func fn ay J bM af aX gm Lz=>
  intro b ar
  cases ar with
  | kB h=>cases ay
  | func fn anf dy sU cn JY=>
   refine .func fn ay dy sU (fun k v v' h1 ab=>?_) (fun k v v' h1 ab=>?_)
   ·have hk:=(List.getElem?_eq_some_iff.1 h1).1
    exact gm k v _ h1 (Array.getElem?_eq_getElem (by omega)) (cn k v v' h1 ab)
   ·have hk:=(List.getElem?_eq_some_iff.1 h1).1
    exact Lz k v _ h1 (Array.getElem?_eq_getElem (by omega)) (JY k v v' h1 ab)
 | iface t h ih=>intro b ar;cases ar with | iface t g=>exact .iface t (ih g)
 | agg J af gm=>
  intro b ar
  cases ar with
  | agg dy cn=>
   refine .agg dy fun k v v' h1 ab=>?_
   have hk:=(List.getElem?_eq_some_iff.1 h1).1
   exact gm k v _ h1 (Array.getElem?_eq_getElem (by omega)) (cn k v v' h1 ab)
 | tuple J af gm=>
  intro b ar
  cases ar with
  | tuple dy cn=>
   refine .tuple dy fun k v v' h1 ab=>?_
   have hk:=(List.getElem?_eq_some_iff.1 h1).1
   exact gm k v _ h1 (Array.getElem?_eq_getElem (by omega)) (cn k v v' h1 ab)
 | fH a fv aL=>
  intro b ar
  rcases ar.hS with ⟨_,_,a,fv,aL,rfl⟩ | ⟨cZ,cw,qW,kD,eC,sT,iz,cn,rfl⟩
  ·exact .fH a _ aL
  ·exact .an cw 0 qW eC sT iz (by simp)
 | z0 a aL=>intro b ar;cases ar with | z0 a aL=>exact .z0 a aL
 | top=>intro b ar;exact .top _
 | _=>intro b ar;cases ar;constructor
theorem aQ.join {ρ ρ':Ren} (hle:ρ.le ρ') {l:List V} {a b:List Value} (h:aQ ρ l a) (g:aQ ρ' l b):aQ ⟨ρ.ren,ρ'.frz,ρ.dfr⟩ l b:=by
 refine ⟨g.1,fun k v v' h1 ab=>?_⟩
 have hk:k<l.length:=(List.getElem?_eq_some_iff.1 h1).1
 exact (h.2 k v _ h1 (List.getElem?_eq_getElem (by rw [←h.1];exact hk))).join hle (g.2 k v v' h1 ab)
theorem aM.forget {ρ ρ':Ren} {B HG:Nat} {aG QE w w':World} {h U:I} (R:aM ρ HG QE h w) (dA:aM ρ' B aG U w') (hle:ρ.le ρ') (hk:aa h U none_):aM ⟨ρ.ren,ρ'.frz,ρ.dfr⟩ B aG h w':=by
 have aT:∀ i,h.get i≠.dead→i<h.n:=fun i hi=>by obtain ⟨_,_,_,_,ad,_⟩:=R.heap.live hi;exact ad
 refine ⟨⟨R.heap.gv,R.heap.inj,fun i=>?_,dA.heap.frz,fun g cs aE=>?_,dA.heap.base⟩,dA.below⟩
 ·cases aE:h.get i with
  | dead=>trivial
  | cells c e ex=>
   have hi:i<h.n:=aT i (by rw [aE];simp)
   have c0:=R.heap.obj i
   have cw:=dA.heap.obj i
   rw [hk.get i hi (by simp [none_]),aE] at cw
   rw [aE] at c0
   obtain ⟨b,bh,arr,aq,aB,b3,hw,al,aw,af⟩:=c0
   obtain ⟨cZ,hs,kD,fs,gy,n2,eS,xc,gz,cn⟩:=cw
   have:=hle.ren i _ aq
   rw [fs] at this
   simp at this
   obtain ⟨rfl,rfl⟩:=this
   exact ⟨cZ,hs,kD,aq,gy,n2,eS,xc,aw.join hle gz,cn⟩
  | map es a1=>
   have hi:i<h.n:=aT i (by rw [aE];simp)
   have c0:=R.heap.obj i
   have cw:=dA.heap.obj i
   rw [hk.get i hi (by simp [none_]),aE] at cw
   rw [aE] at c0
   obtain ⟨b,bh,arr,aq,aB,b3,hw,hm⟩:=c0
   obtain ⟨cZ,hs,kD,fs,gy,n2,eS,my⟩:=cw
   have:=hle.ren i _ aq
   rw [fs] at this
   simp at this
   obtain ⟨rfl,rfl⟩:=this
   refine ⟨cZ,hs,kD,aq,gy,n2,eS,my.1,fun k x y af aX=>?_⟩
   have fy:k<es.length:=(List.getElem?_eq_some_iff.1 af).1
   obtain ⟨_,c2,eE⟩:=hm.2 k x _ af (Array.getElem?_eq_getElem (by rw [←hm.1];exact fy))
   obtain ⟨ug,k9,xd⟩:=my.2 k x y af aX
   exact ⟨ug,c2.join hle k9,eE.join hle xd⟩
  | dP k vs=>
   have hi:i<h.n:=aT i (by rw [aE];simp)
   have c0:=R.heap.obj i
   have cw:=dA.heap.obj i
   rw [hk.get i hi (by simp [none_]),aE] at cw
   rw [aE] at c0
   obtain ⟨b,bh,arr,aq,aB,b3,hw,aw⟩:=c0
   obtain ⟨cZ,hs,kD,fs,gy,n2,eS,gz⟩:=cw
   have:=hle.ren i _ aq
   rw [fs] at this
   simp at this
   obtain ⟨rfl,rfl⟩:=this
   refine ⟨cZ,hs,kD,aq,gy,n2,?_,aw.join hle gz⟩
   cases k with
   | ix=>exact eS
   | loop j p a c y=>
    obtain ⟨D,wJ,q,h1,ab⟩:=hw
    obtain ⟨acj,QF,eE,aI,h4⟩:=eS
    have:=hle.ren j _ h1
    rw [aI] at this
    simp at this
    obtain ⟨rfl,rfl⟩:=this
    exact ⟨acj,QF,eE,h1,h4⟩
  | iter m s l st=>
   have hi:i<h.n:=aT i (by rw [aE];simp)
   have c0:=R.heap.obj i
   have cw:=dA.heap.obj i
   rw [hk.get i hi (by simp [none_]),aE] at cw
   rw [aE] at c0
   obtain ⟨b,bh,pt,p1,aq,aB,b3,hm,hw⟩:=c0
   obtain ⟨cZ,hs,QG,QH,fs,gy,n2,my,eS⟩:=cw
   have:=hle.ren i _ aq
   rw [fs] at this
   simp at this
   obtain ⟨rfl,rfl⟩:=this
   have:=hle.ren m _ hm
   rw [my] at this
   simp at this
   obtain ⟨rfl,rfl⟩:=this
   exact ⟨cZ,hs,QG,QH,aq,gy,n2,hm,eS⟩
 ·obtain ⟨arr,aB,aq⟩:=R.heap.glob g cs aE
  obtain ⟨kD,gy,fs⟩:=dA.heap.glob g cs (by rw [hk.glob];exact aE)
  have:=hle.frz g _ aB
  rw [gy] at this
  simp at this
  subst this
  exact ⟨kD,gy,(aq.list.join hle fs.list).ij⟩
theorem cd.pure {P:Program} {fid:FuncId} {args:List V} {h:I} {v:V} {E:I→Prop} (aN:bb v) (al:cd P fid args h (fun r U=>∃ ab,aV r U v ab∧aa h ab none_) (fun U=>aa h U none_∧E h)) :
  cd P fid args h (fun r U=>r=v∧U=h) (fun U=>U=h∧E h):=by
 intro ρ B aG w args' hw aL
 refine (al ρ B aG w args' hw aL).mono fun e w' ad=>?_
 rcases ad with ⟨ρ',r,r',U,he,aq,bo,hle,ab,vD,hk⟩ | ⟨ρ',gT,U,he,n5,bo,hle,hk,dH⟩
 ·obtain ⟨ρ2,L3,eS,w9⟩:=vD ρ' B aG w' r' bo aq
  have aw:=hle.trans L3
  exact .inl ⟨⟨ρ.ren,ρ2.frz,ρ.dfr⟩,v,r',h,he,aN _ _ _ w9 fun _ _ h=>h,hw.forget eS aw hk,⟨fun _ _ h=>h,aw.frz,rfl⟩,rfl,rfl⟩
 ·exact .inr ⟨⟨ρ.ren,ρ'.frz,ρ.dfr⟩,gT,h,he,n5,hw.forget bo hle hk,⟨fun _ _ h=>h,hle.frz,rfl⟩,rfl,dH⟩
theorem Pure.of {P:Program} {fid:FuncId} {args:List V} {h:I} {v:V} (aN:bb v) (al:ah P fid args h (fun r U=>∃ ab,aV r U v ab∧aa h ab none_)):Pure P fid args h v:=by
 have:=cd.pure (E:=fun _=>False) aN (al.e)
 exact cd.mono this (fun _ _ h=>h) fun _ h=>h.2.elim
theorem Pure.val {P:Program} {fid:FuncId} {args:List V} {h:I} {v:V} (aN:bb v) (al:ah P fid args h (fun r U=>r=v∧aa h U none_)):Pure P fid args h v :=
 .of aN (al.mono fun r U ⟨e,k⟩=>⟨U,by subst e;exact aV.refl _ _,k⟩)
theorem Acc.cast {ay h:I} {e:TypeId} {sz:Nat} {v:V} {cs:List V} (a:Acc ay h e sz v cs) {n:Nat} (aJ:cs.length=n * sz) (bn:0<sz):∃ ab,aV v h (.an n cs) ab∧aa ay ab none_:=by
 obtain ⟨ab,al,hk⟩:=aV.own a.own aJ bn
 exact ⟨ab,al,a.au.trans hk fun k aT cO=>by have:=a.new k cO;omega⟩
def B3 (P:Program) (ops:List Oper) (h:I):List Oper→(ak→Prop)→ak→Prop
 | [],K,f=>K f
 | o::rest,K,f=>match ej ops o.guard f with
  | some true=>∃ v,vE P o h f v∧B3 P ops h rest K (f.put o.dst v)
  | some false=>B3 P ops h rest K (f.put o.dst (.tuple []))
  | none=>False
def fa (P:Program) (ops:List Oper) (h:I) (o:Oper) (v:V) (f:ak):Prop :=
 (ej ops o.guard f=some true∧vE P o h f v)∨(ej ops o.guard f=some false∧v=.tuple [])
theorem ack {P:Program} {c:Call} {ty:TypeId} {ba cg:Operand→V} {h:I} (he:∀ x ∈ c.operands,ba x=cg x):gZ P c ty ba h=gZ P c ty cg h:=by
 have iI:c.args.toList.map ba=c.args.toList.map cg:=List.map_congr_left fun x af=>he x (by simp at af;simp [Call.operands,af])
 unfold gZ
 rw [iI]
 cases al:c.callee with
 | value f=>have aB:ba f=cg f:=he f (by simp [Call.operands,al]);simp only [aB]
 | invoke r m=>have aB:ba r=cg r:=he r (by simp [Call.operands,al]);simp only [aB]
 | builtin b=>cases b<;>rfl
theorem acm {P:Program} {o:Oper} {ba cg:Operand→V} {h:I} (he:∀ x ∈ o.op.operands,ba x=cg x):cG P o ba h=cG P o cg h:=by
 obtain ⟨dst,op,type,pos,after,guard⟩:=o
 have AN:∀ ps:Array (Nat×Operand),(∀ x ∈ ps.toList.map (·.2),ba x=cg x) →
   (ps.toList.map fun p=>(p.1,ba p.2))=(ps.toList.map fun p=>(p.1,cg p.2)):=fun ps az=>
  List.map_congr_left fun p hm=>by rw [az p.2 (List.mem_map.2 ⟨p,hm,rfl⟩)]
 cases op<;>simp only [Op.operands] at he<;>simp only [cG]
 case build t ps=>rw [AN ps fun x af=>he x (by simpa using af)]
 case buildSlice t n ps=>rw [AN ps fun x af=>he x (by simpa using af)]
 case makeFunc fn first captured=>
  have aK:=List.map_congr_left (l:=first.toList) fun x af=>he x (by simp at af;simp [af])
  have a6:=List.map_congr_left (l:=captured.toList) fun x af=>he x (by simp at af;simp [af])
  cases fn<;>simp only [aK,a6]
 case call c=>exact ack he
 case makeMap t r=>cases r<;>simp_all
 case slice t x lo hi mx=>cases lo<;>cases hi<;>cases mx<;>simp_all
 case next it s=>cases s<;>simp_all
 all_goals (first | rfl | (simp_all;done))
theorem ak.eval_put {f:ak} {h:I} {dst:Option Tmp} {v:V} {x:Operand} (af:∀ d,dst=some d→x≠.tmp d):(f.put dst v).eval h x=f.eval h x:=by
 cases dst with
 | none=>rfl
 | some d=>
  cases x with
  | tmp t=>
   have bc:t≠d:=fun e=>af d rfl (e ▸ rfl)
   simp [ak.eval,ak.put,bc]
  | _=>rfl
theorem ak.put_comm (f:ak) {x y:Option Tmp} (v u:V) (h:∀ d,x=some d→y≠some d):(f.put x v).put y u=(f.put y u).put x v:=by
 cases x with
 | none=>rfl
 | some d=>
  cases y with
  | none=>rfl
  | some e=>
   have bc:d≠e:=fun he=>h d rfl (he ▸ rfl)
   funext t
   simp only [ak.put]
   by_cases h1:t=e
   ·subst h1;simp [Ne.symm bc]
   ·simp [h1]
section
variable {P:Program} {ops:Array Oper} {h:I} {md:Region.Mode}
theorem L4 (o:Oper) (f:ak) (dst:Option Tmp) (v:V) (aw:∀ d,dst=some d→d ∉ o.looksAt ops):cG P o ((f.put dst v).eval h) h=cG P o (f.eval h) h :=
 acm fun x af=>ak.eval_put fun d a7 QI=>aw d a7 (by
  subst QI
  exact List.mem_append_left _ (List.mem_filterMap.2 ⟨.tmp d,by simpa using af,rfl⟩))
theorem L5 (o:Oper) (f:ak) (dst:Option Tmp) (v:V) (aw:∀ d,dst=some d→d ∉ o.looksAt ops):ej ops.toList o.guard (f.put dst v)=ej ops.toList o.guard f:=by
 cases dst with
 | none=>rfl
 | some d=>
  unfold ej
  cases aE:o.guard with
  | none=>rfl
  | some acn=>
   obtain ⟨g,want⟩:=acn
   simp only
   have e:ops.toList[g]?=ops[g]?:=by simp
   rw [e]
   cases bM:(ops[g]?).bind (·.dst) with
   | none=>rfl
   | some t=>
    have bc:t≠d:=fun e=>aw d rfl (by subst e;simp [Oper.looksAt,aE,bM])
    simp [ak.put,bc]
theorem fa.put {o:Oper} {v:V} {f:ak} (aX:fa P ops.toList h o v f) (dst:Option Tmp) (u:V) (aw:∀ d,dst=some d→d ∉ o.looksAt ops):fa P ops.toList h o v (f.put dst u):=by
 unfold fa vE at *
 rw [L5 o f dst u aw,L4 o f dst u aw]
 exact aX
theorem fa.vI {o:Oper} {v:V} {f:ak} (dst:Option Tmp) (u:V) (aw:∀ d,dst=some d→d ∉ o.looksAt ops) (aX:fa P ops.toList h o v (f.put dst u)):fa P ops.toList h o v f:=by
 unfold fa vE at *
 rwa [L5 o f dst u aw,L4 o f dst u aw] at aX
end
class Dv where
 h:I
def nQ (P:Program) (ol l:List Oper) [H:Dv] [K:fq] (f:ak):Prop:=B3 P ol H.h l (fun f=>K.go f H.h) f
def l7 (P:Program) (o:Oper) (ol l:List Oper) [H:Dv] [K:fq] (f:ak):Prop:=∃ v,vE P o H.h f v∧@nQ P ol l H K (f.put o.dst v)
section
variable {P:Program} {ol l:List Oper} {H:Dv} {K:fq} {f:ak} {d:Option Tmp} {ty:TypeId} {pos:String} {b0:Array Edge} {op:Op} {g:Option (Nat×Bool)}
theorem aco:@nQ P ol [] H K f=@hG K f H.h:=nr rfl
theorem acp:@nQ P ol (⟨d,op,ty,pos,b0,none⟩::l) H K f=@l7 P ⟨d,op,ty,pos,b0,none⟩ ol l H K f:=nr rfl
def uP (v:V) (o:Oper) (P:Program) (ol l:List Oper) [H:Dv] [K:fq] (f:ak):Prop :=
 match v,o.guard with
 | .bool c,some (_,b)=>if c=b then @l7 P o ol l H K f else @nQ P ol l H K (f.put o.dst (.tuple []))
 | .top,_=>False
 | _,_=>@nQ P ol l H K (f.put o.dst (.tuple []))
theorem acq {j:Nat} {b:Bool}:@nQ P ol (⟨d,op,ty,pos,b0,some (j,b)⟩::l) H K f =
  (match sM ol j with | some t=>@uP (f t) ⟨d,op,ty,pos,b0,some (j,b)⟩ P ol l H K f | none=>@nQ P ol l H K (f.put d (.tuple []))):=by
 rw [Hz]
 show B3 P ol H.h (⟨d,op,ty,pos,b0,some (j,b)⟩::l) (fun f=>K.go f H.h) f=_
 simp only [B3,ej]
 cases bM:(ol[j]?).bind (·.dst) with
 | none=>rfl
 | some t=>
  simp only [uP]
  cases aB:f t<;>try rfl
  rename_i c
  simp only
  by_cases al:c=b
  ·subst al;simp only [beq_self_eq_true,if_true];rfl
  ·have:(c==b)=false:=by simp [al]
   simp only [this,if_neg al]
   rfl
theorem acr {b:Bool} {j:Nat}:@uP (.bool b) ⟨d,op,ty,pos,b0,some (j,b)⟩ P ol l H K f=@l7 P ⟨d,op,ty,pos,b0,some (j,b)⟩ ol l H K f:=if_pos rfl
theorem acs {j:Nat}:@uP (.bool true) ⟨d,op,ty,pos,b0,some (j,false)⟩ P ol l H K f=@nQ P ol l H K (f.put d (.tuple [])):=nr rfl
theorem acu {j:Nat}:@uP (.bool false) ⟨d,op,ty,pos,b0,some (j,true)⟩ P ol l H K f=@nQ P ol l H K (f.put d (.tuple [])):=nr rfl
theorem acv {j:Nat} {b:Bool} {vs:List V}:@uP (.tuple vs) ⟨d,op,ty,pos,b0,some (j,b)⟩ P ol l H K f=@nQ P ol l H K (f.put d (.tuple [])):=nr rfl
def nR (o:Option V) (d:Option Tmp) (P:Program) (ol l:List Oper) [H:Dv] [K:fq] (f:ak):Prop:=match o with | some v=>@nQ P ol l H K (f.put d v) | none=>False
theorem acw {v:V}:@nR (some v) d P ol l H K f=@nQ P ol l H K (f.put d v):=nr rfl
theorem pB {o:Oper} {x:Option V} (he:cG P o (f.eval H.h) H.h=eI x H.h):@l7 P o ol l H K f=@nR x o.dst P ol l H K f:=by
 unfold l7 vE
 rw [he]
 cases x with
 | none=>simp [eI,nR]
 | some v=>
  simp [eI,nR]
theorem acx {x:Operand}:@l7 P ⟨d,.move x,ty,pos,b0,g⟩ ol l H K f=@nQ P ol l H K (f.put d (f.eval H.h x)):=by
 rw [pB (x:=some (f.eval H.h x)) rfl];rfl
theorem acy {x:Operand}:@l7 P ⟨d,.assign x,ty,pos,b0,g⟩ ol l H K f=@nQ P ol l H K (f.put d (f.eval H.h x)):=by
 rw [pB (x:=some (f.eval H.h x)) rfl];rfl
theorem acz {c a b:Operand}:@l7 P ⟨d,.pick c a b,ty,pos,b0,g⟩ ol l H K f=@nR (BW (f.eval H.h c) (f.eval H.h a) (f.eval H.h b)) d P ol l H K f :=
 pB (by unfold cG BW eI;simp only;cases f.eval H.h c<;>rfl)
theorem acA {t:TypeId} {a:Operand}:@l7 P ⟨d,.load t a,ty,pos,b0,g⟩ ol l H K f=@nR (i6 P t (f.eval H.h a) H.h) d P ol l H K f:=pB rfl
theorem acB {t:TypeId} {ps:Array (Nat×Operand)}:@l7 P ⟨d,.build t ps,ty,pos,b0,g⟩ ol l H K f=@nR (li P t (ps.toList.map fun p=>(p.1,f.eval H.h p.2))) d P ol l H K f:=pB rfl
theorem acC {x:Operand}:@l7 P ⟨d,.nilCheck x,ty,pos,b0,g⟩ ol l H K f=@nR (sN (f.eval H.h x)) d P ol l H K f :=
 pB (by
  unfold cG sN eI;simp only
  generalize f.eval H.h x=y
  cases y<;>try rfl
  rename_i fn xs ys
  cases fn<;>rfl)
theorem acD {op:BinOp} {t Ht:TypeId} {x y:Operand}:@l7 P ⟨d,.binOp op t x y Ht,ty,pos,b0,g⟩ ol l H K f=@nR (cl P op t x y (f.eval H.h x) (f.eval H.h y)) d P ol l H K f:=pB rfl
theorem acE {op:UnOp} {t:TypeId} {x:Operand}:@l7 P ⟨d,.unOp op t x,ty,pos,b0,g⟩ ol l H K f=@nR (rF P op (f.eval H.h x)) d P ol l H K f:=pB rfl
theorem acF {s t:TypeId} {x:Operand}:@l7 P ⟨d,.convert s t x,ty,pos,b0,g⟩ ol l H K f=@nR (k8 P s t (f.eval H.h x) H.h) d P ol l H K f:=by
 have he:cG P ⟨d,.convert s t x,ty,pos,b0,g⟩ (f.eval H.h) H.h=(match k8 P s t (f.eval H.h x) H.h with | some v=>some (.val v H.h) | none=>dV (p9 P s t (f.eval H.h x) H.h)):=rfl
 cases al:k8 P s t (f.eval H.h x) H.h with
 | some v=>
  rw [al] at he
  exact pB (x:=some v) he
 | none=>
  rw [al] at he
  unfold l7 vE nR
  rw [he]
  cases hm:p9 P s t (f.eval H.h x) H.h with
  | none=>simp [dV]
  | some p=>
   obtain ⟨v,U⟩:=p
   have:=Qt hm
   simp [dV,this]
theorem acG {t:TypeId} {x:Operand} {lo hi mx:Option Operand}:@l7 P ⟨d,.slice t x lo hi mx,ty,pos,b0,g⟩ ol l H K f=@nR (jL P t (f.eval H.h x) (lo.map (f.eval H.h)) (hi.map (f.eval H.h)) (mx.map (f.eval H.h))) d P ol l H K f:=pB rfl
theorem acH {t:TypeId} {x:Operand} {k:Nat}:@l7 P ⟨d,.fieldAddr t x k,ty,pos,b0,g⟩ ol l H K f=@nR (wL P t (f.eval H.h x) k) d P ol l H K f:=pB rfl
theorem acI {t:TypeId} {x y:Operand}:@l7 P ⟨d,.indexAddr t x y,ty,pos,b0,g⟩ ol l H K f=@nR (ik P t (f.eval H.h x) (f.eval H.h y)) d P ol l H K f:=pB rfl
theorem acJ {t:TypeId} {x y:Operand} {ok:Bool}:@l7 P ⟨d,.lookup t x y ok,ty,pos,b0,g⟩ ol l H K f=@nR (nM P t (f.eval H.h x) (f.eval H.h y) ok H.h) d P ol l H K f:=pB rfl
theorem acK {x:Operand} {k:Nat}:@l7 P ⟨d,.extract x k,ty,pos,b0,g⟩ ol l H K f=@nR (od (f.eval H.h x) k) d P ol l H K f :=
 pB (by unfold cG od eI;simp only;cases f.eval H.h x<;>rfl)
theorem acL {t:TypeId} {x:Operand}:@l7 P ⟨d,.call ⟨.builtin .len,#[x],#[t]⟩,ty,pos,b0,g⟩ ol l H K f=@nR (cE P t (f.eval H.h x) H.h) d P ol l H K f :=
 pB (by unfold cG gZ mX eI;simp only [List.map_cons,List.map_nil];cases cE P t (f.eval H.h x) H.h<;>rfl)
end
section
variable {h:I} {o o':aD} {i j:Nat}
theorem fR:(h.push o).n=h.n+1:=nr rfl
theorem kE:(h.set i o).n=h.n:=nr rfl
theorem acM:(h.push o).glob=h.glob:=nr rfl
theorem c4:(h.push o).get h.n=o:=by simp [I.push]
theorem jN (hi:i<h.n):(h.push o).get i=h.get i:=by simp [I.push,show i≠h.n by omega]
theorem Dw (i:Nat):(h.push o).get i=if i=h.n then o else h.get i:=nr rfl
theorem e4:(h.set i o).get i=o:=by simp [I.set]
theorem nS (bc:i≠j):(h.set j o).get i=h.get i:=by simp [I.set,bc]
theorem ll (i j:Nat):(h.set j o).get i=if i=j then o else h.get i:=nr rfl
theorem set_push:(h.push o).set h.n o'=h.push o':=by
 unfold I.push I.set
 simp only
 congr 1
 funext k
 split<;>rfl
theorem set_set:(h.set i o).set i o'=h.set i o':=by
 unfold I.set
 simp only
 congr 1
 funext k
 split<;>rfl
theorem acN (aE:h.get i=o):h.set i o=h:=by
 unfold I.set
 cases h with
 | mk n get glob=>
  simp only at aE⊢
  congr 1
  funext k
  by_cases hk:k=i
  ·subst hk;simp [aE]
  ·simp [hk]
theorem Dx {a b:aD}:((h.push a).push b).get (h.n+1)=b:=by
 have:=c4 (h:=h.push a) (o:=b)
 rwa [fR] at this
theorem Dy {a b:aD}:((h.push a).push b).get h.n=a:=by
 rw [jN (by rw [fR];omega),c4]
theorem acO {a b c:aD}:((h.push a).push b).set (h.n+1) c=(h.push a).push c:=by
 have:=set_push (h:=h.push a) (o:=b) (o':=c)
 rwa [fR] at this
theorem acP {a b c:aD}:((h.push a).push b).set h.n c=(h.push c).push b:=by
 simp only [I.push,I.set,I.mk.injEq,true_and,and_true]
 funext k
 by_cases h1:k=h.n
 ·subst h1
  simp
 ·simp [h1]
end
section
variable {P:Program} {t dm fZ:TypeId} {kk:IntKind} {α:Type} {enc:α→V}
theorem acQ {a b:Int} {d:TypeDesc} (a7:d=.int kk):vw P dm d (.int kk a) (.int kk b)=some (a==b):=by
 subst a7
 simp [vw,lK,k3,yN,Instr.sameNow]
theorem acR {b:Bool} {k:Int} {d:TypeDesc} (hu:P.underlying dm=some d) (a7:d=.int kk):ub P b dm (.int kk k)=true:=by
 subst a7
 unfold ub
 simp only [lK,k3]
 unfold Instr.checkKey
 rw [ji,Ds hu]
 rfl
end
def dw (es:List (Nat×V×V)) (a1:Nat):Prop:=(∀ e ∈ es,e.1<a1)∧(es.map (·.1)).Nodup
theorem dw.nil (a1:Nat):dw [] a1:=⟨by simp,by simp⟩
theorem dw.snoc {es:List (Nat×V×V)} {a1:Nat} (h:dw es a1) (k v:V):dw (es++[(a1,k,v)]) (a1+1):=by
 refine ⟨fun e he=>?_,?_⟩
 ·rcases List.mem_append.1 he with he | he
  ·have:=h.1 e he;omega
  ·simp at he;subst he;simp
 ·rw [List.map_append,List.nodup_append]
  refine ⟨h.2,by simp,fun a aL b ar=>?_⟩
  obtain ⟨e,he,rfl⟩:=List.mem_map.1 aL
  have:=h.1 e he
  simp at ar
  omega
theorem HH {r m a1:Nat} {seen:List Nat} {es:List (Nat×V×V)} {h:I} {d:Option Tmp} {K:fq} {f:ak} (aq:h.get r=.iter m a1 seen a1) (hm:h.get m=.map es a1) (J:dw es a1)
  (ay:l2 es seen=[]→@hG K (f.put d (.tuple [.bool false])) h)
  (h1:∀ e ∈ l2 es seen,@hG K (f.put d (.tuple [.bool true,e.2.1,e.2.2])) (h.set r (.iter m a1 (seen++[e.1]) a1))):@HA (r7 (.ptr r 0) h) d K f:=by
 unfold r7
 simp only [aq,hm]
 have h6:¬((!seen.isEmpty&&!es.isEmpty&&es.all (fun e=>decide (a1≤e.1)))=true):=by
  intro ad
  simp only [Bool.and_eq_true,Bool.not_eq_true',List.all_eq_true,decide_eq_true_eq] at ad
  cases es with
  | nil=>simp at ad
  | cons e r=>
   have ab:=ad.2 e (by simp)
   have aI:=J.1 e (by simp)
   omega
 rw [if_neg h6]
 unfold HA
 intro v U ew
 rcases List.mem_append.1 ew with ew | ew
 ·split at ew
  ·rename_i im
   simp at ew
   obtain ⟨rfl,rfl⟩:=ew
   refine ay ?_
   cases aw:l2 es seen with
   | nil=>rfl
   | cons e r=>
    have ew:e ∈ l2 es seen:=by rw [aw];simp
    have ab:=List.all_eq_true.1 im e ew
    have aI:=J.1 e (List.mem_filter.1 ew).1
    simp at ab
    omega
  ·simp at ew
 ·obtain ⟨e,he,heq⟩:=List.mem_map.1 ew
  simp at heq
  obtain ⟨rfl,rfl⟩:=heq
  exact h1 e he
theorem HI {r m a1:Nat} {seen:List Nat} {es:List (Nat×V×V)} {h:I} {e:Nat×V×V} (aq:h.get r=.iter m a1 (seen++[e.1]) a1) (hm:h.get m=.map es a1) (J:dw es a1) (he:e ∈ es) :
  BS (.ptr r 0) h=some (.tuple [e.2.1,e.2.2]):=by
 unfold BS
 have aw:(seen++[e.1]).getLast?=some e.1:=by simp
 simp only [aq,hm,aw,if_true]
 have aB:es.find? (fun x=>x.1==e.1)=some e:=by
  have ab:=J.2
  clear hm J
  induction es with
  | nil=>simp at he
  | cons a es ih=>
   rw [List.find?_cons]
   rw [List.map_cons,List.nodup_cons] at ab
   rcases List.mem_cons.1 he with rfl | iC
   ·simp
   ·have:a.1≠e.1:=fun ad=>ab.1 (by rw [ad];exact List.mem_map.2 ⟨e,iC,rfl⟩)
    rw [show (a.1==e.1)=false by simp [this]]
    exact ih iC ab.2
 rw [aB]
 rfl
theorem HJ {es:List (Nat×V×V)} {seen:List Nat} {e:Nat×V×V} (he:e ∈ l2 es seen):(l2 es (seen++[e.1])).length<(l2 es seen).length:=by
 unfold l2 at *
 have h1:(es.filter fun x=>!(seen++[e.1]).contains x.1)=(es.filter fun x=>!seen.contains x.1).filter fun x=>x.1 !=e.1:=by
  rw [List.filter_filter]
  congr 1
  funext x
  by_cases h1:seen.contains x.1=true
  ·simp at h1;simp [h1]
  ·by_cases ab:x.1=e.1
   ·simp [ab]
   ·simp at h1;simp [h1,ab]
 rw [h1]
 have:=List.length_filter_lt_length_iff_exists (p:=fun x:Nat×V×V=>x.1 !=e.1) (l:=es.filter fun x=>!seen.contains x.1)
 exact this.2 ⟨e,he,by simp⟩
theorem HK {P:Program} {t:TypeId} {q:TypeId×TypeId×TypeDesc} {i:Nat} {h:I} {es:List (Nat×V×V)} {a1:Nat} (hm:eo P t=some q) (aE:h.get i=.map es a1):jp P t (.map i) h=some (.ptr h.n 0,h.push (.iter i a1 [] a1)):=by
 unfold jp
 simp [hm,aE]
theorem acS {P:Program} {t:TypeId} {h:I}:yO P t none h=some (.map h.n,h.push (.map [] 0)):=nr rfl
def be (w:World):Ren:={ ren:=fun _=>none,frz:=fun b=>match w.heap[b]? with | some (.cells c _ _)=>some c | _=>none }
def qX:I:={ n:=0,get:=fun _=>.dead,glob:=fun _=>none }
theorem HL {w:World} {b:Nat} {c:Array Value} {e:TypeId} {ei:Nat×Nat} (h:w.heap[b]?=some (.cells c e ei)):(be w).frz b=some c:=by simp [be,h]
theorem QJ (w:World):aM (be w) w.heap.size w qX w:=by
 refine ⟨⟨fun _ _=>rfl,fun _ _ _ _ _ h=>by simp [qX] at h,fun _=>trivial,fun b arr ar=>?_,fun g cs aE=>by simp [qX] at aE,Nat.le_refl _⟩,fC.refl _ _⟩
 simp only [be] at ar
 split at ar
 ·rename_i c e ei ae
  simp at ar
  subst ar
  exact ⟨e,ei,ae⟩
 ·cases ar
def ga (ops:Array Oper):Nat→Nat→Nat→Bool
 | 0,_,_=>false
 | n+1,k,i=>match ops[k]? with
  | some o=>o.after.any fun e=>Region.binds .any e&&(e.on==i||ga ops n e.on i)
  | none=>false
def Down (ops:Array Oper) (listed:Array Bool):Prop:=∀ k o,ops[k]?=some o→listed.getD k false=true→∀ e ∈ o.after,Region.binds .any e=true→listed.getD e.on false=true
theorem L6 {ops:Array Oper} {listed:Array Bool} (a7:Down ops listed):∀ (n k i:Nat),(∀ o,ops[k]?=some o→∀ e ∈ o.after,Region.binds .any e=true→listed.getD e.on false=true)→ga ops n k i=true→listed.getD i false=true
 | 0,k,i,_,h=>by simp [ga] at h
 | n+1,k,i,hk,h=>by
  unfold ga at h
  cases av:ops[k]? with
  | none=>simp [av] at h
  | some o=>
   simp only [av] at h
   obtain ⟨j,aC,ad⟩:=Array.any_eq_true.1 h
   simp only [Bool.and_eq_true,Bool.or_eq_true,beq_iff_eq] at ad
   have hm:o.after[j] ∈ o.after:=Array.getElem_mem aC
   have h1:=hk o av _ hm ad.1
   rcases ad.2 with ab | ab
   ·rw [←ab];exact h1
   ·exact L6 a7 n _ i (fun o' e9 e he ar=>a7 _ o' e9 h1 e he ar) ab
theorem Down.add {ops:Array Oper} {listed:Array Bool} (a7:Down ops listed) {i:Nat} (aq:i ∈ Region.ready .any ops listed):Down ops (listed.setIfInBounds i true):=by
 obtain ⟨_,o,av,im⟩:=mem_ready.1 aq
 intro k o' e9 hk e he ar
 by_cases iy:k=i
 ·subst iy
  rw [av] at e9
  obtain rfl:o=o':=by simpa using e9
  exact getD_set_true (im e he ar)
 ·rw [getD_set_ne false (Ne.symm iy)] at hk
  exact getD_set_true (a7 k o' e9 hk e he ar)
def oh (P:Program) (ops:Array Oper) (es:List Nat) (K E:ak→I→Prop):Nat→Array Bool→ak→I→Prop
 | 0,listed,f,h=>Region.ready .any ops listed=[]∧K f h
 | n+1,listed,f,h=>(Region.ready .any ops listed=[]→K f h) ∧
  ∀ i ∈ Region.ready .any ops listed,∀ o,ops[i]?=some o →
   if es.contains i then (match ej ops.toList o.guard f with
    | some true=>eL P o (fun bE U=>oh P ops es K E n (listed.setIfInBounds i true) bE U) E f h
    | some false=>oh P ops es K E n (listed.setIfInBounds i true) (f.put o.dst (.tuple [])) h
    | none=>False)
   else ∃ v,fa P ops.toList h o v f∧oh P ops es K E n (listed.setIfInBounds i true) (f.put o.dst v) h
theorem y0 {P:Program} {n:Nat} {ops:Array Oper} {es:List Nat} (aU:ops.toList.all (fun o=>j3 n o.dst)=true) {ρ0:Ren} {B:Nat} {aG:World} {Q:ey→ak→I→Prop} :
  ∀ (m:Nat) (listed:Array Bool) (f:ak) (h:I) (ρ:Ren) (a:Act) (w:World),ρ0.le ρ→aM ρ B aG h w→df ρ n f a→oh P ops es (Q .normal) (Q .panic) m listed f h→wpAnyIn Fence.wide 0 P .any ops (jm n B aG ρ0 Q) m listed a w
 | 0,listed,f,h,ρ,a,w,hle,hw,aB,ae=>⟨ae.1,⟨ρ,.normal,f,h,trivial,hw,aB,hle,ae.2⟩⟩
 | m+1,listed,f,h,ρ,a,w,hle,hw,aB,ae=>by
  refine ⟨fun ay=>⟨ρ,.normal,f,h,trivial,hw,aB,hle,ae.1 ay⟩,fun i hi=>?_⟩
  unfold wpOpIn
  cases av:ops[i]? with
  | none=>
   obtain ⟨_,o,JZ,_⟩:=mem_ready.1 hi
   rw [av] at JZ;cases JZ
  | some o=>
   simp only
   have bZ:=ae.2 i hi o av
   have a7:j3 n o.dst=true:=(List.all_eq_true.1 aU) o (by rw [Array.mem_toList_iff];exact Array.mem_of_getElem? av)
   by_cases he:es.contains i=true
   ·rw [if_pos he] at bZ
    cases kX:ej ops.toList o.guard f with
    | none=>simp [kX] at bZ
    | some b=>
     rw [Hu aB ops o kX]
     cases b with
     | true=>
      simp only [kX] at bZ
      simp only [if_true]
      exact LS pn.wide a7 hle hw aB bZ (fun ρ' bE U du w' sV bo bG aJ=>y0 aU m _ bE U ρ' du w' sV bo bG aJ)
       (fun ρ' bE U du w' gT sV bo bG n5 dH=>⟨ρ',.panic,bE,U,n5,bo,bG,sV,dH⟩)
     | false=>
      simp only [kX] at bZ
      simp only [Bool.false_eq_true,if_false]
      exact ⟨fun _ _=>trivial,y0 aU m _ _ h ρ _ w hle hw (aB.put (Dl _) o.dst a7) bZ⟩
   ·rw [if_neg he] at bZ
    obtain ⟨v,aX,fh⟩:=bZ
    rcases aX with ⟨kX,J⟩ | ⟨kX,rfl⟩
    ·rw [Hu aB ops o kX]
     simp only [if_true]
     refine LS pn.wide (next:=fun bE U=>bE=f.put o.dst v∧U=h) (exc:=fun _ _=>False) a7 hle hw aB ?_ (fun ρ' bE U du w' sV bo bG aJ=>?_) (fun _ _ _ _ _ _ _ _ _ _ he=>he.elim)
     ·unfold eL
      rcases J with J | ⟨g,args,J,az⟩
      ·rw [J];exact ⟨rfl,rfl⟩
      ·rw [J]
       exact az.e.mono (fun r U ⟨aK,a6⟩=>⟨by rw [aK],a6⟩) fun _ h=>h
     ·obtain ⟨rfl,rfl⟩:=aJ
      exact y0 aU m _ _ _ ρ' du w' sV bo bG fh
    ·rw [Hu aB ops o kX]
     simp only [Bool.false_eq_true,if_false]
     exact ⟨fun _ _=>trivial,y0 aU m _ _ h ρ _ w hle hw (aB.put (Dl _) o.dst a7) fh⟩
section
variable {P:Program} {ops:Array Oper} {es:List Nat} {K E:ak→I→Prop}
def qY (ops:Array Oper) (es:List Nat):Nat→Nat→Array Bool→Bool
 | 0,_,listed=>(Region.ready .any ops listed).isEmpty
 | fuel+1,k,listed=>(if es.contains k then Region.ready .any ops listed==[k]
   else (Region.ready .any ops listed).contains k&&Region.free .any ops listed k&&es.all fun e=>listed.getD e true||ga ops ops.size e k)&&qY ops es fuel (k+1) (listed.setIfInBounds k true)
theorem acT {o:Oper} {K qe E:ak→I→Prop} (hk:∀ f h,K f h→qe f h) {f:ak} {h:I} (J:eL P o K E f h):eL P o qe E f h:=by
 unfold eL at *
 split at J
 ·exact hk _ _ J
 ·exact J.mono (fun _ _ h=>hk _ _ h) fun _ h=>h
 ·exact fun v U hm=>hk _ _ (J v U hm)
 ·exact J
 ·exact J.mono (fun _ _ h=>hk _ _ h)
 ·exact J.elim
theorem QK {listed:Array Bool} {i e:Nat} (h:listed.getD e true=true):(listed.setIfInBounds i true).getD e true=true:=by
 by_cases mB:i=e
 ·subst mB
  by_cases aT:i<listed.size
  ·simp [aT]
  ·simp [aT]
 ·rw [getD_set_ne true mB];exact h
theorem HM:∀ (l:List Oper) (k:Nat) (listed:Array Bool) (f:ak) (h:I),(∀ j,l[j]?=ops[k+j]?)→Down ops listed →
  qY ops es l.length k listed=true→jn P ops.toList es K E k l f h→oh P ops es K E l.length listed f h
 | [],_,_,_,_,_,_,b3,ae=>⟨by simpa [qY] using b3,ae⟩
 | o::l,k,listed,f,h,aw,dr,b3,ae=>by
  have ay:ops[k]?=some o:=by simpa using (aw 0).symm
  have dq:∀ j,l[j]?=ops[k+1+j]?:=fun j=>by have:=aw (j+1);simpa [Nat.add_assoc,Nat.add_comm 1 j] using this
  simp only [List.length_cons,qY,Bool.and_eq_true] at b3
  obtain ⟨al,xe⟩:=b3
  unfold jn at ae
  by_cases he:es.contains k=true
  ·rw [if_pos he] at al ae
   have aq:Region.ready .any ops listed=[k]:=by simpa using al
   refine ⟨fun h=>(by rw [aq] at h;cases h),fun i hi o' e9=>?_⟩
   rw [aq] at hi
   obtain rfl:i=k:=by simpa using hi
   rw [ay] at e9
   obtain rfl:o=o':=by simpa using e9
   rw [if_pos he]
   have sW:=dr.add (show i ∈ Region.ready .any ops listed by rw [aq];simp)
   cases hw:ej ops.toList o.guard f with
   | none=>simp [hw] at ae
   | some b=>
    cases b with
    | true=>
     simp only [hw] at ae⊢
     exact acT (fun bE U hk=>HM l (i+1) _ bE U dq sW xe hk) ae
    | false=>
     simp only [hw] at ae⊢
     exact HM l (i+1) _ _ h dq sW xe ae
  ·rw [if_neg he] at al ae
   simp only [Bool.and_eq_true] at al
   obtain ⟨⟨aq,aB⟩,L7⟩:=al
   have dL:k ∈ Region.ready .any ops listed:=by simpa using aq
   have:∃ v,fa P ops.toList h o v f∧jn P ops.toList es K E (k+1) l (f.put o.dst v) h:=by
    split at ae
    ·rename_i hw;obtain ⟨v,J,ae⟩:=ae;exact ⟨v,.inl ⟨hw,J⟩,ae⟩
    ·rename_i hw;exact ⟨.tuple [],.inr ⟨hw,rfl⟩,ae⟩
    ·exact ae.elim
   obtain ⟨v,aX,r9⟩:=this
   have iV:∀ e ∈ es,listed.getD e true=true∨ga ops ops.size e k=true:=fun e ph=>by
    have:=List.all_eq_true.1 L7 e ph
    simpa using this
   refine uh ay (by simpa using he) iV l.length listed f h dr (Region.free_spec ay aB) dL aX (fun e h1=>h1)
    (HM l (k+1) _ _ h dq (dr.add dL) xe r9)
where
 uh {i:Nat} {jO:Oper} {v:V} (hi:ops[i]?=some jO) (mB:es.contains i=false) {uQ:Array Bool} (iV:∀ e ∈ es,uQ.getD e true=true∨ga ops ops.size e i=true)
   (fuel:Nat) (listed:Array Bool) (f:ak) (h:I) (dr:Down ops listed) (iJ:∀ j fS,ops[j]?=some fS→j≠i→listed.getD j true=false→(∀ e ∈ fS.after,Region.binds .any e=true→e.on≠i)→jO.apart ops fS=true)
   (aq:i ∈ Region.ready .any ops listed) (aX:fa P ops.toList h jO v f) (vJ:∀ e,uQ.getD e true=true→listed.getD e true=true)
   (H:oh P ops es K E fuel (listed.setIfInBounds i true) (f.put jO.dst v) h):oh P ops es K E (fuel+1) listed f h:=by
  induction fuel generalizing listed f with
  | zero=>
   refine ⟨fun h=>(by rw [h] at aq;cases aq),fun j aC o av=>?_⟩
   by_cases cI:j=i
   ·subst cI
    rw [hi] at av
    obtain rfl:jO=o:=by simpa using av
    rw [if_neg (by rw [mB];exact Bool.false_ne_true)]
    exact ⟨v,aX,H⟩
   ·have:=ready_mono aC cI
    rw [H.1] at this
    cases this
  | succ fuel ih=>
   refine ⟨fun h=>(by rw [h] at aq;cases aq),fun j aC fS nC=>?_⟩
   by_cases cI:j=i
   ·subst cI
    rw [hi] at nC
    obtain rfl:jO=fS:=by simpa using nC
    rw [if_neg (by rw [mB];exact Bool.false_ne_true)]
    exact ⟨v,aX,H⟩
   ·have qf:=(mem_ready.1 aq).1
    obtain ⟨oi,Dz,sX,im⟩:=mem_ready.1 aC
    rw [nC] at sX
    obtain rfl:fS=Dz:=by simpa using sX
    have xf:¬es.contains j=true:=fun al=>by
     rcases iV j (by simpa using al) with h1 | h1
     ·rw [vJ j h1] at oi;cases oi
     ·have ab:=L6 dr _ j i (fun o' e9 e he ar=>by
                                   rw [nC] at e9;obtain rfl:fS=o':=by simpa using e9
                                   exact im e he ar) h1
      rcases Nat.lt_or_ge i listed.size with U | U
      ·simp [U] at qf ab;rw [qf] at ab;cases ab
      ·simp [Array.getElem?_eq_none U] at ab
    have hH:=H.2 j (ready_mono aC cI) fS nC
    rw [if_neg xf] at hH⊢
    obtain ⟨u,DA,fh⟩:=hH
    have y1:∀ e ∈ fS.after,Region.binds .any e=true→e.on≠i:=fun e he ar heq=>by
     have h1:=im e he ar
     have ay:=qf
     rw [heq] at h1
     rcases Nat.lt_or_ge i listed.size with U | U
     ·simp [U] at ay h1;rw [ay] at h1;cases h1
     ·simp [Array.getElem?_eq_none U] at h1
    obtain ⟨bC,a2,a3⟩:=Oper.apart_spec (iJ j fS nC cI oi y1)
    refine ⟨u,DA.vI jO.dst v bC,?_⟩
    have qg:∀ k ok,ops[k]?=some ok→k≠i→(listed.setIfInBounds j true).getD k true=false →
      (∀ e ∈ ok.after,Region.binds .any e=true→e.on≠i)→jO.apart ops ok=true:=fun k ok hk iy qf h6=>by
     refine iJ k ok hk iy ?_ h6
     by_cases xg:j=k
     ·subst xg;exact oi
     ·rw [getD_set_ne true xg] at qf;exact qf
    refine ih (listed.setIfInBounds j true) (f.put fS.dst u) (dr.add aC) qg (ready_mono aq (Ne.symm cI)) (aX.put fS.dst u a3) (fun e h1=>QK (vJ e h1)) ?_
    rw [Array.setIfInBounds_comm _ _ cI,←ak.put_comm f v u a2]
    exact fh
end
theorem aZ.drawn {P:Program} {n id:Nat} {ops:Array Oper} (es:List Nat) (hm:P.follows .mixedOrders=true) (b3:qY ops es ops.size 0 (Array.replicate ops.size false)=true) (aU:ops.toList.all (fun o=>j3 n o.dst)=true) {Q:ey→ak→I→Prop} {f:ak} {h:I}
  (ae:jn P ops.toList es (Q .normal) (Q .panic) 0 ops.toList f h):aZ P n (.region id ops true) Q f h:=by
 intro ρ B aG a w hw aB
 refine wpIn_wide.1 (wpIn_region_any (n:=0) hm (y0 (ρ0:=ρ) (es:=es) aU _ _ f h ρ a _ (Ren.le.refl ρ) hw.drew aB ?_))
 have:=HM (P:=P) (es:=es) ops.toList 0 (Array.replicate ops.size false) f h (by simp) (fun k o av hk=>by simp [Array.getElem?_replicate] at hk;split at hk<;>simp_all) (by simpa using b3) ae
 simpa using this
class aoa where
 exc:ak→I→Prop
def xh (P:Program) (ol:List Oper) (es:List Nat) (k:Nat) (l:List Oper) [K:fq] (f:ak) (h:I):Prop:=jn P ol es K.go K.exc k l f h
theorem aZ.xi {P:Program} {n id:Nat} {ops:Array Oper} (es:List Nat) (hm:P.follows .mixedOrders=true) (b3:qY ops es ops.size 0 (Array.replicate ops.size false)=true) (aU:ops.toList.all (fun o=>j3 n o.dst)=true) {Q:sL} {f:ak} {h:I}
  (ae:@xh P ops.toList es 0 ops.toList (.out Q) f h):aZ P n (.region id ops true) Q.go f h:=aZ.drawn es hm b3 aU ae
section
variable {P:Program} {ol l:List Oper} {es:List Nat} {k:Nat} {K:fq} {f:ak} {h:I} {d:Option Tmp} {ty:TypeId} {pos:String} {b0:Array Edge} {op:Op} {g:Option (Nat×Bool)}
theorem QL:@xh P ol es k [] K f h=@hG K f h:=nr rfl
theorem QM:@hG (fq.rest P ol es k l K) f h=@xh P ol es k l K f h:=nr rfl
theorem acU {o:Oper} {h:I} {f:ak} {X E:ak→I→Prop} (aN:∀ v U,cG P o (f.eval h) h=some (.val v U)→U=h) (J:eL P o X E f h) (xj:∀ g a,cG P o (f.eval h) h≠some (.call g a)) (QN:∀ l,cG P o (f.eval h) h≠some (.alts l)) (uN:cG P o (f.eval h) h≠some .panic) (QO:∀ l a,cG P o (f.eval h) h≠some (.round l a)) :
  ∃ v,vE P o h f v∧X (f.put o.dst v) h:=by
 unfold eL at J
 cases he:cG P o (f.eval h) h with
 | none=>simp [he] at J
 | some s=>
  cases s with
  | val v U=>simp only [he] at J;have:=aN v U he;subst this;exact ⟨v,.inl he,J⟩
  | call g a=>exact absurd he (xj g a)
  | alts l=>exact absurd he (QN l)
  | panic=>exact absurd he uN
  | round l a=>exact absurd he (QO l a)
def l8:Op→Bool
 | .move _ | .assign _ | .pick .. | .build .. | .load .. | .nilCheck _ | .binOp .. | .unOp .. | .makeInterface .. | .makeFunc .. | .slice .. | .fieldAddr .. | .field .. | .indexAddr .. | .index .. | .lookup .. | .entry _ | .typeAssert .. | .extract ..=>true
 | .convert s d _=>s !=d
 | .call ⟨.builtin .len,_,_⟩ | .call ⟨.builtin .min,_,_⟩ | .call ⟨.builtin .max,_,_⟩=>true
 | _=>false
theorem L8 {x:Option V} {h:I} {s:Step} (aC:eI x h=some s):∃ v,s=.val v h:=by
 unfold eI at aC
 split at aC
 ·simp at aC;exact ⟨_,aC.symm⟩
 ·cases aC
theorem ui {o:Oper} (hi:l8 o.op=true) {ba:Operand→V} {s:Step} (he:cG P o ba h=some s):∃ v,s=.val v h:=by
 obtain ⟨dst,op,type,pos,after,guard⟩:=o
 unfold cG at he
 cases op<;>simp [l8] at hi<;>simp only at he
 case move x=>simp at he;exact ⟨_,he.symm⟩
 case assign x=>simp at he;exact ⟨_,he.symm⟩
 case pick c a b=>split at he<;>simp at he;exact ⟨_,he.symm⟩
 case nilCheck x=>split at he<;>simp at he<;>exact ⟨_,he.symm⟩
 case makeInterface t x=>split at he<;>simp at he;exact ⟨_,he.symm⟩
 case makeFunc fn xs ys=>cases fn<;>simp at he;exact ⟨_,he.symm⟩
 case extract t k=>split at he<;>first | exact L8 he | simp at he
 case convert a b x=>
  cases al:k8 P a b (ba x) h with
  | some v=>
   rw [al] at he
   exact ⟨v,(Option.some.inj he).symm⟩
  | none=>
   rw [al] at he
   have:p9 P a b (ba x) h=none:=by
    unfold p9
    split
    ·rw [if_neg (fun e=>hi e.1)]
    ·rfl
   rw [this] at he
   cases he
 case call c=>
  have ar:c.callee=.builtin .len∨c.callee=.builtin .min∨c.callee=.builtin .max:=by
   split at hi<;>simp_all
  have uR:∀ b,c.callee=.builtin b→(b=.len∨b=.min∨b=.max)→∃ v,s=.val v h:=fun b ar al=>by
   unfold gZ at he
   rw [ar] at he
   have iC:(match mX P b c.argTypes.toList type (vB c.args) (c.args.toList.map ba) h with | some (v,U)=>some (Step.val v U) | none=>none)=some s:=by
    rcases al with rfl | rfl | rfl<;>exact he
   cases aL:mX P b c.argTypes.toList type (vB c.args) (c.args.toList.map ba) h with
   | none=>rw [aL] at iC;cases iC
   | some p=>
    obtain ⟨v,U⟩:=p
    rw [aL] at iC
    simp at iC
    subst iC
    have:U=h:=by
     unfold mX at aL
     rcases al with rfl | rfl | rfl
     ·split at aL
      ·split at aL<;>simp at aL;exact aL.2.symm
      all_goals first
       | (simp at *;done)
       | (
         split at aL
         ·split at aL<;>simp at aL;exact aL.2.symm
         ·simp at aL)
     all_goals
      split at aL
      all_goals first
       | (simp at *;done)
       | (
         split at aL
         ·split at aL<;>simp at aL;exact aL.2.symm
         ·simp at aL)
    subst this
    exact ⟨v,rfl⟩
  rcases ar with ar | ar | ar
  ·exact uR _ ar (.inl rfl)
  ·exact uR _ ar (.inr (.inl rfl))
  ·exact uR _ ar (.inr (.inr rfl))
 all_goals exact L8 he
def xk (w:Option Bool) (o:Oper) (P:Program) (ol:List Oper) (es:List Nat) (k:Nat) (l:List Oper) [K:fq] (f:ak) (h:I):Prop :=
 match w with
 | some true=>@dI P o (fq.rest P ol es (k+1) l K) f h
 | some false=>@xh P ol es (k+1) l K (f.put o.dst (.tuple [])) h
 | none=>False
theorem acV {o:Oper} (hi:(l8 o.op||es.contains k)=true) (J:@xk (ej ol o.guard f) o P ol es k l K f h):@xh P ol es k (o::l) K f h:=by
 unfold xh jn
 unfold xk at J
 by_cases he:es.contains k=true
 ·rw [if_pos he]
  cases hw:ej ol o.guard f with
  | none=>simp [hw] at J
  | some b=>cases b<;>simp only [hw] at J⊢<;>exact J
 ·rw [if_neg he]
  have cO:l8 o.op=true:=by
   simp only [Bool.or_eq_true] at hi
   exact hi.resolve_right he
  cases hw:ej ol o.guard f with
  | none=>simp [hw] at J
  | some b=>
   cases b with
   | false=>simp only [hw] at J⊢;exact J
   | true=>
    simp only [hw] at J⊢
    have QP:eL P o (fun bE U=>jn P ol es K.go K.exc (k+1) l bE U) K.exc f h:=J
    exact acU (fun v U he=>by obtain ⟨u,hu⟩:=ui cO he;cases hu;rfl) QP
     (fun g a he=>by obtain ⟨u,hu⟩:=ui cO he;cases hu) (fun l he=>by obtain ⟨u,hu⟩:=ui cO he;cases hu) (fun he=>by obtain ⟨u,hu⟩:=ui cO he;cases hu) (fun l a he=>by obtain ⟨u,hu⟩:=ui cO he;cases hu)
theorem QQ {o:Oper} (hi:(l8 o.op||es.contains k)=true):@xh P ol es k (o::l) K f h=@xk (ej ol o.guard f) o P ol es k l K f h:=by
 refine propext ⟨fun aE=>?_,acV hi⟩
 unfold xh jn at aE
 unfold xk
 by_cases he:es.contains k=true
 ·rw [if_pos he] at aE
  cases hw:ej ol o.guard f with
  | none=>simp [hw] at aE
  | some b=>cases b<;>simp only [hw] at aE⊢<;>exact aE
 ·rw [if_neg he] at aE
  have cO:l8 o.op=true:=by
   simp only [Bool.or_eq_true] at hi
   exact hi.resolve_right he
  cases hw:ej ol o.guard f with
  | none=>simp [hw] at aE
  | some b=>
   cases b with
   | false=>simp only [hw] at aE⊢;exact aE
   | true=>
    simp only [hw] at aE⊢
    obtain ⟨v,ae,hk⟩:=aE
    show eL P o (fun bE U=>jn P ol es K.go K.exc (k+1) l bE U) K.exc f h
    unfold eL
    rcases ae with ae | ⟨g,a,ae,_⟩
    ·rw [ae];exact hk
    ·obtain ⟨u,hu⟩:=ui (h:=h) cO ae;cases hu
theorem QR {o:Oper}:@xk (some true) o P ol es k l K f h=@dI P o (fq.rest P ol es (k+1) l K) f h:=nr rfl
theorem mp:ej ol none f=some true:=nr rfl
def HN (v:V) (b:Bool):Option Bool:=match v with | .top=>none | .bool c=>some (c==b) | _=>some false
def L9 (t:Option Tmp) (f:ak) (b:Bool):Option Bool:=match t with | some t=>HN (f t) b | none=>some false
theorem QS {j:Nat} {b:Bool}:ej ol (some (j,b)) f=L9 (sM ol j) f b:=by
 rw [Hz]
 simp only [ej,L9]
 cases (ol[j]?).bind (·.dst) with
 | none=>rfl
 | some t=>unfold HN;first | rfl | (simp only [];done) | (cases f t<;>rfl)
theorem QT {t:Tmp} {b:Bool}:L9 (some t) f b=HN (f t) b:=nr rfl
theorem QU:HN (.bool false) false=some true:=nr rfl
end
section
variable {P:Program} {t e:TypeId} {x y v:V} {h:I}
def fz (P:Program) (t:TypeId):Option (List (Nat×Nat) ⊕ Nat) :=
 match Hm P t with
 | some pl=>some (.inl pl)
 | none=>match vv P t with
  | some (_,e)=>(ap P e).map .inr
  | none=>none
def HO (zs:Option (List V)) (b:Option (List (Nat×Nat) ⊕ Nat)) (parts:List (Nat×V)):Option V :=
 match zs,b with
 | some zs,some (.inl pl)=>(d7 (fun i=>pl[i]?) zs parts).map .agg
 | some zs,some (.inr sz)=>(d7 (fun i=>some (i * sz,sz)) zs parts).map .agg
 | _,_=>none
theorem acW {parts:List (Nat×V)}:li P t parts=HO (gw P t) (fz P t) parts:=by
 unfold li HO fz
 cases gw P t with
 | none=>rfl
 | some zs=>
  cases Hm P t with
  | some pl=>rfl
  | none=>
   simp only
   cases vv P t with
   | none=>rfl
   | some p=>
    obtain ⟨n,e⟩:=p
    simp only
    cases ap P e<;>rfl
theorem acX {zs:List V} {pl:List (Nat×Nat)} {parts:List (Nat×V)}:HO (some zs) (some (.inl pl)) parts=(d7 (fun i=>pl[i]?) zs parts).map .agg:=nr rfl
theorem acY {zs:List V} {sz:Nat} {parts:List (Nat×V)}:HO (some zs) (some (.inr sz)) parts=(d7 (fun i=>some (i * sz,sz)) zs parts).map .agg:=nr rfl
theorem acZ {place:Nat→Option (Nat×Nat)} {cs:List V}:d7 place cs []=some cs:=nr rfl
def Ma (place:Nat→Option (Nat×Nat)) (cs:List V) (p:Option (Nat×Nat)) (vs:Option (List V)) (r:List (Nat×V)):Option (List V) :=
 match p,vs with
 | some (off,size),some vs=>if vs.length=size∧off+size≤cs.length then d7 place (qR cs off vs) r else none
 | _,_=>none
theorem ac0 {place:Nat→Option (Nat×Nat)} {cs:List V} {i:Nat} {r:List (Nat×V)}:d7 place cs ((i,v)::r)=Ma place cs (place i) v.cells r:=by
 show (match place i,v.cells with | some (off,size),some vs=>_ | _,_=>none)=_
 unfold Ma
 rfl
theorem ac1 {place:Nat→Option (Nat×Nat)} {cs vs:List V} {off size:Nat} {r:List (Nat×V)}:Ma place cs (some (off,size)) (some vs) r=if vs.length=size∧off+size≤cs.length then d7 place (qR cs off vs) r else none:=nr rfl
def Mb (P:Program) (t:TypeId) (k:Nat):Option (Nat×Option Nat) :=
 match P.underlying t with
 | some (.struct di)=>match di[k]? with
  | some f=>match j4 P f.type,ap P f.type with
   | some true,some n=>some (f.offset,some n)
   | some false,some _=>some (f.offset,none)
   | _,_=>none
  | none=>none
 | _=>none
def Mc (p:Option (Nat×Option Nat)) (x:V):Option V :=
 match p,x with
 | some (off,some n),.agg cs=>some (.agg ((cs.drop off).take n))
 | some (off,none),.agg cs=>cs[off]?
 | _,_=>none
theorem ac2 {k:Nat}:yM P t x k=Mc (Mb P t k) x:=by
 unfold yM Mc Mb
 cases P.underlying t with
 | none=>rfl
 | some d=>
  cases d<;>try rfl
  rename_i di
  cases hk:di[k]? with
  | none=>cases x<;>simp [hk]
  | some f=>
   cases aq:j4 P f.type with
   | none=>cases x<;>simp [hk,aq,yL]
   | some b=>cases b<;>cases bB:ap P f.type<;>cases x<;>simp [hk,aq,bB,yL]
theorem ac3 {off:Nat} {cs:List V}:Mc (some (off,none)) (.agg cs)=cs[off]?:=nr rfl
theorem ac4 {sz:Nat} (h:ee P t=some sz):∃ e,P.underlying t=some (.slice e)∧ap P e=some sz:=by
 unfold ee at h
 split at h
 ·rename_i e hu;exact ⟨e,hu,h⟩
 ·cases h
theorem Md {sz n:Nat} {cs:List V} {lo hi:Option V} {l m:Nat} (J:ee P t=some sz) (h1:gR lo=some l) (ab:dt n hi=some m) (aw:l≤m) (hm:m≤n) (al:cs.length=n * sz) :
  jL P t (.an n cs) lo hi none=some (.an (m - l) ((cs.drop (l * sz)).take ((m - l) * sz))):=by
 obtain ⟨e,hu,he⟩:=ac4 J
 unfold jL
 have aI:dt n (none:Option V)=some n:=rfl
 simp only [hu,he,h1,ab,aI]
 have:l * sz≤cs.length:=by rw [al];exact Nat.mul_le_mul_right _ (by omega)
 simp [vp,aw,hm,this]
theorem QV {sz n:Nat} {cs:List V} {k:IntKind} {l:Int} (J:ee P t=some sz) (ay:0≤l) (aw:l≤n) (al:cs.length=n * sz) :
  jL P t (.an n cs) (some (.int k l)) none none=some (.an (n - l.toNat) (cs.drop (l.toNat * sz))):=by
 rw [Md J (l:=l.toNat) (m:=n) (by simp [gR,nZ,ay]) rfl (by omega) (Nat.le_refl _) al]
 rw [List.take_of_length_le]
 rw [List.length_drop,al,Nat.sub_mul]
 first | done | exact Nat.le_refl _
theorem ac5 {sz n:Nat} {cs:List V} {k:IntKind} {m:Int} (J:ee P t=some sz) (ay:0≤m) (hm:m≤n) (al:cs.length=n * sz) :
  jL P t (.an n cs) none (some (.int k m)) none=some (.an m.toNat (cs.take (m.toNat * sz))):=by
 rw [Md J (l:=0) (m:=m.toNat) rfl (by simp [dt,nZ,ay]) (Nat.zero_le _) (by omega) al]
 simp
theorem B4 {sz n:Nat} {cs:List V} {k:IntKind} {i:Int} (J:ee P t=some sz) (ay:0≤i) (hi:i<n) (al:cs.length=n * sz) :
  ik P t (.an n cs) (.int k i)=some (.at (cs.drop (i.toNat * sz))):=by
 rw [B0,J,acf,if_pos ⟨ay,hi,by rw [al];exact Nat.mul_le_mul_right _ (by omega)⟩]
def DB (P:Program) (t:TypeId):Bool:=match P.underlying t with | some (.slice e)=>n0 P e | _=>false
theorem ac6 (h:DB P t=true):∃ e,P.underlying t=some (.slice e)∧n0 P e=true:=by
 unfold DB at h
 split at h
 ·rename_i e hu;exact ⟨e,hu,h⟩
 ·cases h
theorem ac7 (h:vG P t=true):P.underlying t=some .string:=by
 unfold vG at h
 split at h
 ·assumption
 ·cases h
theorem ac8 {s d:TypeId} {ns:List Int} {n:Nat} (J:DB P s=true) (a7:vG P d=true) (aJ:n=ns.length):k8 P s d (.an n (ns.map (V.int .u8))) h=some (.string (strOfNums ns)):=by
 obtain ⟨e,hu,he⟩:=ac6 J
 unfold k8
 have:(k3 (.an n (ns.map (V.int .u8)))).bind (fun a=>dg P (convert s d a))=none:=rfl
 rw [this]
 simp only [hu,ac7 a7]
 rw [if_pos ⟨he,by simpa using aJ⟩,Zh]
 rfl
def DC (T:Option kY) (len:Nat) (parts:List (Nat×V)) (h:I):Option (V×I) :=
 match T with
 | some T=>if len * T.sz≤2 ^ 24∧len≤2 ^ 24 then (d7 (fun i=>some (i * T.sz,T.sz)) (made T.zs len) parts).map fun cells=>(.aj h.n 0 len len,h.push (.cells cells T.e none)) else none
 | none=>none
theorem lN {len:Nat} {parts:List (Nat×V)} {T:kY} (cV:fF P t=some T):iA P t len parts h=DC (some T) len parts h:=by
 obtain ⟨he,bB,bn,hE,eH,_⟩:=sR cV
 unfold iA DC
 simp only [he,bn,bB,eH,true_and]
 split
 ·cases d7 (fun i=>some (i * T.sz,T.sz)) (made T.zs len) parts<;>rfl
 ·rfl
theorem HP {T:kY} {l c:Nat} {k k':IntKind} (cV:fF P t=some T) (aw:l≤c) (h1:T.bs * c≤140737488355328) (ab:c≤140737488355328) :
  i5 P t (.int k (l:Int)) (.int k' (c:Int)) h=some (.aj h.n 0 l c,h.push (.cells (made T.zs c) T.e none)):=by
 obtain ⟨he,bB,bn,hE,eH,_⟩:=sR cV
 unfold i5
 simp [he,nZ,bB,hE,bn,eH,aw,h1,ab]
theorem QW {T:kY} {tx:TypeId} {i cap n:Nat} {c cs:List V} {src:V} {h:I} (cV:fF P t=some T) (aE:h.get i=.cells c T.e none) (J:vt src=some n) (aB:p6 T.sz n src h=some cs)
  (ec:cs.all (·.one)=true) (dU:cs.length≤c.length) :
  ∃ U,p7 P t (.aj i 0 n cap) src h=some (.int .i64 n,U)∧U=h.set i (.cells (lay c 0 cs) T.e none):=by
 obtain ⟨he,bB,bn,hE,eH,_⟩:=sR cV
 have Me:Nat.min n n=n:=Nat.min_self _
 unfold p7
 simp only [he,bn,J,Me,aB]
 by_cases ay:n=0
 ·subst ay
  have dd:cs=[]:=by
   have:=(vK aB)
   simpa using this
  subst dd
  refine ⟨h,by simp,?_⟩
  rw [show lay c 0 []=c by simp [lay]]
  exact (acN aE).symm
 ·rw [if_neg ay]
  simp only [aE,Nat.zero_add]
  rw [if_pos ⟨dU,ec⟩]
  exact ⟨_,rfl,rfl⟩
where
 vK {sz n:Nat} {x:V} {h:I} {vs:List V} (J:p6 sz n x h=some vs):vs.length=n * sz:=by
  unfold p6 at J
  split at J
  ·split at J
   ·rename_i ay;simp at J;subst J;simp [ay]
   ·cases J
  ·split at J
   ·rename_i ay;simp at J;subst J;simp [ay]
   ·cases J
  ·split at J
   ·split at J
    ·simp at J;subst J;simp;omega
    ·cases J
   ·cases J
  ·split at J
   ·simp at J;subst J;simp;omega
   ·cases J
  ·split at J
   ·rename_i al;simp at J;subst J
    have:=byteCells_length
    rw [List.length_take,List.length_map,this]
    rw [al.1];omega
   ·cases J
  ·cases J
end
theorem cd.args {P:Program} {fid:FuncId} {args lW:List V} {h ab:I} {R:V→I→Prop} {E:I→Prop} (al:aS args h lW ab) (J:cd P fid lW ab R E):cd P fid args h R E:=by
 intro ρ B aG w args' hw aL
 obtain ⟨ρ1,fg,bK,bC⟩:=al ρ B aG w _ hw aL
 refine (J ρ1 B aG w args' bK bC).mono fun e w' ad=>?_
 rcases ad with ⟨ρ',r,r',U,he,aq,bo,hle,ed⟩ | ⟨ρ',gT,U,he,n5,bo,hle,dH⟩
 ·exact .inl ⟨ρ',r,r',U,he,aq,bo,fg.trans hle,ed⟩
 ·exact .inr ⟨ρ',gT,U,he,n5,bo,fg.trans hle,dH⟩
theorem ah.args {P:Program} {fid:FuncId} {args lW:List V} {h ab:I} {R:V→I→Prop} (al:aS args h lW ab) (J:ah P fid lW ab R):ah P fid args h R:=cd.args al J
theorem aV.lit {h:I} {c:List V} {e:TypeId} {n sz:Nat} (al:c.length=n * sz) (aJ:n<ai) (bn:0<sz):∃ ab,aV (.aj h.n 0 n n) (h.push (.cells c e none)) (.an n c) ab∧aa h ab none_:=by
 have av:=Own.fresh (h:=h) (e:=e) c n n al (Nat.le_refl _) aJ
 rw [←al,List.take_length] at av
 obtain ⟨ab,aI,h4⟩:=aV.own av al bn
 exact ⟨ab,aI,(aa.push h _ none_).trans h4 fun k hk cO=>by simp [aW,aA] at cO;omega⟩
variable {P:Program} {t:TypeId} {T:kY}
theorem QX {k:IntKind} {n:Nat}:gR (some (.int k (n:Int)))=some n:=by simp [gR,nZ]
theorem ac9 {k:IntKind} {l n:Nat}:dt l (some (.int k (n:Int)))=some n:=by simp [dt,nZ]
theorem ada {k k2:IntKind} (cV:fF P t=some T) (dK:0<T.sz) {h:I} {v:V} {cs:List V} (av:Own h T.e T.sz v cs) {n:Nat} (aJ:n * T.sz≤cs.length) (hu:cs.length<ai) :
  ∃ v2,jL P t v none (some (.int k (n:Int))) (some (.int k2 (n:Int)))=some v2∧Own h T.e T.sz v2 (cs.take (n * T.sz))∧(aA v2=aA v):=by
 obtain ⟨he,bB,bn,hE,eH,iU⟩:=sR cV
 rcases av with ⟨aN,rfl⟩ | ⟨i,len,cap,c,ex,rfl,hi,aE,hlen,cp,cQ⟩
 ·have ay:n=0:=by
   have:n * T.sz=0:=by simpa using aJ
   rcases Nat.mul_eq_zero.1 this with h | h<;>omega
  subst ay
  rcases aN with rfl | rfl
  ·exact ⟨.ag,by simp [jL,iU,bn,gR,dt,nZ],.inl ⟨.inl rfl,by simp⟩,rfl⟩
  ·exact ⟨.z0,by simp [jL,iU,bn,gR,dt,nZ],.inl ⟨.inr rfl,by simp⟩,rfl⟩
 ·have nB:n≤len:=by
   rw [hlen] at aJ
   exact Nat.le_of_mul_le_mul_right aJ dK
  have QY:len<ai:=by
   have:len≤len * T.sz:=Nat.le_mul_of_pos_right _ dK
   omega
  have cr:len * T.sz≤c.length:=by
   have:=congrArg List.length cp
   rw [List.length_take,hlen] at this
   omega
  refine ⟨.aj i 0 n n,?_,.inr ⟨i,n,n,c,ex,rfl,hi,aE,?_,?_,.inl ⟨by omega,by omega,Nat.le_refl _⟩⟩,rfl⟩
  ·simp only [jL,iU,bn,gR,ac9,Option.isSome_some,true_and]
   by_cases al:ai≤cap
   ·rw [if_pos al,if_pos ⟨by omega,by omega⟩]
    simp [p4,QY,nB]
   ·rw [if_neg al,if_neg (by simp;omega)]
    have sj:len≤cap:=by rcases cQ with ⟨_,_,h⟩ | ⟨h,_⟩<;>omega
    simp [p4,show cap<ai by omega]
    omega
  ·rw [List.length_take,hlen];exact Nat.min_eq_left (Nat.mul_le_mul_right _ nB)
  ·rw [←cp,List.take_take]
   congr 1
   have:=Nat.mul_le_mul_right T.sz nB
   omega
theorem adb {k:IntKind} (cV:fF P t=some T) (dK:0<T.sz) (ec:T.zs.all (·.one)=true) {h:I} {v:V} {cs:List V} (av:Own h T.e T.sz v cs) {n:Nat} (aJ:n * T.sz≤cs.length) :
  ∃ s U,jL P t v (some (.int k (n:Int))) none none=some s∧oX P t s h=some U∧(∃ cs',cs'.take (n * T.sz)=cs.take (n * T.sz)∧cs'.length=cs.length∧Own U T.e T.sz v cs')∧aa h U (aW v):=by
 obtain ⟨he,bB,bn,hE,eH,iU⟩:=sR cV
 rcases av with ⟨aN,rfl⟩ | ⟨i,len,cap,c,ex,rfl,hi,aE,hlen,cp,cQ⟩
 ·have ay:n=0:=by
   have:n * T.sz=0:=by simpa using aJ
   rcases Nat.mul_eq_zero.1 this with h | h<;>omega
  subst ay
  rcases aN with rfl | rfl
  ·exact ⟨.ag,h,by simp [jL,iU,bn,gR,dt,nZ],by simp [oX,he],⟨[],by simp,rfl,.inl ⟨.inl rfl,rfl⟩⟩,aa.refl _ _⟩
  ·exact ⟨.z0,h,by simp [jL,iU,bn,gR,dt,nZ],by simp [oX,he],⟨[],by simp,rfl,.inl ⟨.inr rfl,rfl⟩⟩,aa.refl _ _⟩
 ·have nB:n≤len:=by
   rw [hlen] at aJ
   exact Nat.le_of_mul_le_mul_right aJ dK
  have cr:len * T.sz≤c.length:=by
   have:=congrArg List.length cp
   rw [List.length_take,hlen] at this
   omega
  have HQ:Own h T.e T.sz (.aj i 0 len cap) cs:=.inr ⟨i,len,cap,c,ex,rfl,hi,aE,hlen,cp,cQ⟩
  by_cases Mf:n=len
  ·subst Mf
   have:∃ s,jL P t (.aj i 0 n cap) (some (.int k (n:Int))) none none=some s∧oX P t s h=some h:=by
    simp only [jL,iU,bn,QX,dt,Option.isSome_none]
    by_cases al:cap<ai
    ·have sj:n≤cap:=by rcases cQ with ⟨_,_,h⟩ | ⟨h,_⟩<;>omega
     exact ⟨.aj i (if cap=n then 0 else n * T.sz) 0 (cap - n),by simp [p4,al,sj],by simp [oX,he,bB,aE]⟩
    ·by_cases ay:n=0
     ·subst ay
      exact ⟨.aj i 0 0 cap,by simp [p4,al],by simp [oX,he,bB,aE]⟩
     ·exact ⟨.an 0 [],by simp [p4,al,ay],by simp [oX,he]⟩
   obtain ⟨s,h1,ab⟩:=this
   exact ⟨s,h,h1,ab,⟨cs,rfl,rfl,HQ⟩,aa.refl _ _⟩
  ·have aT:n<len:=by omega
   have gi:(made T.zs (len - n)).length=(len - n) * T.sz:=by rw [Hh,eH]
   have dU:n * T.sz+(len - n) * T.sz=len * T.sz:=by rw [←Nat.add_mul];congr 1;omega
   have:∃ bh,jL P t (.aj i 0 len cap) (some (.int k (n:Int))) none none=some (.aj i (n * T.sz) (len - n) bh):=by
    simp only [jL,iU,bn,QX,dt,Option.isSome_none]
    by_cases al:cap<ai
    ·have sj:len≤cap:=by rcases cQ with ⟨_,_,h⟩ | ⟨h,_⟩<;>omega
     refine ⟨cap - n,?_⟩
     simp [p4,al,sj,nB,show cap≠n by omega]
    ·refine ⟨cap+n,?_⟩
     simp [p4,al,nB,aT]
   obtain ⟨bh,h1⟩:=this
   refine ⟨_,h.set i (.cells (lay c (n * T.sz) (made T.zs (len - n))) T.e ex),h1,?_,⟨(lay c (n * T.sz) (made T.zs (len - n))).take (len * T.sz),?_,?_,.inr ⟨i,len,cap,_,ex,rfl,hi,by simp [I.set],?_,rfl,?_⟩⟩,(aa.set h i _).mono fun k hk=>by subst hk;rfl⟩
   ·simp only [oX,he,bB,aE]
    rw [if_neg (by omega),if_pos ⟨ec,by omega⟩]
   ·have aK:min (n * T.sz) (len * T.sz)=n * T.sz:=by omega
    rw [List.take_take,←cp,List.take_take,aK]
    have a6:(c.take (n * T.sz)).length=n * T.sz:=by rw [List.length_take];omega
    unfold lay
    rw [List.append_assoc,List.take_append_of_le_length (by omega),List.take_take,Nat.min_self]
   ·rw [List.length_take,co _ _ _ (by omega),hlen];omega
   ·rw [List.length_take,co _ _ _ (by omega)];omega
   ·rcases cQ with ⟨a,b,d⟩ | ⟨a,b⟩
    ·exact .inl ⟨a,by rw [co _ _ _ (by omega)];exact b,d⟩
    ·exact .inr ⟨a,b⟩
theorem y2 {kk:IntKind} (J:ee P t=some 1) {h:I} {e:TypeId} {v:V} {cs:List V} (av:Own h e 1 v cs) {k:Nat} (hk:k<cs.length) :
  ∃ i,ik P t v (.int kk (k:Int))=some (.ptr i k)∧aA v=some i∧(∃ r,cW (h.get i) k=some (cs[k]::r)) ∧
   ∀ x,x.one=true→∃ ob,ca (some 1) (h.get i) k [x]=some ob∧Own (h.set i ob) e 1 v (cs.set k x)∧aa h (h.set i ob) (aW v):=by
 rcases av with ⟨_,rfl⟩ | ⟨i,len,cap,c,ex,rfl,hi,aE,hlen,cp,cQ⟩
 ·simp at hk
 ·simp only [Nat.mul_one] at hlen cp cQ
  have cr:len≤c.length:=by
   have:=congrArg List.length cp
   rw [List.length_take,hlen] at this
   omega
  have qZ:cs[k]?=c[k]?:=by rw [←cp,List.getElem?_take,if_pos (by omega)]
  have DD:k<c.length:=by omega
  have lU:cs[k]=c[k]:=by
   rw [List.getElem?_eq_getElem hk,List.getElem?_eq_getElem DD] at qZ
   exact Option.some.inj qZ
  refine ⟨i,?_,rfl,⟨c.drop (k+1),?_⟩,fun x av=>?_⟩
  ·rw [B0,J,L2,if_pos ⟨by omega,by omega⟩]
   simp
  ·rw [aE,L0,if_pos (by omega),List.drop_eq_getElem_cons DD,lU]
  ·refine ⟨.cells (c.set k x) e ex,?_,.inr ⟨i,len,cap,c.set k x,ex,rfl,hi,by simp [I.set],by simp [hlen],?_,?_⟩,(aa.set h i _).mono fun k hk=>by subst hk;rfl⟩
   ·rw [aE,nO av,if_pos DD]
   ·rw [Nat.mul_one,←cp,List.take_set]
   ·simpa using cQ
theorem QZ {h:I} {e:TypeId} {v:V} {cs:List V} {sz:Nat} (av:Own h e sz v cs) (dK:0<sz):∃ n,vt v=some n∧cs.length=n * sz∧p6 sz n v h=some cs:=by
 rcases av with ⟨rfl | rfl,rfl⟩ | ⟨i,len,cap,c,ex,rfl,hi,aE,hlen,cp,cQ⟩
 ·exact ⟨0,rfl,by simp,rfl⟩
 ·exact ⟨0,rfl,by simp,rfl⟩
 ·have cr:len * sz≤c.length:=by
   have:=congrArg List.length cp
   rw [List.length_take,hlen] at this
   omega
  exact ⟨len,rfl,hlen,by simp [p6,aE,cr,cp]⟩
theorem ade {tx:TypeId} (cV:fF P t=some T) {h:I} {src:V} {n:Nat} {cs:List V} {k k':IntKind} (J:vt src=some n) (aB:∀ U,aa h U none_→p6 T.sz n src U=some cs) (ec:cs.all (·.one)=true) (hlen:cs.length=n * T.sz)
  (h1:T.bs * n≤140737488355328) (ab:n≤140737488355328) :
  ∃ h1 ab,i5 P t (.int k (n:Int)) (.int k' (n:Int)) h=some (.aj h.n 0 n n,h1)∧p7 P t (.aj h.n 0 n n) src h1=some (.int .i64 n,ab)∧Own ab T.e T.sz (.aj h.n 0 n n) cs∧aa h h1 none_∧aa h ab none_:=by
 obtain ⟨he,bB,bn,hE,eH,_⟩:=sR cV
 have gi:(made T.zs n).length=n * T.sz:=by rw [Hh,eH]
 have fy:aa h (h.push (.cells (made T.zs n) T.e none)) none_:=aa.push _ _ _
 obtain ⟨uS,al,rfl⟩:=QW (P:=P) (t:=t) (T:=T) (tx:=t) (i:=h.n) (cap:=n) (c:=made T.zs n) (src:=src) (h:=h.push (.cells (made T.zs n) T.e none)) cV c4 J (aB _ fy) ec (by omega)
 refine ⟨_,_,HP cV (Nat.le_refl _) h1 ab,al,.inr ⟨h.n,n,n,_,none,rfl,?_,e4,hlen,?_,.inl ⟨by unfold ai;omega,?_,Nat.le_refl _⟩⟩,fy,fy.kq (Nat.le_refl _) _⟩
 ·rw [kE,fR];omega
 ·simp [lay,hlen]
 ·rw [co _ _ _ (by omega),gi];exact Nat.le_refl _
inductive lx where
 | bool | int (k:IntKind) | str | aj (s:lx) | unit | cat (a b:lx)
def lx.width:lx→Nat
 | .unit=>0
 | .cat a b=>a.width+b.width
 | _=>1
def DE (P:Program) (g:TypeId→Option lx):Nat→List Field→Option lx
 | _,[]=>some .unit
 | o,f::di=>
  if f.offset=o then
   match g f.type,DE P g (o+P.cellsOf f.type) di with
   | some s,some r=>if s.width=P.cellsOf f.type then some (.cat s r) else none
   | _,_=>none
  else none
theorem ut {α:Type} {Q0:Nat→α→Prop}:∀ (n:Nat),(∀ i,i<n→∃ e,Q0 i e)→∃ es:List α,es.length=n∧∀ i e,es[i]?=some e→Q0 i e
 | 0,_=>⟨[],rfl,by simp⟩
 | n+1,h=>by
  obtain ⟨es,h1,ab⟩:=ut n fun i hi=>h i (by omega)
  obtain ⟨e,he⟩:=h n (by omega)
  refine ⟨es++[e],by simp [h1],fun i x af=>?_⟩
  by_cases hi:i<es.length
  ·rw [List.getElem?_append_left hi] at af;exact ab i x af
  ·rw [List.getElem?_append_right (by omega)] at af
   have:i - es.length=0:=by
    have:=(List.getElem?_eq_some_iff.1 af).1
    simp at this;omega
   rw [this] at af
   simp at af
   subst af
   rw [show i=n by omega]
   exact he
theorem Q1 {α:Type} {sz:Nat} (dK:0<sz):∀ {es:List (List α)} {k:Nat} {v:α},(∀ e ∈ es,e.length=sz)→es.flatten[k]?=some v→∃ e,es[k / sz]?=some e∧e[k % sz]?=some v
 | [],k,v,_,h=>by simp at h
 | e::es,k,v,aw,h=>by
  have he:=aw e (by simp)
  rw [List.flatten_cons] at h
  by_cases hk:k<sz
  ·rw [List.getElem?_append_left (by omega)] at h
   exact ⟨e,by rw [Nat.div_eq_of_lt hk];rfl,by rw [Nat.mod_eq_of_lt hk];exact h⟩
  ·rw [List.getElem?_append_right (by omega),he] at h
   obtain ⟨x,h1,ab⟩:=Q1 dK (fun e h=>aw e (by simp [h])) h
   refine ⟨x,?_,?_⟩
   ·rw [show k / sz=(k - sz) / sz+1 by rw [Nat.div_eq_sub_div dK (by omega)]]
    simpa using h1
   ·rw [Nat.mod_eq_sub_mod (by omega)];exact ab
theorem Q2 {α:Type} {sz:Nat}:∀ {es:List (List α)},(∀ e ∈ es,e.length=sz)→es.flatten.length=es.length * sz
 | [],_=>by simp
 | e::es,h=>by
  rw [List.flatten_cons,List.length_append,h e (by simp),Q2 fun e he=>h e (by simp [he]),List.length_cons,Nat.add_mul]
  omega
section
variable {H:Type} {enc:TypeId×Value→H} {P:Program} {w:World} {base:Nat} {spare:Nat→Bool} {held:Bool}
theorem adf {a:Addr} {n:Nat} {cs:List Value} (h:w.cells? base a n=some cs):cs.length=n∧∀ j,j<n→w.cell? (a.add j)=cs[j]?:=by
 unfold World.cells? at h
 split at h
 case isFalse=>cases h
 exact ⟨by simpa using mapM_some_length h,fun j aC=>by simpa using mapM_some_get h j j (by simp [aC])⟩
end
def lx.hv:lx→List V→Prop
 | .bool,l=>∃ b,l=[.bool b]
 | .int k,l=>∃ n,l=[.int k n]∧(Lit.int k n).wf=true
 | .str,l=>∃ s,l=[.string s]
 | .aj s,l=>∃ es:List (List V),l=[.an es.length es.flatten]∧es.length<2 ^ 47∧∀ e ∈ es,s.hv e
 | .unit,l=>l=[]
 | .cat a b,l=>∃ fg dN,l=fg++dN∧a.hv fg∧b.hv dN
theorem lx.ly:∀ {s:lx} {l:List V},s.hv l→l.length=s.width
 | .bool,_,⟨_,h⟩=>by subst h;rfl
 | .int _,_,⟨_,h,_⟩=>by subst h;rfl
 | .str,_,⟨_,h⟩=>by subst h;rfl
 | .aj _,_,⟨_,h,_⟩=>by subst h;rfl
 | .unit,_,h=>by have:_=[]:=h;subst this;rfl
 | .cat a b,_,⟨fg,dN,h,h1,ab⟩=>by subst h;rw [List.length_append,lx.ly h1,lx.ly ab];rfl
def y5 (P:Program):Nat→TypeId→Option lx
 | 0,_=>none
 | n+1,t=>
  match P.underlying t with
  | some .bool=>some .bool
  | some (.int k)=>some (.int k)
  | some .string=>some .str
  | some (.slice e)=>match y5 P n e with | some s=>if s.width=P.cellsOf e∧0<s.width∧1≤P.bytesOf e then some (.aj s) else none | none=>none
  | some (.struct di)=>match DE P (y5 P n) 0 di.toList with | some s=>if s.width=P.cellsOf t then some s else none | none=>none
  | _=>none
theorem Q3 {H:Type} {P:Program} {e:TypeId} {n:Nat}:∀ {l:List (DataW H)} {d:DataW H},d ∈ l→n ∈ d.weights P e→n ∈ DataW.weightsAll P e l
 | [],_,h,_=>by simp at h
 | x::l,d,h,aJ=>by
  simp only [DataW.weightsAll,List.mem_append]
  rcases List.mem_cons.1 h with rfl | h
  ·exact .inl aJ
  ·exact .inr (Q3 h aJ)
section
variable {H:Type} {enc:TypeId×Value→H} {P:Program} {w:World} {base:Nat} {spare:Nat→Bool} {held:Bool}
theorem Q4 {g:TypeId→Option lx} {cs:List Value} {fu:Nat} (aE:∀ t s fuel cs x,g t=some s→DataW.trod enc P w base spare held fuel t cs=some x→(∀ n ∈ x.1.weights P t,n≤reachBytes)→∃ l,s.hv l∧aQ (be w) l cs) :
  ∀ (di:List Field) (o:Nat) (s:lx) (xs:List (DataW H×List MemPlace)),DE P g o di=some s→xs.length=di.length →
   (∀ (i:Nat) (f:Field),di[i]?=some f→DataW.trod enc P w base spare held fu f.type ((cs.drop f.offset).take (P.cellsOf f.type))=xs[i]?)→(∀ n ∈ DataW.weightsEach P (di.map (·.type)) (xs.map (·.1)),n≤reachBytes)→∃ l,s.hv l∧aQ (be w) l ((cs.drop o).take s.width)
 | [],o,s,xs,J,_,_,_=>by
  simp [DE] at J
  subst J
  exact ⟨[],rfl,by simpa [lx.width] using aQ.nil _⟩
 | f::di,o,s,xs,J,aw,af,ar=>by
  unfold DE at J
  split at J
  case isFalse=>cases J
  rename_i av
  split at J
  case h_2=>cases J
  rename_i s1 s2 h1 ab
  split at J
  case isFalse=>cases J
  rename_i hw
  obtain rfl:=Option.some.inj J
  cases xs with
  | nil=>simp at aw
  | cons x xs=>
   have xl:=af 0 f rfl
   obtain ⟨fg,f1,cq⟩:=aE _ _ _ _ _ h1 xl (fun n aJ=>ar n (by simp only [List.map_cons,DataW.weightsEach,List.mem_append];exact .inl aJ))
   obtain ⟨dN,f2,ck⟩:=Q4 aE di _ s2 xs ab (by simpa using aw) (fun i bE aB=>af (i+1) bE (by simpa using aB)) (fun n aJ=>ar n (by simp only [List.map_cons,DataW.weightsEach,List.mem_append];exact .inr aJ))
   refine ⟨fg++dN,⟨fg,dN,rfl,f1,f2⟩,?_⟩
   have:=cq.append ck
   rw [av,←hw] at this
   have e:((cs.drop o).take s1.width)++((cs.drop (o+s1.width)).take s2.width)=(cs.drop o).take (s1.width+s2.width):=by
    rw [List.take_add,List.drop_drop]
   rw [e] at this
   exact this
theorem Mg:∀ (n:Nat) (t:TypeId) (s:lx) (fuel:Nat) (cs:List Value) (x:DataW H×List MemPlace),y5 P n t=some s→DataW.trod enc P w base spare held fuel t cs=some x→(∀ n ∈ x.1.weights P t,n≤reachBytes)→∃ l,s.hv l∧aQ (be w) l cs
 | 0,_,_,_,_,_,J,_,_=>by simp [y5] at J
 | n+1,t,s,fuel,cs,x,J,h,b3=>by
  unfold y5 at J
  split at J
  ·rename_i hu
   obtain rfl:=Option.some.inj J
   obtain ⟨b,rfl,_⟩:=DataW.trod_bool hu h
   exact ⟨[.bool b],⟨b,rfl⟩,.cons (.bool b) (.nil _)⟩
  ·rename_i k hu
   obtain rfl:=Option.some.inj J
   obtain ⟨m,rfl,_,hw⟩:=DataW.trod_int hu h
   exact ⟨[.int k m],⟨m,rfl,hw⟩,.cons (.int k m) (.nil _)⟩
  ·rename_i hu
   obtain rfl:=Option.some.inj J
   obtain ⟨b,rfl,_⟩:=DataW.trod_string hu h
   exact ⟨[.string b],⟨b,rfl⟩,.cons (.string b) (.nil _)⟩
  ·rename_i e hu
   split at J
   case h_2=>cases J
   rename_i s1 n9
   split at J
   case isFalse=>cases J
   rename_i hw
   obtain rfl:=Option.some.inj J
   rcases DataW.trod_slice hu h with ⟨rfl,_⟩ | ⟨a,len,cap,elems,rest,m,_,rfl,sY,_,sE,_,lU,qZ,_⟩
   ·exact ⟨[.an 0 []],⟨[],rfl,by decide,by simp⟩,.cons (.fH none 0 (by simp)) (.nil _)⟩
   ·rcases Nat.eq_zero_or_pos len with ay | dK
    ·subst ay
     exact ⟨[.an 0 []],⟨[],rfl,by decide,by simp⟩,.cons (.fH (some a) cap (by simp)) (.nil _)⟩
    ·have each:∀ i,i<len→∃ l:List V,s1.hv l∧∃ ci:List Value,aQ (be w) l ci∧∀ j,j<s1.width→w.cell? ((a.add (i * s1.width)).add j)=ci[j]?∧j<ci.length:=fun i hi=>by
      have h1:=qZ i hi
      have ab:∃ y,elems[i]?=some y:=⟨_,List.getElem?_eq_getElem (by omega)⟩
      obtain ⟨y,aX⟩:=ab
      rw [aX,Option.bind_eq_some_iff] at h1
      obtain ⟨ci,sZ,xc⟩:=h1
      obtain ⟨l,f1,cq⟩:=Mg n e s1 m ci y n9 xc (fun n aJ=>b3 n (by
       rw [sY]
       simp only [DataW.weights,hu]
       exact List.mem_cons_of_mem _ (List.mem_append_left _ (Q3 (List.mem_map.2 ⟨y,List.mem_of_getElem? aX,rfl⟩) aJ))))
      rw [←hw.1] at sZ
      obtain ⟨g1,g2⟩:=adf sZ
      exact ⟨l,f1,ci,cq,fun j aC=>⟨g2 j aC,by omega⟩⟩
     obtain ⟨es,DF,vL⟩:=ut len each
     have ew:∀ e ∈ es,s1.hv e:=fun e he=>by
      obtain ⟨i,hi⟩:=List.getElem?_of_mem he
      exact (vL i e hi).1
     have hlen:∀ e ∈ es,e.length=s1.width:=fun e he=>lx.ly (ew e he)
     obtain ⟨b,off,sp⟩:=a
     have mW:∃ v,w.cell? ⟨b,off,sp⟩=some v:=by
      obtain ⟨_,ci,_,al⟩:=(vL 0 es[0] (List.getElem?_eq_getElem (by omega)))
      obtain ⟨c2,eE⟩:=al 0 hw.2.1
      rw [Nat.zero_mul] at c2
      simp only [Addr.add,if_true] at c2
      exact ⟨_,c2.trans (List.getElem?_eq_getElem eE)⟩
     obtain ⟨v0,uL⟩:=mW
     have ar:∃ arr fZ ei,w.heap[b]?=some (.cells arr fZ ei)∧sp=none:=by
      unfold World.cell? at uL
      split at uL
      ·rename_i c fZ ei ae
       refine ⟨c,fZ,ei,ae,?_⟩
       cases sp with
       | none=>rfl
       | some _=>simp at uL
      ·cases uL
     obtain ⟨arr,fZ,ei,ar,rfl⟩:=ar
     have p3:∀ m,w.cell? (Addr.add ⟨b,off,none⟩ m)=arr[off+m]?:=fun m=>by
      rw [Addr.add_mid]
      simp [World.cell?,ar]
     have nD:∀ i j,j<s1.width→w.cell? ((Addr.add ⟨b,off,none⟩ (i * s1.width)).add j)=arr[off+(i * s1.width+j)]?:=fun i j _=>by
      rw [Addr.add_mid,Addr.add_mid]
      simp [World.cell?,ar,Nat.add_assoc]
     have bn:es.length<2 ^ 47:=by
      have ay:=b3 ((elems.length+rest.length) * P.bytesOf e) (by rw [sY];simp [DataW.weights,hu])
      have h1:=Nat.le_trans (Nat.le_mul_of_pos_right _ hw.2.2) ay
      have ab:=reachBytes_lt
      omega
     refine ⟨[.an es.length es.flatten],⟨es,rfl,bn,ew⟩,.cons ?_ (.nil _)⟩
     rw [DF]
     refine .an off len cap (HL ar) sE ?_ fun k v v' h1 ab=>?_
     ·rw [Q2 hlen,DF]
      obtain ⟨_,ci,_,al⟩:=(vL (len - 1) es[len - 1] (List.getElem?_eq_getElem (by omega)))
      obtain ⟨c2,eE⟩:=al (s1.width - 1) (by omega)
      rw [nD _ _ (by omega),List.getElem?_eq_getElem eE] at c2
      have jt:=(Array.getElem?_eq_some_iff.1 c2).1
      have:(len - 1) * s1.width+s1.width=len * s1.width:=by
       rw [←Nat.succ_mul];congr 1;omega
      omega
     ·obtain ⟨aK,g1,g2⟩:=Q1 hw.2.1 hlen h1
      obtain ⟨_,ci,aq,al⟩:=vL _ aK g1
      have aC:k % s1.width<s1.width:=Nat.mod_lt _ hw.2.1
      obtain ⟨c2,eE⟩:=al _ aC
      rw [nD _ _ aC,show k / s1.width * s1.width+k % s1.width=k by rw [Nat.mul_comm];exact Nat.div_add_mod k s1.width,ab] at c2
      exact aq.2 _ _ _ g2 c2.symm
  ·rename_i di hu
   split at J
   case h_2=>cases J
   rename_i s1 n9
   split at J
   case isFalse=>cases J
   rename_i hw
   obtain rfl:=Option.some.inj J
   obtain ⟨xs,m,_,sY,cr,oj,af⟩:=DataW.trod_struct hu h
   obtain ⟨l,f1,cq⟩:=Q4 (fu:=m) (fun t s fuel cs x h1 ab aI=>Mg n t s fuel cs x h1 ab aI) di.toList 0 s1 xs n9 (by simpa using oj) (fun i f aB=>af i f (by simpa using aB)) (fun n aJ=>b3 n (by rw [sY];simp only [DataW.weights,hu];exact aJ))
   rw [List.drop_zero,hw,←cr,List.take_length] at cq
   exact ⟨l,f1,cq⟩
  ·cases J
theorem adg {n:Nat} {t e:TypeId} {s:lx} {a:Option Addr} {len cap:Nat} {d:DataW H} {ps:List MemPlace} (hu:P.underlying t=some (.slice e)) (J:y5 P n e=some s) (hw:s.width=P.cellsOf e∧0<s.width∧1≤P.bytesOf e) (b3:∀ n ∈ d.weights P t,n≤reachBytes)
  (h:DataW.Trod enc P w base spare held t (.slice a len cap) d ps) :
  ∃ es:List (List V),(∀ x ∈ es,s.hv x)∧ax (be w) (.an es.length es.flatten) (.slice a len cap)∧es.length<2 ^ 47:=by
 obtain ⟨fuel,aB⟩:=h
 obtain ⟨l,⟨es,rfl,aJ,iV⟩,aq⟩:=Mg (n+1) t (.aj s) fuel _ _ (by simp only [y5,hu,J,if_pos hw]) aB b3
 exact ⟨es,iV,aq.2 0 _ _ rfl rfl,aJ⟩
end
mutual
def V.y7:V→Nat
 | .string s=>s.size+1
 | .an _ cs=>Q5 cs+1
 | _=>1
def Q5:List V→Nat
 | []=>0
 | v::r=>v.y7+Q5 r
end
theorem aob (v:V):1≤v.y7:=by cases v<;>simp [V.y7]
def dC {α:Type} (b:α→Nat):List α→Nat
 | []=>0
 | x::r=>b x+dC b r
structure adh {H:Type} (b:DataW H→Nat):Prop where
 lit:∀ l,1≤b (.lit l)
 str:∀ bs:List UInt8,bs.length+1≤b (.lit (.string bs))
 nil:1≤b .nil
 slice:∀ es sp,dC b es+1≤b (.slice es sp)
 agg:∀ ps,dC b ps+1≤b (.agg ps)
section
variable {H:Type} {adi:DataW H→Nat} (Q6:adh adi)
include Q6
variable {enc:TypeId×Value→H} {P:Program} {w:World} {base:Nat} {spare:Nat→Bool} {held:Bool}
end
section
variable {H:Type} {enc:TypeId×Value→H} {P:Program} {w:World} {base:Nat} {spare:Nat→Bool} {held:Bool}
end
theorem Acc.step {ay h U:I} {e:TypeId} {sz:Nat} {s r:V} {cs cs':List V} (a:Acc ay h e sz s cs) (o:Own U e sz r cs') (k:aa h U (aW s)) (d:nP h s r):Acc ay U e sz r cs' :=
 ⟨o,a.au.trans k fun j aC hi=>by have:=a.new j hi;omega,fun j aC=>by
  rcases d with d | d
  ·exact a.new j (d ▸ aC)
  ·exact Nat.le_trans a.au.n (d j aC)⟩
theorem Acc.on {ay h U:I} {e:TypeId} {sz:Nat} {s:V} {cs:List V} (a:Acc ay h e sz s cs) (k:aa h U none_):Acc ay U e sz s cs :=
 ⟨a.own.cP k,a.au.trans' k,a.new⟩
theorem Acc.conv {ay h:I} {e:TypeId} {sz:Nat} {s:V} {cs cs':List V} (a:Acc ay h e sz s cs) (al:cs=cs'):Acc ay h e sz s cs':=al ▸ a
theorem Pure.acc {P:Program} {fid:FuncId} {args:List V} {h:I} {e:TypeId} {sz n:Nat} {cs:List V} (s3:aO cs) (aJ:cs.length=n * sz) (bn:0<sz)
  (al:ah P fid args h fun r U=>Acc h U e sz r cs):Pure P fid args h (.an n cs) :=
 Pure.of (bb.an s3) (al.mono fun r U a=>a.cast aJ bn)
section
variable {P:Program} {f:ak} {h:I}
theorem mF {t:Tmp}:lM P f h (.tmp t)=some (f t):=rfl
theorem jP {a:Tmp} {t:TypeId}:lM P f h (.cell a t)=i6 P t (f a) h:=rfl
def y8 (x y:Option V):Option V:=match x,y with | some a,some b=>some (.tuple [a,b]) | _,_=>none
def y9 (x y z:Option V):Option V:=match x,y,z with | some a,some b,some c=>some (.tuple [a,b,c]) | _,_,_=>none
theorem qh {a b:V}:y8 (some a) (some b)=some (.tuple [a,b]):=rfl
theorem B5 {a b c:V}:y9 (some a) (some b) (some c)=some (.tuple [a,b,c]):=rfl
theorem xm {r:ResultVar}:iZ P [r] f h=lM P f h r:=rfl
theorem qi {r s:ResultVar}:iZ P [r,s] f h=y8 (lM P f h r) (lM P f h s):=by
 cases aq:lM P f h r<;>cases J:lM P f h s<;>simp [iZ,y8,aq,J]
theorem B6 {r s t:ResultVar}:iZ P [r,s,t] f h=y9 (lM P f h r) (lM P f h s) (lM P f h t):=by
 cases aq:lM P f h r<;>cases J:lM P f h s<;>cases bM:lM P f h t<;>simp [iZ,y9,aq,J,bM]
end
def bl (l:List Int):List V:=l.map (V.int .i64)
def za (l:List Bool):List V:=l.map V.bool
theorem l9 (l:List Int):(bl l).length=l.length:=by simp [bl]
theorem adj (l:List Bool):(za l).length=l.length:=by simp [za]
theorem DG (l:List Int):aO (bl l):=aO.map fun _ _=>bb.int _ _
theorem Q7 (l:List Int):(bl l).all (·.one)=true:=by
 rw [List.all_eq_true];intro x af
 obtain ⟨n,_,rfl⟩:=List.mem_map.1 af
 rfl
theorem adk (a b:List Int):bl (a++b)=bl a++bl b:=by simp [bl]
theorem aoc {l:List Int} {k:Nat} (hk:k<l.length):(bl l)[k]'(by rw [l9];exact hk)=.int .i64 l[k]:=by simp [bl]
theorem aod (l:List Int) (k:Nat) (x:Int):(bl l).set k (.int .i64 x)=bl (l.set k x):=by simp [bl,List.map_set]
theorem aoe {l:List Bool} {k:Nat} (hk:k<l.length):(za l)[k]'(by rw [adj];exact hk)=.bool l[k]:=by simp [za]
theorem aof (l:List Bool) (k:Nat) (x:Bool):(za l).set k (.bool x)=za (l.set k x):=by simp [za,List.map_set]
theorem adl {P:Program} {α:Type} (f:α→V) {l:List α} {k:Nat} (hk:k<l.length) {t:TypeId} {kk:IntKind} (J:ee P t=some 1) :
  ik P t (.an l.length (l.map f)) (.int kk (k:Int))=some (.at (f l[k]::(l.drop (k+1)).map f)):=by
 rw [B4 J (by omega) (by omega) (by simp),Int.toNat_natCast,Nat.mul_one,←List.map_drop,List.drop_eq_getElem_cons hk]
 rfl
theorem Mh {i n:Nat} (h:i<n) (aJ:n≤2 ^ 62):IntKind.i64.wrap ((i:Int)+1)=((i+1:Nat):Int):=by rw [Go.IntWalk.i64_in _ (by omega)];rfl
theorem adm {n:Nat} (h:n<2 ^ 64):IntKind.u64.wrap (n:Int)=(n:Int):=by rw [IntKind.wrap_u64];omega
theorem wf_i64 {a:Int} (h:(Lit.int .i64 a).wf=true):-2 ^ 63≤a∧a<2 ^ 63:=by
 simp only [Lit.wf,Bool.and_eq_true,decide_eq_true_eq] at h
 have h1:IntKind.i64.min=-2 ^ 63:=rfl
 have ab:IntKind.i64.max=2 ^ 63 - 1:=rfl
 omega
theorem wf_u8 {a:Int} (h:(Lit.int .u8 a).wf=true):∃ n:Nat,a=n∧n<256:=by
 simp only [Lit.wf,Bool.and_eq_true,decide_eq_true_eq] at h
 have h1:IntKind.u8.min=0:=rfl
 have ab:IntKind.u8.max=255:=rfl
 exact ⟨a.toNat,by omega,by omega⟩
theorem aV.s4 (h:I):aV .ag h (.an 0 []) h:=fun ρ B aG w r' hw aN=>by
 cases aN
 exact ⟨ρ,Ren.le.refl ρ,hw,.fH none 0 (by simp)⟩
theorem Pure.args {P:Program} {fid:FuncId} {args lW:List V} {h:I} {v:V} (al:aS args h lW h) (az:Pure P fid lW h v):Pure P fid args h v:=ah.args al az
theorem Own.qj {h:I} {e:TypeId} {sz:Nat} (c:List V) (n:Nat) (al:c.length=n * sz) (hu:n<ai):Own (h.push (.cells c e none)) e sz (.aj h.n 0 n n) c:=by
 have av:=Own.fresh (h:=h) (e:=e) c n n al (Nat.le_refl _) hu
 rwa [←al,List.take_length] at av
theorem Q8 {P:Program} {α:Type} (f:α→V) {l:List α} {n:Nat} (aJ:l.length=n) {k:Nat} {x:α} (af:l[k]?=some x) {t:TypeId} {kk:IntKind} (J:ee P t=some 1) :
  ∃ r,ik P t (.an n (l.map f)) (.int kk (k:Int))=some (.at (f x::r)):=by
 subst aJ
 obtain ⟨hk,rfl⟩:=List.getElem?_eq_some_iff.1 af
 exact ⟨_,adl f hk J⟩
def hn:V→Option Nat
 | .ptr i _=>some i
 | .aj i _ _ _=>some i
 | .map i=>some i
 | _=>none
def lO (ba:Operand→V):Op→Option Nat
 | .load _ a=>hn (ba a)
 | .lookup _ m _ _=>hn (ba m)
 | .convert _ _ x=>hn (ba x)
 | .call ⟨.builtin .len,args,_⟩=>(args.toList.map ba).head?.bind hn
 | _=>none
def qk:Op→Bool
 | .entry _=>false
 | .call ⟨.builtin .len,args,ts⟩=>args.size==1&&ts.size==1
 | o=>l8 o
def vM (h:I):Prop:=∀ j,h.n≤j→h.get j=.dead
theorem aM.wf {ρ:Ren} {B:Nat} {aG w:World} {h:I} (R:aM ρ B aG h w):vM h:=fun j aC=>by
 have a7:=R.heap.gv j aC
 have av:=R.heap.obj j
 cases aE:h.get j with
 | dead=>rfl
 | cells c e ex=>rw [aE] at av;obtain ⟨b,bh,arr,aq,_⟩:=av;rw [a7] at aq;cases aq
 | map es c=>rw [aE] at av;obtain ⟨b,bh,arr,aq,_⟩:=av;rw [a7] at aq;cases aq
 | iter m s l st=>rw [aE] at av;obtain ⟨b,bh,pt,p1,aq,_⟩:=av;rw [a7] at aq;cases aq
 | dP k vs=>rw [aE] at av;obtain ⟨b,bh,arr,aq,_⟩:=av;rw [a7] at aq;cases aq
section
variable {P:Program} {h U:I} {M:Nat→Prop}
theorem aa.live (hw:vM h) (hk:aa h U M) {i:Nat} (hm:¬M i) (a7:h.get i≠.dead):U.get i=h.get i:=by
 rcases Nat.lt_or_ge i h.n with aT | km
 ·exact hk.get i aT hm
 ·exact absurd (hw i km) a7
theorem adn (hk:aa h U M) (f:ak) (x:Operand):f.eval U x=f.eval h x:=by
 cases x<;>simp [ak.eval,hk.glob]
theorem wr (hw:vM h) (hk:aa h U M) {x:V} (hm:∀ i,hn x=some i→¬M i) {cs:List V} (az:mT h x=some cs):mT U x=some cs:=by
 cases x<;>simp [mT] at az⊢
 case ptr i o=>
  have a7:h.get i≠.dead:=fun ad=>by rw [ad] at az;simp at az
  rw [hk.live hw (hm i rfl) a7];exact az
 case «at» cs'=>exact az
theorem ado (hw:vM h) (hk:aa h U M) {t:TypeId} {x:V} (hm:∀ i,hn x=some i→¬M i) {v:V} (aw:i6 P t x h=some v):i6 P t x U=some v:=by
 rw [Qz] at aw⊢
 cases az:mT h x with
 | none=>rw [az] at aw;unfold hI at aw;split at aw<;>simp_all
 | some cs=>rw [az] at aw;rw [wr hw hk hm az];exact aw
theorem adp {t:TypeId} {m k:V} {ok:Bool} (e:∀ i,hn m=some i→U.get i=h.get i):nM P t m k ok U=nM P t m k ok h:=by
 unfold nM
 cases eo P t with
 | none=>rfl
 | some q=>
  obtain ⟨dm,fZ,d⟩:=q
  simp only
  split
  ·rfl
  ·rw [e _ rfl]
  ·rfl
theorem adq {s d:TypeId} {x:V} (e:∀ i,hn x=some i→U.get i=h.get i):k8 P s d x U=k8 P s d x h:=by
 unfold k8
 cases (k3 x).bind fun a=>dg P (convert s d a) with
 | some v=>rfl
 | none=>
  simp only
  split
  ·rfl
  ·rw [e _ rfl]
  ·rfl
  ·rfl
theorem adr {t:TypeId} {x:V} (e:∀ i,hn x=some i→U.get i=h.get i):cE P t x U=cE P t x h:=by
 unfold cE
 split
 all_goals first | rfl | rw [e _ rfl]
theorem ads {t:TypeId} {m k:V} {ok:Bool} (a7:∀ i,hn m=some i→h.get i=.dead) {v:V} (aw:nM P t m k ok h=some v):nM P t m k ok U=some v:=by
 unfold nM at aw⊢
 cases ae:eo P t with
 | none=>rw [ae] at aw;cases aw
 | some q=>
  rw [ae] at aw
  obtain ⟨dm,fZ,d⟩:=q
  simp only at aw⊢
  split at aw
  ·exact aw
  ·rw [a7 _ rfl] at aw;cases aw
  ·cases aw
theorem adt {s d:TypeId} {x:V} (a7:∀ i,hn x=some i→h.get i=.dead) {v:V} (aw:k8 P s d x h=some v):k8 P s d x U=some v:=by
 unfold k8 at aw⊢
 cases ae:(k3 x).bind fun a=>dg P (convert s d a) with
 | some u=>rw [ae] at aw;exact aw
 | none=>
  rw [ae] at aw
  simp only at aw⊢
  split at aw
  ·exact aw
  ·split at aw
   ·rw [a7 _ rfl] at aw;cases aw
   ·cases aw
  ·exact aw
  ·cases aw
theorem adu {t:TypeId} {x:V} (a7:∀ i,hn x=some i→h.get i=.dead) {v:V} (aw:cE P t x h=some v):cE P t x U=some v:=by
 unfold cE at aw⊢
 split at aw
 all_goals first | exact aw | (rw [a7 _ rfl] at aw;cases aw) | skip
 all_goals (cases aw;done)
theorem Mi (hw:vM h) (hk:aa h U M) {x:V} (hm:∀ i,hn x=some i→¬M i):(∀ i,hn x=some i→U.get i=h.get i)∨(∀ i,hn x=some i→h.get i=.dead):=by
 cases af:hn x with
 | none=>left;intro i hi;cases hi
 | some j=>
  by_cases a7:h.get j=.dead
  ·right;intro i hi;simp at hi;subst hi;exact a7
  ·left;intro i hi;simp at hi;subst hi;exact hk.live hw (hm j af) a7
theorem adv {c:Call} (h:qk (.call c)=true):c.callee=.builtin .len∨c.callee=.builtin .min∨c.callee=.builtin .max:=by
 obtain ⟨callee,args,ts⟩:=c
 cases callee with
 | builtin b=>cases b<;>simp [qk,l8] at h⊢
 | _=>simp [qk,l8] at h
theorem Q9 (hw:vM h) (hk:aa h U M) {o:Oper} {ba:Operand→V} (hi:qk o.op=true) (hm:∀ i,lO ba o.op=some i→¬M i) {v:V} (he:cG P o ba h=some (.val v h)):cG P o ba U=some (.val v U):=by
 have s5:∀ {x y:Option V},eI x h=some (.val v h)→(∀ u,x=some u→y=some u)→eI y U=some (.val v U):=fun {x y} af aX=>by
  obtain ⟨aK,_⟩:=oZ af
  rw [aX _ aK];rfl
 obtain ⟨dst,op,type,pos,after,guard⟩:=o
 have J0:=hi
 cases op<;>simp [qk,l8] at hi<;>simp only [cG] at he⊢
 case move x=>simp at he;rw [he]
 case assign x=>simp at he;rw [he]
 case pick c a b=>split at he<;>simp at he⊢;exact he
 case nilCheck x=>split at he<;>simp at he⊢<;>exact he
 case makeInterface t x=>split at he<;>simp at he⊢;exact he
 case makeFunc fn xs ys=>cases fn<;>simp at he⊢;exact he
 case extract t k=>
  split at he
  ·exact s5 he fun _ h=>h
  ·cases he
 case load t a=>exact s5 he fun u hu=>ado hw hk hm hu
 case lookup t m k ok=>
  refine s5 he fun u hu=>?_
  rcases Mi hw hk hm with e | e
  ·rw [adp e];exact hu
  ·exact ads e hu
 case convert s d x=>
  cases al:k8 P s d (ba x) h with
  | none=>
   rw [al] at he
   cases ae:p9 P s d (ba x) h with
   | none=>rw [ae] at he;cases he
   | some p=>
    obtain ⟨u,ab⟩:=p
    rw [ae] at he
    have aI:ab=h:=by
     have:some (Step.val u ab)=some (Step.val v h):=he
     simp only [Option.some.injEq,Step.val.injEq] at this
     exact this.2
    exact absurd aI (Qt ae)
  | some u=>
   rw [al] at he
   have hu:k8 P s d (ba x) U=some u:=by
    rcases Mi hw hk hm with e | e
    ·rw [adq e];exact al
    ·exact adt e al
   rw [hu]
   have:some (Step.val u h)=some (Step.val v h):=he
   simp only [Option.some.injEq,Step.val.injEq] at this
   rw [this.1]
 case call c=>
  have ar:=adv J0
  have other:∀ b,(b=.min∨b=.max)→c.callee=.builtin b→gZ P c type ba U=some (.val v U):=fun b kg al=>by
   have aL:∀ ad:I,mX P b c.argTypes.toList type (vB c.args) (c.args.toList.map ba) ad=(match hQ (c.args.toList.map ba) with
     | some p8=>match dg P (builtin b c.argTypes.toList.toArray type (vB c.args) p8.toArray) with
      | some (.value v)=>some (eD v,ad)
      | _=>none
     | none=>none):=fun ad=>by
    rcases kg with rfl | rfl<;>rfl
   have eJ:∀ ad:I,gZ P c type ba ad=(match mX P b c.argTypes.toList type (vB c.args) (c.args.toList.map ba) ad with | some (v,U)=>some (.val v U) | none=>none):=fun ad=>by
    unfold gZ
    rw [al]
    rcases kg with rfl | rfl<;>rfl
   rw [eJ,aL] at he⊢
   cases aB:hQ (c.args.toList.map ba) with
   | none=>rw [aB] at he;cases he
   | some p8=>
    rw [aB] at he
    simp only at he⊢
    split at he
    ·rename_i v' ab ae
     split at ae
     ·simp at ae he
      obtain ⟨rfl,rfl⟩:=ae
      rw [he.1]
     ·cases ae
    ·cases he
  rcases ar with ar | ar | ar
  ·obtain ⟨callee,args,Ra⟩:=c
   simp only at ar
   subst ar
   have J:(args.size==1&&Ra.size==1)=true:=J0
   simp at J
   obtain ⟨x,rfl⟩:=Array.size_eq_one_iff.1 J.1
   obtain ⟨t,rfl⟩:=Array.size_eq_one_iff.1 J.2
   have eJ:∀ ad:I,gZ P ⟨.builtin .len,#[x],#[t]⟩ type ba ad=(match cE P t (ba x) ad with | some v=>some (.val v ad) | none=>none):=fun ad=>by
    show (match (match cE P t (ba x) ad with | some v=>some (v,ad) | none=>none) with | some (v,U)=>some (Step.val v U) | none=>none)=_
    cases cE P t (ba x) ad<;>rfl
   rw [eJ] at he⊢
   have fE:∀ i,hn (ba x)=some i→¬M i:=fun i af=>hm i (by simp [lO,af])
   cases hu:cE P t (ba x) h with
   | none=>rw [hu] at he;cases he
   | some u=>
    rw [hu] at he
    simp at he
    subst he
    have aJ:cE P t (ba x) U=some u:=by
     rcases Mi hw hk fE with e | e
     ·rw [adr e];exact hu
     ·exact adu e hu
    rw [aJ]
  ·exact other _ (.inl rfl) ar
  ·exact other _ (.inr rfl) ar
 all_goals exact s5 he fun _ h=>h
end
def s6 (P:Program) (ops:Array Oper) (M:Nat→Prop) (J:I) (o:Oper) (f:ak) (v:V):Prop:=∀ U,aa J U M→fa P ops.toList U o v f
def xn (ops:Array Oper) (es:List Nat) (listed:Array Bool) (i:Nat):Bool:=es.all fun e=>listed.getD e true||ga ops ops.size e i
def B7 (ops:Array Oper) (k:Nat):Bool:=(List.range ops.size).all fun i=>i==k||ga ops ops.size k i||ga ops ops.size i k
def anyS (P:Program) (ops:Array Oper) (es:List Nat) (M:Nat→Prop) (J:I) (K:ak→I→Prop) (X:I→Prop):Nat→Array Bool→ak→I→Prop
 | 0,listed,f,h=>Region.ready .any ops listed=[]∧K f h
 | n+1,listed,f,h=>(Region.ready .any ops listed=[]→K f h) ∧
  ∀ i ∈ Region.ready .any ops listed,∀ o,ops[i]?=some o →
   if es.contains i then (match ej ops.toList o.guard f with
    | some true=>eL P o (fun bE U=>(B7 ops i=true∨aa J U M)∧anyS P ops es M J K X n (listed.setIfInBounds i true) bE U) (fun _ h=>X h) f h
    | some false=>anyS P ops es M J K X n (listed.setIfInBounds i true) (f.put o.dst (.tuple [])) h
    | none=>False)
   else ∃ v,((aa J h M∧s6 P ops M J o f v)∨(xn ops es listed i=true∧fa P ops.toList h o v f))∧anyS P ops es M J K X n (listed.setIfInBounds i true) (f.put o.dst v) h
theorem zb {P:Program} {o:Oper} {K qe E w8:ak→I→Prop} (hk:∀ f h,K f h→qe f h) {f:ak} {h:I} (he:∀ f h,E f h→w8 f h) (J:eL P o K E f h):eL P o qe w8 f h:=by
 unfold eL at *
 split at J
 ·exact hk _ _ J
 ·exact J.mono (fun _ _ h=>hk _ _ h) fun _ h=>he _ _ h
 ·exact fun v U hm=>hk _ _ (J v U hm)
 ·exact he _ _ J
 ·exact J.mono (fun _ _ h=>hk _ _ h)
 ·exact J.elim
section
variable {P:Program} {ops:Array Oper} {es:List Nat} {M:Nat→Prop} {J:I} {K E:ak→I→Prop} {X:I→Prop}
theorem DH (mZ:∀ f h,X h→E f h):∀ (n:Nat) (listed:Array Bool) (f:ak) (h:I),anyS P ops es M J K X n listed f h→oh P ops es K E n listed f h
 | 0,_,_,_,ae=>ae
 | n+1,listed,f,h,ae=>by
  refine ⟨ae.1,fun i hi o av=>?_⟩
  have h1:=ae.2 i hi o av
  by_cases he:es.contains i=true
  ·rw [if_pos he] at h1⊢
   cases hw:ej ops.toList o.guard f with
   | none=>rw [hw] at h1;exact h1
   | some b=>
    rw [hw] at h1
    cases b with
    | true=>exact zb (fun bE U ad=>DH mZ n _ bE U ad.2) (fun f h ad=>mZ f h ad) h1
    | false=>exact DH mZ n _ _ _ h1
  ·rw [if_neg he] at h1⊢
   obtain ⟨v,aN,aq⟩:=h1
   refine ⟨v,?_,DH mZ n _ _ _ aq⟩
   rcases aN with ⟨hk,bZ⟩ | ⟨_,aX⟩
   ·exact bZ h hk
   ·exact aX
theorem adw {o:Oper} {dst:Option Tmp} {v:V} {f:ak} {h:I} {K qe:ak→I→Prop} (aw:∀ d,dst=some d→d ∉ o.looksAt ops) (al:∀ d,dst=some d→o.dst≠some d)
  (hk:∀ r U,K ((f.put o.dst r).put dst v) U→qe (f.put o.dst r) U) (J:eL P o K (fun _ h=>X h) (f.put dst v) h):eL P o qe (fun _ h=>X h) f h:=by
 unfold eL at *
 rw [L4 o f dst v aw] at J
 split at J
 ·exact hk _ _ (by rw [ak.put_comm f _ _ fun d a7 af=>al d af a7];exact J)
 ·exact J.mono (fun r U ad=>hk r U (by rw [ak.put_comm f _ _ fun d a7 af=>al d af a7];exact ad)) fun _ h=>h
 ·exact fun r U hm=>hk r U (by rw [ak.put_comm f _ _ fun d a7 af=>al d af a7];exact J r U hm)
 ·exact J
 ·exact J.mono (fun r U ad=>hk r U (by rw [ak.put_comm f _ _ fun d a7 af=>al d af a7];exact ad))
 ·exact J
theorem m7 {listed:Array Bool} (a7:Down ops listed) {i j:Nat} (aC:j ∈ Region.ready .any ops listed) (h:ga ops ops.size j i=true):listed.getD i false=true:=by
 obtain ⟨_,o,av,im⟩:=mem_ready.1 aC
 exact L6 a7 ops.size j i (fun o' e9=>by
                           rw [av] at e9;obtain rfl:o=o':=by simpa using e9
                           exact im) h
theorem HR {listed:Array Bool} {i:Nat} (hi:i ∈ Region.ready .any ops listed):listed.getD i false=false:=by
 have ay:=(mem_ready.1 hi).1
 rcases Nat.lt_or_ge i listed.size with U | U
 ·simp [U] at ay⊢;exact ay
 ·simp [Array.getElem?_eq_none U]
theorem zc {i:Nat} {jO:Oper} {v:V} (hi:ops[i]?=some jO) (mB:es.contains i=false) :
  ∀ (fuel:Nat) (listed:Array Bool) (f:ak) (h:I),
   (∀ j fS,ops[j]?=some fS→j≠i→listed.getD j true=false→(∀ e ∈ fS.after,Region.binds .any e=true→e.on≠i)→jO.apart ops fS=true) →
   i ∈ Region.ready .any ops listed→Down ops listed→((aa J h M∧s6 P ops M J jO f v)∨(xn ops es listed i=true∧fa P ops.toList h jO v f)) →
   anyS P ops es M J K X fuel (listed.setIfInBounds i true) (f.put jO.dst v) h→anyS P ops es M J K X (fuel+1) listed f h:=by
 intro fuel
 induction fuel with
 | zero=>
  intro listed f h _ aq dr aX H
  refine ⟨fun h=>(by rw [h] at aq;cases aq),fun j aC o av=>?_⟩
  by_cases cI:j=i
  ·subst cI
   rw [hi] at av
   obtain rfl:jO=o:=by simpa using av
   rw [mB]
   exact ⟨v,aX,H⟩
  ·have:=ready_mono aC cI
   rw [H.1] at this
   cases this
 | succ fuel ih=>
  intro listed f h iJ aq dr aX H
  refine ⟨fun h=>(by rw [h] at aq;cases aq),fun j aC fS nC=>?_⟩
  by_cases cI:j=i
  ·subst cI
   rw [hi] at nC
   obtain rfl:jO=fS:=by simpa using nC
   rw [mB]
   exact ⟨v,aX,H⟩
  ·have vN:=H.2 j (ready_mono aC cI) fS nC
   obtain ⟨oi,Dz,sX,im⟩:=mem_ready.1 aC
   rw [nC] at sX
   obtain rfl:fS=Dz:=by simpa using sX
   have y1:∀ e ∈ fS.after,Region.binds .any e=true→e.on≠i:=fun e he ar heq=>by
    have h1:=im e he ar
    have ay:=HR aq
    rw [heq,ay] at h1
    cases h1
   obtain ⟨bC,a2,a3⟩:=Oper.apart_spec (iJ j fS nC cI oi y1)
   have qg:∀ k ok,ops[k]?=some ok→k≠i→(listed.setIfInBounds j true).getD k true=false →
     (∀ e ∈ ok.after,Region.binds .any e=true→e.on≠i)→jO.apart ops ok=true:=fun k ok hk iy qf h6=>by
    refine iJ k ok hk iy ?_ h6
    by_cases xg:j=k
    ·subst xg;exact oi
    ·rw [getD_set_ne true xg] at qf;exact qf
   have eh:=ready_mono aq (Ne.symm cI)
   have sW:=dr.add aC
   have s7:∀ (U:I) (r:V),aa J U M→s6 P ops M J jO f v→anyS P ops es M J K X fuel ((listed.setIfInBounds i true).setIfInBounds j true) ((f.put fS.dst r).put jO.dst v) U→anyS P ops es M J K X (fuel+1) (listed.setIfInBounds j true) (f.put fS.dst r) U:=fun U r hk bZ ad=>
    ih (listed.setIfInBounds j true) (f.put fS.dst r) U qg eh sW (.inl ⟨hk,fun ab k2=>(bZ ab k2).put fS.dst r a3⟩) (by rw [Array.setIfInBounds_comm _ _ cI];exact ad)
   by_cases xf:es.contains j=true
   ·rw [if_pos xf] at vN⊢
    have bZ:aa J h M∧s6 P ops M J jO f v:=by
     rcases aX with aX | ⟨av,_⟩
     ·exact aX
     ·exfalso
      have h1:=(List.all_eq_true.1 av) j (by simpa using xf)
      rw [oi,Bool.false_or] at h1
      have:=m7 dr aC h1
      rw [HR aq] at this
      cases this
    rw [L5 fS f jO.dst v bC] at vN
    cases hw:ej ops.toList fS.guard f with
    | none=>rw [hw] at vN;exact vN
    | some b=>
     rw [hw] at vN
     cases b with
     | true=>
      refine adw bC a2 (fun r U ad=>?_) vN
      have hk:aa J U M:=by
       rcases ad.1 with ql | hk
       ·exfalso
        have h1:=(List.all_eq_true.1 ql) i (by
         have:=(Array.getElem?_eq_some_iff.1 hi).1
         simpa using this)
        simp only [Bool.or_eq_true,beq_iff_eq] at h1
        rcases h1 with (h1 | h1) | h1
        ·exact cI h1.symm
        ·have:=m7 dr aC h1
         rw [HR aq] at this
         cases this
        ·have:=m7 dr aq h1
         rw [HR aC] at this
         cases this
       ·exact hk
      exact ⟨.inr hk,s7 U r hk bZ.2 ad.2⟩
     | false=>
      refine s7 h (.tuple []) bZ.1 bZ.2 ?_
      rw [←ak.put_comm f v (.tuple []) a2]
      exact vN
   ·rw [if_neg xf] at vN⊢
    obtain ⟨u,DA,fh⟩:=vN
    refine ⟨u,?_,?_⟩
    ·rcases DA with ⟨hk,bZ⟩ | ⟨av,DI⟩
     ·exact .inl ⟨hk,fun ab k2=>(bZ ab k2).vI jO.dst v bC⟩
     ·refine .inr ⟨?_,DI.vI jO.dst v bC⟩
      refine List.all_eq_true.2 fun e he=>?_
      have h1:=(List.all_eq_true.1 av) e he
      have Rb:i≠e:=fun ad=>by
       subst ad
       have:es.contains i=true:=by simpa using he
       rw [mB] at this;cases this
      rwa [getD_set_ne true Rb] at h1
    ·have Rc:((aa J h M∧s6 P ops M J jO (f.put fS.dst u) v)∨(xn ops es (listed.setIfInBounds j true) i=true∧fa P ops.toList h jO v (f.put fS.dst u))):=by
      rcases aX with ⟨hk,bZ⟩ | ⟨av,DI⟩
      ·exact .inl ⟨hk,fun ab k2=>(bZ ab k2).put fS.dst u a3⟩
      ·refine .inr ⟨List.all_eq_true.2 fun e he=>?_,DI.put fS.dst u a3⟩
       have h1:=(List.all_eq_true.1 av) e he
       simp only [Bool.or_eq_true] at h1⊢
       rcases h1 with h1 | h1
       ·exact .inl (QK h1)
       ·exact .inr h1
     refine ih (listed.setIfInBounds j true) (f.put fS.dst u) h qg eh sW Rc ?_
     rw [Array.setIfInBounds_comm _ _ cI,←ak.put_comm f v u a2]
     exact fh
end
def t7:Op→Bool
 | .move _ | .assign _ | .pick .. | .build .. | .nilCheck _ | .binOp .. | .unOp .. | .makeInterface .. | .makeFunc .. | .slice .. | .fieldAddr .. | .field .. | .indexAddr .. | .index .. | .typeAssert .. | .extract ..=>true
 | _=>false
section
variable {P:Program} {h U:I}
theorem aog {o:Op} (h:t7 o=true):qk o=true:=by cases o<;>simp [t7] at h<;>rfl
theorem adx {o:Oper} {ba:Operand→V} (hi:t7 o.op=true) {v:V} (he:cG P o ba h=some (.val v h)):cG P o ba U=some (.val v U):=by
 have s5:∀ {x:Option V},eI x h=some (.val v h)→eI x U=some (.val v U):=fun {x} af=>by
  obtain ⟨aK,_⟩:=oZ af
  rw [aK];rfl
 obtain ⟨dst,op,type,pos,after,guard⟩:=o
 cases op<;>simp [t7] at hi<;>simp only [cG] at he⊢
 case move x=>simp at he;rw [he]
 case assign x=>simp at he;rw [he]
 case pick c a b=>split at he<;>simp at he⊢;exact he
 case nilCheck x=>split at he<;>simp at he⊢<;>exact he
 case makeInterface t x=>split at he<;>simp at he⊢;exact he
 case makeFunc fn xs ys=>cases fn<;>simp at he⊢;exact he
 case extract t k=>
  split at he
  ·exact s5 he
  ·cases he
 all_goals exact s5 he
theorem ady {o:Oper} {ba:Operand→V} {g:FuncId} {args:List V} (he:cG P o ba h=some (.call g args)):cG P o ba U=some (.call g args):=by
 obtain ⟨dst,op,type,pos,after,guard⟩:=o
 have DJ:∀ {x:Option V},eI x h≠some (.call g args):=fun {x} af=>by obtain ⟨v,aN⟩:=L8 af;cases aN
 have HS:∀ {x:Option (V×I)},dV x≠some (.call g args):=fun {x} af=>by unfold dV at af;split at af<;>simp at af
 have adz:∀ {x:Option I},nN x≠some (.call g args):=fun {x} af=>by unfold nN at af;split at af<;>simp at af
 cases op<;>simp only [cG] at he⊢
 case call c=>
  obtain ⟨callee,YW,ts⟩:=c
  unfold gZ at he⊢
  cases callee with
  | value f=>
   simp only at he⊢
   split at he
   case h_2=>simp at he
   case h_3=>cases he
   split at he
   ·rename_i al;rw [if_pos al];exact he
   ·exfalso
    split at he<;>simp at he
  | builtin b=>
   exfalso
   cases b
   case panic=>simp only at he;split at he<;>simp at he
   all_goals
    simp only at he
    split at he<;>simp at he
  | invoke r m=>exact he
 case next it s=>
  cases s
  ·simp only at he;split at he<;>simp at he
  ·cases he
 case makeFunc fn xs ys=>cases fn<;>simp at he
 all_goals first
  | exact absurd he DJ
  | exact absurd he HS
  | exact absurd he adz
  | (simp at he;done)
  | (split at he<;>first | (simp at he;done) | exact absurd he DJ | exact absurd he HS)
  | (cases he;done)
end
inductive bJ where
 | done
 | stop
 | q (k:Nat) (s:bJ)
 | c (k:Nat) (s:bJ)
 | a (k:Nat) (s:bJ)
 | e (k:Nat) (s alt:bJ)
def bJ.keys:bJ→List Nat
 | .e k _ alt=>k::alt.keys
 | _=>[]
def bJ.ok (ops:Array Oper) (es:List Nat):bJ→Nat→Bool→Bool→Bool→Array Bool→Bool
 | .done,n,top,p,cM,listed=>top&&n==0&&(Region.ready .any ops listed).isEmpty
 | .stop,_,top,_,_,_=>!top
 | .q k s,n,top,p,cM,listed=>match n,ops[k]? with
  | n+1,some o=>top&&!es.contains k&&(Region.ready .any ops listed).contains k&&Region.free .any ops listed k&&qk o.op&&((p&&cM)||(cM&&t7 o.op)||xn ops es listed k)&&s.ok ops es n true p cM (listed.setIfInBounds k true)
  | _,_=>false
 | .c k s,n,top,p,cM,listed=>match n,ops[k]? with
  | n+1,some o=>top&&!es.contains k&&(Region.ready .any ops listed).contains k&&Region.free .any ops listed k&&((p&&cM)||xn ops es listed k)&&s.ok ops es n true p cM (listed.setIfInBounds k true)
  | _,_=>false
 | .a k s,n,top,p,cM,listed=>match n with
  | n+1=>top&&es.contains k&&Region.ready .any ops listed==[k]&&B7 ops k&&s.ok ops es n true false false (listed.setIfInBounds k true)
  | 0=>false
 | .e k s alt,n,top,p,cM,listed=>match n with
  | n+1=>(!top||((Region.ready .any ops listed).contains k&&(Region.ready .any ops listed).all fun i=>(k::alt.keys).contains i))&&es.contains k&&s.ok ops es n true false true (listed.setIfInBounds k true)&&alt.ok ops es (n+1) false p cM listed
  | 0=>false
section
variable {P:Program} {ops:Array Oper} {es:List Nat} {M:Nat→Prop} {J:I} {K:ak→I→Prop} {X:I→Prop}
def iW (P:Program) (ol:List Oper) (M:Nat→Prop) (J:I) (K:ak→I→Prop) (X:I→Prop):bJ→Bool→ak→I→Prop
 | .done,_,f,h=>K f h
 | .stop,_,_,_=>True
 | .q k s,p,f,h=>match ol[k]? with
  | some o=>(match ej ol o.guard f with
   | some true=>∃ v,(cG P o (f.eval h) h=some (.val v h)∧(p=true→∀ i,lO (f.eval h) o.op=some i→¬M i))∧iW P ol M J K X s p (f.put o.dst v) h
   | some false=>iW P ol M J K X s p (f.put o.dst (.tuple [])) h
   | none=>False)
  | none=>False
 | .c k s,p,f,h=>match ol[k]? with
  | some o=>(match ej ol o.guard f with
   | some true=>∃ g args v,cG P o (f.eval h) h=some (.call g args)∧(∀ U,aa J U M∨U=h→Pure P g args U v)∧iW P ol M J K X s p (f.put o.dst v) h
   | some false=>iW P ol M J K X s p (f.put o.dst (.tuple [])) h
   | none=>False)
  | none=>False
 | .a k s,p,f,h=>match ol[k]? with
  | some o=>(match ej ol o.guard f with
   | some true=>eL P o (fun bE U=>iW P ol M J K X s false bE U) (fun _ h=>X h) f h
   | some false=>iW P ol M J K X s false (f.put o.dst (.tuple [])) h
   | none=>False)
  | none=>False
 | .e k s alt,p,f,h=>(match ol[k]? with
  | some o=>(match ej ol o.guard f with
   | some true=>eL P o (fun bE U=>aa J U M∧iW P ol M J K X s false bE U) (fun _ h=>X h) f h
   | some false=>aa J h M∧iW P ol M J K X s false (f.put o.dst (.tuple [])) h
   | none=>False)
  | none=>False)∧iW P ol M J K X alt p f h
def Clause (P:Program) (ops:Array Oper) (es:List Nat) (M:Nat→Prop) (J:I) (K:ak→I→Prop) (X:I→Prop) (n:Nat) (listed:Array Bool) (f:ak) (h:I) (i:Nat):Prop :=
 ∀ o,ops[i]?=some o→(match ej ops.toList o.guard f with
    | some true=>eL P o (fun bE U=>(B7 ops i=true∨aa J U M)∧anyS P ops es M J K X n (listed.setIfInBounds i true) bE U) (fun _ h=>X h) f h
    | some false=>anyS P ops es M J K X n (listed.setIfInBounds i true) (f.put o.dst (.tuple [])) h
    | none=>False)
theorem xp {l:List Nat} {k:Nat} (h:l.contains k=true):k ∈ l:=by simpa using h
theorem DK {U:I} (hk:aa J U M) (f:ak):f.eval U=f.eval J:=funext fun x=>adn hk f x
theorem adA (DL:vM J):∀ (s:bJ) (n:Nat) (p cM:Bool) (listed:Array Bool) (f:ak) (h:I),(p=true→h=J)→(cM=true→aa J h M)→Down ops listed→iW P ops.toList M J K X s p f h →
  (s.ok ops es n true p cM listed=true→anyS P ops es M J K X n listed f h) ∧
  (∀ m,n=m+1→s.ok ops es n false p cM listed=true→∀ i ∈ s.keys,i ∈ Region.ready .any ops listed→es.contains i=true∧Clause P ops es M J K X m listed f h i):=by
 intro s
 induction s with
 | done=>
  intro n p cM listed f h az gA dr he
  refine ⟨fun aU=>?_,fun m hm aU=>by simp [bJ.ok] at aU⟩
  simp only [bJ.ok,Bool.true_and,Bool.and_eq_true,beq_iff_eq,List.isEmpty_iff] at aU
  obtain ⟨rfl,aq⟩:=aU
  exact ⟨aq,he⟩
 | stop=>
  intro n p cM listed f h az gA dr he
  exact ⟨fun aU=>by simp [bJ.ok] at aU,fun m hm aU i hi=>by simp [bJ.keys] at hi⟩
 | q k s ih=>
  intro n p cM listed f h az gA dr he
  refine ⟨fun aU=>?_,fun m hm aU i hi=>by simp [bJ.keys] at hi⟩
  cases n with
  | zero=>simp [bJ.ok] at aU
  | succ n=>
   cases av:ops[k]? with
   | none=>simp [bJ.ok,av] at aU
   | some o=>
    simp only [bJ.ok,av,Bool.true_and,Bool.and_eq_true,Bool.not_eq_true'] at aU
    obtain ⟨⟨⟨⟨⟨eK,aq⟩,fo⟩,cO⟩,uT⟩,dy⟩:=aU
    have dL:=xp aq
    have gB:ops.toList[k]?=some o:=by simpa using av
    simp only [iW,gB] at he
    have fin:∀ v,fa P ops.toList h o v f→(ej ops.toList o.guard f=some false∨(p=true→∀ i,lO (f.eval h) o.op=some i→¬M i)∧cG P o (f.eval h) h=some (.val v h))→iW P ops.toList M J K X s p (f.put o.dst v) h→anyS P ops es M J K X (n+1) listed f h:=fun v aX hm fh=>by
     refine zc av eK n listed f h (Region.free_spec av fo) dL dr ?_ ((ih n p cM _ _ h az gA (dr.add dL) fh).1 dy)
     simp only [Bool.or_eq_true,Bool.and_eq_true] at uT
     rcases uT with (⟨xq,fy⟩ | ⟨fy,Re⟩) | ma
     ·refine .inl ⟨gA fy,fun U cF=>?_⟩
      have ad:=az xq
      subst ad
      rcases hm with hm | ⟨hm,bN⟩
      ·rcases aX with ⟨qm,_⟩ | aX
       ·rw [hm] at qm;cases qm
       ·exact .inr aX
      ·rcases aX with ⟨qm,_⟩ | aX
       ·exact .inl ⟨qm,.inl (by rw [DK cF];exact Q9 DL cF cO (hm xq) bN)⟩
       ·exact .inr aX
     ·refine .inl ⟨gA fy,fun U cF=>?_⟩
      rcases hm with hm | ⟨hm,bN⟩
      ·rcases aX with ⟨qm,_⟩ | aX
       ·rw [hm] at qm;cases qm
       ·exact .inr aX
      ·rcases aX with ⟨qm,_⟩ | aX
       ·exact .inl ⟨qm,.inl (by rw [DK cF,←DK (gA fy)];exact adx Re bN)⟩
       ·exact .inr aX
     ·exact .inr ⟨ma,aX⟩
    cases hw:ej ops.toList o.guard f with
    | none=>rw [hw] at he;exact he.elim
    | some b=>
     rw [hw] at he
     cases b with
     | true=>
      obtain ⟨v,⟨bN,hm⟩,fh⟩:=he
      exact fin v (.inl ⟨hw,.inl bN⟩) (.inr ⟨hm,bN⟩) fh
     | false=>exact fin (.tuple []) (.inr ⟨hw,rfl⟩) (.inl hw) he
 | c k s ih=>
  intro n p cM listed f h az gA dr he
  refine ⟨fun aU=>?_,fun m hm aU i hi=>by simp [bJ.keys] at hi⟩
  cases n with
  | zero=>simp [bJ.ok] at aU
  | succ n=>
   cases av:ops[k]? with
   | none=>simp [bJ.ok,av] at aU
   | some o=>
    simp only [bJ.ok,av,Bool.true_and,Bool.and_eq_true,Bool.not_eq_true'] at aU
    obtain ⟨⟨⟨⟨eK,aq⟩,fo⟩,uT⟩,dy⟩:=aU
    have dL:=xp aq
    have gB:ops.toList[k]?=some o:=by simpa using av
    simp only [iW,gB] at he
    simp only [Bool.or_eq_true,Bool.and_eq_true] at uT
    cases hw:ej ops.toList o.guard f with
    | none=>rw [hw] at he;exact he.elim
    | some b=>
     rw [hw] at he
     cases b with
     | true=>
      obtain ⟨g,args,v,bN,J1,fh⟩:=he
      refine zc (v:=v) av eK n listed f h (Region.free_spec av fo) dL dr ?_ ((ih n p cM _ _ h az gA (dr.add dL) fh).1 dy)
      rcases uT with ⟨xq,fy⟩ | ma
      ·refine .inl ⟨gA fy,fun U cF=>.inl ⟨hw,.inr ⟨g,args,?_,J1 U (.inl cF)⟩⟩⟩
       have ad:=az xq
       subst ad
       rw [DK cF]
       exact ady bN
      ·exact .inr ⟨ma,.inl ⟨hw,.inr ⟨g,args,bN,J1 h (.inr rfl)⟩⟩⟩
     | false=>
      refine zc (v:=.tuple []) av eK n listed f h (Region.free_spec av fo) dL dr ?_ ((ih n p cM _ _ h az gA (dr.add dL) he).1 dy)
      rcases uT with ⟨xq,fy⟩ | ma
      ·exact .inl ⟨gA fy,fun U cF=>.inr ⟨hw,rfl⟩⟩
      ·exact .inr ⟨ma,.inr ⟨hw,rfl⟩⟩
 | a k s ih=>
  intro n p cM listed f h az gA dr he
  refine ⟨fun aU=>?_,fun m hm aU i hi=>by simp [bJ.keys] at hi⟩
  cases n with
  | zero=>simp [bJ.ok] at aU
  | succ n=>
   simp only [bJ.ok,Bool.true_and,Bool.and_eq_true,beq_iff_eq] at aU
   obtain ⟨⟨⟨eK,aq⟩,ql⟩,dy⟩:=aU
   have dL:k ∈ Region.ready .any ops listed:=by rw [aq];simp
   refine ⟨fun ay=>(by rw [ay] at aq;cases aq),fun i hi o av=>?_⟩
   rw [aq] at hi
   simp at hi
   subst hi
   rw [if_pos eK]
   have gB:ops.toList[i]?=some o:=by simpa using av
   simp only [iW,gB] at he
   cases hw:ej ops.toList o.guard f with
   | none=>rw [hw] at he;exact he.elim
   | some b=>
    rw [hw] at he
    cases b with
    | true=>exact zb (fun bE U ad=>⟨.inl ql,(ih n false false _ _ U (by simp) (by simp) (dr.add dL) ad).1 dy⟩) (fun _ _ h=>h) he
    | false=>exact (ih n false false _ _ h (by simp) (by simp) (dr.add dL) he).1 dy
 | e k s alt rK om=>
  intro n p cM listed f h az gA dr he
  have main:∀ (m:Nat) (top:Bool),n=m+1→(bJ.e k s alt).ok ops es n top p cM listed=true→∀ i ∈ (bJ.e k s alt).keys,i ∈ Region.ready .any ops listed→es.contains i=true∧Clause P ops es M J K X m listed f h i:=by
   intro m top aJ aU i hi qn
   subst aJ
   simp only [bJ.ok,Bool.and_eq_true] at aU
   obtain ⟨⟨⟨_,eK⟩,dy⟩,halt⟩:=aU
   simp only [iW] at he
   simp only [bJ.keys,List.mem_cons] at hi
   by_cases xr:i=k
   ·subst xr
    refine ⟨eK,fun o av=>?_⟩
    have gB:ops.toList[i]?=some o:=by simpa using av
    have h1:=he.1
    rw [gB] at h1
    simp only at h1
    cases hw:ej ops.toList o.guard f with
    | none=>rw [hw] at h1;exact h1.elim
    | some b=>
     rw [hw] at h1
     cases b with
     | true=>exact zb (fun bE U ad=>⟨.inr ad.1,(rK m false true _ _ U (by simp) (fun _=>ad.1) (dr.add qn) ad.2).1 dy⟩) (fun _ _ h=>h) h1
     | false=>exact (rK m false true _ _ h (by simp) (fun _=>h1.1) (dr.add qn) h1.2).1 dy
   ·rcases hi with hi | hi
    ·exact absurd hi xr
    ·exact (om (m+1) p cM listed f h az gA dr he.2).2 m rfl halt i hi qn
  refine ⟨fun aU=>?_,fun m hm aU=>main m false hm aU⟩
  cases n with
  | zero=>simp [bJ.ok] at aU
  | succ m=>
   have s8:(Region.ready .any ops listed).all (fun i=>(k::alt.keys).contains i)=true∧(Region.ready .any ops listed).contains k=true:=by
    simp only [bJ.ok,Bool.and_eq_true,Bool.not_true,Bool.false_or] at aU
    exact ⟨aU.1.1.1.2,aU.1.1.1.1⟩
   have gO:∀ i ∈ Region.ready .any ops listed,i ∈ (bJ.e k s alt).keys:=fun i hi=>by
    have:=(List.all_eq_true.1 s8.1) i hi
    exact xp this
   refine ⟨fun ay=>?_,fun i hi o av=>?_⟩
   ·have:=xp s8.2
    rw [ay] at this
    cases this
   ·obtain ⟨h1,ab⟩:=main m true rfl aU i (gO i hi) hi
    rw [if_pos h1]
    exact ab o av
end
def kZ (M:Nat→Prop) (r:Option Nat):Prop:=∀ i,r=some i→¬M i
theorem adB {r:Option Nat}:kZ none_ r=True:=eq_true fun _ _ h=>h
theorem adC {o:Op} (h:qk o=true):l8 o=true:=by
 cases o
 case entry=>simp [qk] at h
 case call c=>
  obtain ⟨callee,args,ts⟩:=c
  cases callee with
  | builtin b=>cases b<;>simp [qk,l8] at h⊢
  | _=>simp [qk,l8] at h
 all_goals exact h
def fb (P:Program) (ol:List Oper) (M:Nat→Prop) (J:I) (K:fq):bJ→Bool→ak→I→Prop
 | .done,_,f,h=>@hG K f h
 | .stop,_,_,_=>True
 | .q k s,p,f,h=>match ol[k]? with
  | some o=>(p=true→kZ M (lO (f.eval h) o.op))∧@nQ P ol [o] ⟨h⟩ (.fn (fun bE _=>fb P ol M J K s p bE h) (fun _ _=>False)) f
  | none=>False
 | .c k s,p,f,h=>match ol[k]? with
  | some o=>(match ej ol o.guard f with
   | some true=>∃ g args v,cG P o (f.eval h) h=some (.call g args)∧(∀ U,aa J U M∨U=h→Pure P g args U v)∧fb P ol M J K s p (f.put o.dst v) h
   | some false=>fb P ol M J K s p (f.put o.dst (.tuple [])) h
   | none=>False)
  | none=>False
 | .a k s,p,f,h=>match ol[k]? with
  | some o=>@hl P ol [o] (.fn (fun bE U=>fb P ol M J K s false bE U) (fun _ U=>∀ f,fq.exc K f U)) f h
  | none=>False
 | .e k s alt,p,f,h=>(match ol[k]? with
  | some o=>@hl P ol [o] (.fn (fun bE U=>aa J U M∧fb P ol M J K s false bE U) (fun _ U=>∀ f,fq.exc K f U)) f h
  | none=>False)∧fb P ol M J K alt p f h
section
variable {P:Program} {ol:List Oper} {M:Nat→Prop} {J h:I} {K:fq} {f:ak} {k:Nat} {s alt:bJ} {p:Bool} {o:Oper}
def DM (P:Program) (ol:List Oper) (M:Nat→Prop) (J:I) (K:fq) (s:bJ) (p:Bool) (f:ak) (h:I):Option Oper→Prop
 | some o=>(p=true→kZ M (lO (f.eval h) o.op))∧@nQ P ol [o] ⟨h⟩ (.fn (fun bE _=>fb P ol M J K s p bE h) (fun _ _=>False)) f
 | none=>False
def DN (P:Program) (ol:List Oper) (M:Nat→Prop) (J:I) (K:fq) (s:bJ) (f:ak) (h:I):Option Oper→Prop
 | some o=>@hl P ol [o] (.fn (fun bE U=>fb P ol M J K s false bE U) (fun _ U=>∀ f,fq.exc K f U)) f h
 | none=>False
def DO (P:Program) (ol:List Oper) (M:Nat→Prop) (J:I) (K:fq) (s:bJ) (f:ak) (h:I):Option Oper→Prop
 | some o=>@hl P ol [o] (.fn (fun bE U=>aa J U M∧fb P ol M J K s false bE U) (fun _ U=>∀ f,fq.exc K f U)) f h
 | none=>False
theorem adD:fb P ol M J K .done p f h=@hG K f h:=nr rfl
theorem adE:fb P ol M J K .stop p f h=True:=nr rfl
theorem adF:fb P ol M J K (.q k s) p f h=DM P ol M J K s p f h ol[k]?:=by
 unfold fb DM;cases ol[k]?<;>rfl
theorem adG:fb P ol M J K (.a k s) p f h=DN P ol M J K s f h ol[k]?:=by
 unfold fb DN;cases ol[k]?<;>rfl
theorem adH:fb P ol M J K (.e k s alt) p f h=(DO P ol M J K s f h ol[k]?∧fb P ol M J K alt p f h):=by
 conv=>lhs;unfold fb
 unfold DO;cases ol[k]?<;>rfl
theorem adI:DM P ol M J K s p f h (some o)=((p=true→kZ M (lO (f.eval h) o.op))∧@nQ P ol [o] ⟨h⟩ (.fn (fun bE _=>fb P ol M J K s p bE h) (fun _ _=>False)) f):=nr rfl
theorem adJ:DN P ol M J K s f h (some o)=@hl P ol [o] (.fn (fun bE U=>fb P ol M J K s false bE U) (fun _ U=>∀ f,fq.exc K f U)) f h:=nr rfl
theorem adK:DO P ol M J K s f h (some o)=@hl P ol [o] (.fn (fun bE U=>aa J U M∧fb P ol M J K s false bE U) (fun _ U=>∀ f,fq.exc K f U)) f h:=nr rfl
theorem jQ {fid:FuncId} {args:List V} {v:V} (av:ol[k]?=some o) (aE:ej ol o.guard f=some true) (al:cG P o (f.eval h) h=some (.call fid args)) (az:∀ U,aa J U M∨U=h→Pure P fid args U v)
  (hk:fb P ol M J K s p (f.put o.dst v) h):fb P ol M J K (.c k s) p f h:=by
 unfold fb
 rw [av]
 simp only
 rw [aE]
 exact ⟨_,_,_,al,az,hk⟩
theorem na (av:ol[k]?=some o) (aE:ej ol o.guard f=some false) (hk:fb P ol M J K s p (f.put o.dst (.tuple [])) h):fb P ol M J K (.c k s) p f h:=by
 unfold fb
 rw [av]
 simp only
 rw [aE]
 exact hk
theorem adL {M:Nat→Prop} {h:I} {a:aD}:aa h (h.push a) M=True:=eq_true (aa.push _ _ _)
end
theorem adM {P:Program} {ops:Array Oper} {es:List Nat} {M:Nat→Prop} {J:I} {K:fq}:∀ (s:bJ) (n:Nat) (top p cM:Bool) (listed:Array Bool) (f:ak) (h:I),
  s.ok ops es n top p cM listed=true→fb P ops.toList M J K s p f h→iW P ops.toList M J K.go (fun h=>∀ f,fq.exc K f h) s p f h:=by
 intro s
 induction s with
 | done=>intro n top p cM listed f h _ he;exact he
 | stop=>intro n top p cM listed f h _ he;trivial
 | q k s ih=>
  intro n top p cM listed f h aU he
  cases n with
  | zero=>simp [bJ.ok] at aU
  | succ n=>
   cases av:ops[k]? with
   | none=>simp [bJ.ok,av] at aU
   | some o=>
    simp only [bJ.ok,av,Bool.and_eq_true] at aU
    have cO:=aU.1.1.2
    have dy:=aU.2
    have gB:ops.toList[k]?=some o:=by simpa using av
    simp only [fb,gB] at he
    simp only [iW,gB]
    obtain ⟨hm,ae⟩:=he
    unfold nQ B3 at ae
    cases hw:ej ops.toList o.guard f with
    | none=>rw [hw] at ae;exact ae.elim
    | some b=>
     rw [hw] at ae
     cases b with
     | true=>
      obtain ⟨v,bZ,aq⟩:=ae
      have aN:cG P o (f.eval h) h=some (.val v h):=by
       rcases bZ with bZ | ⟨g,args,bZ,_⟩
       ·exact bZ
       ·obtain ⟨u,hu⟩:=ui (adC cO) bZ
        cases hu
      exact ⟨v,⟨aN,hm⟩,ih n true p cM _ _ h dy aq⟩
     | false=>exact ih n true p cM _ _ h dy ae
 | c k s ih=>
  intro n top p cM listed f h aU he
  cases n with
  | zero=>simp [bJ.ok] at aU
  | succ n=>
   cases av:ops[k]? with
   | none=>simp [bJ.ok,av] at aU
   | some o=>
    simp only [bJ.ok,av,Bool.and_eq_true] at aU
    have dy:=aU.2
    have gB:ops.toList[k]?=some o:=by simpa using av
    simp only [fb,gB] at he
    simp only [iW,gB]
    cases hw:ej ops.toList o.guard f with
    | none=>rw [hw] at he;exact he
    | some b=>
     rw [hw] at he
     cases b with
     | true=>
      obtain ⟨g,args,v,h1,ab,aI⟩:=he
      exact ⟨g,args,v,h1,ab,ih n true p cM _ _ h dy aI⟩
     | false=>exact ih n true p cM _ _ h dy he
 | a k s ih=>
  intro n top p cM listed f h aU he
  cases n with
  | zero=>simp [bJ.ok] at aU
  | succ n=>
   simp only [bJ.ok,Bool.and_eq_true] at aU
   have dy:=aU.2
   simp only [fb] at he
   simp only [iW]
   cases gB:ops.toList[k]? with
   | none=>rw [gB] at he;exact he
   | some o=>
    rw [gB] at he
    simp only at he⊢
    unfold hl il at he
    cases hw:ej ops.toList o.guard f with
    | none=>rw [hw] at he;exact he
    | some b=>
     rw [hw] at he
     cases b with
     | true=>exact zb (fun bE U ad=>ih n true false false _ bE U dy ad) (fun _ _ ad=>ad) he
     | false=>exact ih n true false false _ _ h dy he
 | e k s alt rK om=>
  intro n top p cM listed f h aU he
  cases n with
  | zero=>simp [bJ.ok] at aU
  | succ n=>
   simp only [bJ.ok,Bool.and_eq_true] at aU
   obtain ⟨⟨⟨_,_⟩,dy⟩,halt⟩:=aU
   simp only [fb] at he
   simp only [iW]
   refine ⟨?_,om (n+1) false p cM _ f h halt he.2⟩
   have h1:=he.1
   cases gB:ops.toList[k]? with
   | none=>rw [gB] at h1;exact h1
   | some o=>
    rw [gB] at h1
    simp only at h1⊢
    unfold hl il at h1
    cases hw:ej ops.toList o.guard f with
    | none=>rw [hw] at h1;exact h1
    | some b=>
     rw [hw] at h1
     cases b with
     | true=>exact zb (fun bE U ad=>⟨ad.1,rK n true false true _ bE U dy ad.2⟩) (fun _ _ ad=>ad) h1
     | false=>exact ⟨h1.1,rK n true false true _ _ h dy h1.2⟩
theorem aZ.b4 {P:Program} {n id:Nat} {ops:Array Oper} (M:Nat→Prop) (es:List Nat) (s:bJ) (hm:P.follows .mixedOrders=true) (b3:s.ok ops es ops.size true true true (Array.replicate ops.size false)=true) (aU:ops.toList.all (fun o=>j3 n o.dst)=true) {Q:sL} {f:ak} {h:I}
  (ae:fb P ops.toList M h (.out Q) s true f h):aZ P n (.region id ops true) Q.go f h:=by
 intro ρ B aG a w hw aB
 refine wpIn_wide.1 (wpIn_region_any (n:=0) hm (y0 (ρ0:=ρ) (es:=es) aU _ _ f h ρ a _ (Ren.le.refl ρ) hw.drew aB ?_))
 have:=(adA (es:=es) hw.wf s _ true true _ f h (fun _=>rfl) (fun _=>aa.refl _ _) (fun k o av hk=>by simp [Array.getElem?_replicate] at hk;split at hk<;>simp_all) (adM s _ true true true _ f h b3 ae)).1 b3
 exact DH (fun f h af=>af f) _ _ _ _ this
def zd (P:Program):Nat→List Field→Option (List Nat)
 | _,[]=>some []
 | o, f :: di => if f.name ≠ "_" ∧ f.offset = o then
   match P.underlying f.type,zd P (o+1) di with
   | some (.int _),some l=>some (0::l)
   | some .bool,some l=>some (1::l)
   | some .string,some l=>some (2::l)
   | _,_=>none
  else none
def HT (P:Program) (t:TypeId):Option (List Nat):=match P.underlying t with
 | some (.struct di)=>if P.stoodInHeld t=false∧P.eqGuardType P.depth t=false then zd P 0 di.toList else none
 | _=>none
def gC:List Nat→List V→List V→Option Bool
 | [],[],[]=>some true
 | 0::fi,.int k a::r,.int k' b::s=>if k=k' then (gC fi r s).map fun x=>(a==b)&&x else none
 | 1::fi,.bool a::r,.bool b::s=>(gC fi r s).map fun x=>(a==b)&&x
 | 2::fi,.string a::r,.string b::s=>(gC fi r s).map fun x=>(a.toList==b.toList)&&x
 | _,_,_=>none
section
variable {P:Program}
theorem qo {α:Type} {a:α}:dg P (pure a:Sem α)=some a:=rfl
theorem Mj:dg P program=some P:=rfl
theorem B8 {t:TypeId} {d:TypeDesc} (h:P.underlying t=some d):dg P (underlying t)=some d:=Ds h
theorem Mk {t:TypeId} {d:TypeDesc} {cs:Array Value} {o:Nat} {v:Value} (hu:P.underlying t=some d) (a7:d.isRow=false) (aN:cs[o]?=some v):dg P (part t cs o)=some v:=by
 have aL:dg P (isAgg t)=some false:=by
  unfold isAgg
  rw [ji,B8 hu]
  cases d<;>simp_all [TypeDesc.isRow,qo]
 unfold part
 rw [ji,aL]
 simp [aN,qo]
theorem Rf {d:Nat} {t:TypeId} {k k':IntKind} {a b:Int} (h:P.underlying t=some (.int k')):dg P (Op.equalIn (d+1) t (.int k a) (.int k b))=some (a==b):=by
 unfold Op.equalIn
 rw [ji,B8 h]
 simp [qo]
theorem adN {d:Nat} {t:TypeId} {a b:Bool} (h:P.underlying t=some .bool):dg P (Op.equalIn (d+1) t (.bool a) (.bool b))=some (a==b):=by
 unfold Op.equalIn
 rw [ji,B8 h]
 simp [qo]
theorem adO {d:Nat} {t:TypeId} {a b:ByteArray} (h:P.underlying t=some .string):dg P (Op.equalIn (d+1) t (.string a) (.string b))=some (a.toList==b.toList):=by
 unfold Op.equalIn
 rw [ji,B8 h]
 simp [qo,beq_toListBytes]
theorem drop_cons {α:Type} {l:List α} {o:Nat} {a:α} {r:List α} (h:l.drop o=a::r):l[o]?=some a∧l.drop (o+1)=r:=by
 have h1:(l.drop o)[0]?=some a:=by rw [h];rfl
 rw [List.getElem?_drop] at h1
 refine ⟨by simpa using h1,?_⟩
 rw [←List.drop_drop,h];rfl
theorem Rg {d:Nat} {X Y:Array Value}:∀ (di:List Field) (o:Nat) (fi:List Nat) (xs ys:List V) (fJ fK:List Value) (b:Bool),zd P o di=some fi→gC fi xs ys=some b→hQ xs=some fJ→hQ ys=some fK →
  X.toList.drop o=fJ→Y.toList.drop o=fK→dg P (Op.eqFields (d+1) X Y di)=some b
 | [],o,fi,xs,ys,fJ,fK,b,hk,he,af,aX,mZ,HU=>by
  simp [zd] at hk
  subst hk
  cases xs<;>cases ys<;>simp [gC] at he
  subst he
  rfl
 | f::di,o,fi,xs,ys,fJ,fK,b,hk,he,af,aX,mZ,HU=>by
  unfold zd at hk
  split at hk
  case isFalse=>cases hk
  rename_i aJ
  have go:∀ (du fe:Value) (cq ck:List V) (bK bV:List Value) (q x:Bool) (qp:List Nat) (kr:TypeDesc),P.underlying f.type=some kr→kr.isRow=false→X.toList.drop o=du::bK→Y.toList.drop o=fe::bV→zd P (o+1) di=some qp→gC qp cq ck=some x→hQ cq=some bK→hQ ck=some bV →
    dg P (Op.equalIn (d+1) f.type du fe)=some q→dg P (Op.eqFields (d+1) X Y (f::di))=some (q&&x):=fun du fe cq ck bK bV q x qp kr hu a7 h1 ab aI h4 h5 dT lP=>by
   obtain ⟨g1,g2⟩:=drop_cons h1
   obtain ⟨g3,g4⟩:=drop_cons ab
   have ih:=Rg (d:=d) di (o+1) qp cq ck bK bV x aI h4 h5 dT g2 g4
   unfold Op.eqFields
   rw [if_pos aJ.1,ji,aJ.2,Mk hu a7 (by rw [←Array.getElem?_toList];exact g1)]
   simp only [Option.bind_some]
   rw [ji,Mk hu a7 (by rw [←Array.getElem?_toList];exact g3)]
   simp only [Option.bind_some]
   rw [ji,lP]
   simp only [Option.bind_some]
   cases q
   ·rfl
   ·simpa using ih
  cases jW:zd P (o+1) di with
  | none=>rw [jW] at hk;split at hk<;>simp_all
  | some qp=>
   rw [jW] at hk
   cases hu:P.underlying f.type with
   | none=>rw [hu] at hk;cases hk
   | some kr=>
    rw [hu] at hk
    cases kr<;>simp only at hk<;>try (cases hk;done)
    case int kk=>
     obtain rfl:=Option.some.inj hk
     cases xs with
     | nil=>simp [gC] at he
     | cons o1 cq=>
      cases ys with
      | nil=>cases o1<;>simp [gC] at he
      | cons DP ck=>
       cases o1<;>cases DP<;>first | (simp [gC] at he;done) | skip
       rename_i bj a k2 c
       have iC:(if bj=k2 then (gC qp cq ck).map (fun x=>(a==c)&&x) else none)=some b:=he
       split at iC
       case isFalse=>cases iC
       rename_i Rh
       subst Rh
       obtain ⟨x,cn,rfl⟩:=Option.map_eq_some_iff.1 iC
       simp only [hQ,k3] at af aX
       cases h5:hQ cq with
       | none=>rw [h5] at af;cases af
       | some bK=>
        cases dT:hQ ck with
        | none=>rw [dT] at aX;cases aX
        | some bV=>
         rw [h5] at af;rw [dT] at aX
         obtain rfl:=Option.some.inj af
         obtain rfl:=Option.some.inj aX
         exact go _ _ cq ck bK bV _ x qp _ hu rfl mZ HU jW cn h5 dT (Rf hu)
    case bool=>
     obtain rfl:=Option.some.inj hk
     cases xs with
     | nil=>simp [gC] at he
     | cons o1 cq=>
      cases ys with
      | nil=>cases o1<;>simp [gC] at he
      | cons DP ck=>
       cases o1<;>cases DP<;>first | (simp [gC] at he;done) | skip
       rename_i a c
       obtain ⟨x,cn,rfl⟩:=Option.map_eq_some_iff.1 he
       simp only [hQ,k3] at af aX
       cases h5:hQ cq with
       | none=>rw [h5] at af;cases af
       | some bK=>
        cases dT:hQ ck with
        | none=>rw [dT] at aX;cases aX
        | some bV=>
         rw [h5] at af;rw [dT] at aX
         obtain rfl:=Option.some.inj af
         obtain rfl:=Option.some.inj aX
         exact go _ _ cq ck bK bV _ x qp _ hu rfl mZ HU jW cn h5 dT (adN hu)
    case string=>
     obtain rfl:=Option.some.inj hk
     cases xs with
     | nil=>simp [gC] at he
     | cons o1 cq=>
      cases ys with
      | nil=>cases o1<;>simp [gC] at he
      | cons DP ck=>
       cases o1<;>cases DP<;>first | (simp [gC] at he;done) | skip
       rename_i a c
       obtain ⟨x,cn,rfl⟩:=Option.map_eq_some_iff.1 he
       simp only [hQ,k3] at af aX
       cases h5:hQ cq with
       | none=>rw [h5] at af;cases af
       | some bK=>
        cases dT:hQ ck with
        | none=>rw [dT] at aX;cases aX
        | some bV=>
         rw [h5] at af;rw [dT] at aX
         obtain rfl:=Option.some.inj af
         obtain rfl:=Option.some.inj aX
         exact go _ _ cq ck bK bV _ x qp _ hu rfl mZ HU jW cn h5 dT (adO hu)
theorem Ri:∀ {fi:List Nat} {xs ys:List V} {b:Bool},gC fi xs ys=some b→∃ fJ fK,hQ xs=some fJ∧hQ ys=some fK
 | [],xs,ys,b,h=>by
  cases xs<;>cases ys<;>simp [gC] at h
  exact ⟨[],[],rfl,rfl⟩
 | k::fi,[],ys,b,h=>by unfold gC at h;split at h<;>simp_all
 | k::fi,x::xs,[],b,h=>by unfold gC at h;split at h<;>simp_all
 | k::fi,x::xs,y::ys,b,h=>by
  have fin:∀ {a c:Value} {q:Option Bool},k3 x=some a→k3 y=some c→gC fi xs ys≠none→∃ fJ fK,hQ (x::xs)=some fJ∧hQ (y::ys)=some fK:=fun {a c q} h1 ab aI=>by
   cases ae:gC fi xs ys with
   | none=>exact absurd ae aI
   | some fe=>
    obtain ⟨fJ,fK,aK,a6⟩:=Ri ae
    exact ⟨a::fJ,c::fK,by simp [hQ,h1,aK],by simp [hQ,ab,a6]⟩
  unfold gC at h
  split at h
  ·simp_all
  ·rename_i jW rL rM
   simp only [List.cons.injEq] at jW rL rM
   obtain ⟨rfl,rfl⟩:=jW
   obtain ⟨rfl,rfl⟩:=rL
   obtain ⟨rfl,rfl⟩:=rM
   split at h
   ·exact fin (q:=none) rfl rfl (by intro ad;rw [ad] at h;cases h)
   ·cases h
  ·rename_i jW rL rM
   simp only [List.cons.injEq] at jW rL rM
   obtain ⟨rfl,rfl⟩:=jW
   obtain ⟨rfl,rfl⟩:=rL
   obtain ⟨rfl,rfl⟩:=rM
   exact fin (q:=none) rfl rfl (by intro ad;rw [ad] at h;cases h)
  ·rename_i jW rL rM
   simp only [List.cons.injEq] at jW rL rM
   obtain ⟨rfl,rfl⟩:=jW
   obtain ⟨rfl,rfl⟩:=rL
   obtain ⟨rfl,rfl⟩:=rM
   exact fin (q:=none) rfl rfl (by intro ad;rw [ad] at h;cases h)
  ·cases h
theorem adP {t:TypeId} {fi:List Nat} {xs ys:List V} {fJ fK:List Value} {b:Bool} (hk:HT P t=some fi) (he:gC fi xs ys=some b) (af:hQ xs=some fJ) (aX:hQ ys=some fK) :
  dg P (Op.equal t (.agg fJ.toArray) (.agg fK.toArray))=some b∧P.eqGuardType P.depth t=false:=by
 unfold HT at hk
 split at hk
 case h_2=>cases hk
 rename_i di hu
 split at hk
 case isFalse=>cases hk
 rename_i bZ
 refine ⟨?_,bZ.2⟩
 show dg P (Op.equalIn (9999+1) t _ _)=some b
 have eM : ∀ di : List Field, dg P (forIn di ((none, ()) : Option Bool × Unit) fun f r => if f.name ≠ "_" then do
   let a ←part f.type fJ.toArray f.offset
   let c ←part f.type fK.toArray f.offset
   let q ←Op.equalIn 9999 f.type a c
   if (!q)=true then pure (ForInStep.done (some false,())) else pure (ForInStep.yield (none,()))
   else pure (ForInStep.yield (none,())))=(dg P (Op.eqFields 9999 fJ.toArray fK.toArray di)).map fun r=>if r then (none,()) else (some false,()):=fun di=>by
  induction di with
  | nil=>rfl
  | cons f di ih=>
   rw [List.forIn_cons]
   unfold Op.eqFields
   by_cases aJ : f.name ≠ "_"
   ·rw [if_pos aJ,if_pos aJ]
    simp only [ji,Option.bind_assoc]
    cases dg P (part f.type fJ.toArray f.offset) with
    | none=>rfl
    | some a=>
     simp only [Option.bind_some]
     cases dg P (part f.type fK.toArray f.offset) with
     | none=>rfl
     | some c=>
      simp only [Option.bind_some]
      cases dg P (Op.equalIn 9999 f.type a c) with
      | none=>rfl
      | some q=>
       cases q
       ·rfl
       ·simpa [qo] using ih
   ·rw [if_neg aJ,if_neg aJ]
    simp only [ji,qo,Option.bind_some]
    exact ih
 have ch:=Rg (P:=P) (d:=9998) (X:=fJ.toArray) (Y:=fK.toArray) di.toList 0 fi xs ys fJ fK b hk he af aX (by simp) (by simp)
 unfold Op.equalIn
 simp only [ji,B8 hu,Option.bind_some,Mj,bZ.1,Bool.false_eq_true,if_false]
 rw [←Array.forIn_toList]
 have ab:=eM di.toList
 rw [ch] at ab
 first
  | (simp only [ji] at *;rw [ab]<;>cases b<;>rfl)
  | (erw [ab]<;>cases b<;>rfl)
theorem adQ {t:TypeId} {fi:List Nat} {xs ys:List V} {b:Bool} {xo yo:Operand} (hk:HT P t=some fi) (he:gC fi xs ys=some b):cl P .neq t xo yo (.agg xs) (.agg ys)=some (.bool (!b)):=by
 obtain ⟨fJ,fK,af,aX⟩:=Ri he
 obtain ⟨h1,ab⟩:=adP hk he af aX
 unfold cl
 simp only [lK,af,aX,Option.map_some]
 have aE:dg P (eqGuard .neq t xo yo (.agg fJ.toArray) (.agg fK.toArray))=some ():=by
  simp [eqGuard,ji,Mj,ab,qo]
 rw [ji,aE]
 simp only [Option.bind_some,binOp,ji,h1,qo,Option.map_some]
 rfl
end
theorem B9 {P:Program} {t tx:TypeId} {T:kY} (cV:fF P t=some T) (dK:0<T.sz)
  {h:I} {s x:V} {cs:List V} (av:Own h T.e T.sz s cs) {n:Nat} {news:List V} (gS:e3 P T.sz tx x h=some (n,news)) (aJ:news.length=n * T.sz)
  (hm:∀ m,m * T.sz=cs.length+news.length→m * T.bs≤lim∧m≤lim) :
  ∃ v U,k6 P t tx s x h=some (v,U)∧Own U T.e T.sz v (cs++news)∧aa h U (aW s)∧nP h s v:=by
 obtain ⟨he,bB,bn,hE,eH,_⟩:=sR cV
 unfold k6
 simp only [he,bB,bn,hE,eH,if_true,gS]
 have start:∀ s:V,(s=.ag∨s=.z0)→cs=[]→∃ v U,(if n=0 then some (s,h) else if n * T.bs≤lim∧n≤lim then some (.aj h.n 0 n ai,h.push (.cells news T.e (some T.sz))) else none)=some (v,U)∧Own U T.e T.sz v (cs++news)∧aa h U (aW s)∧nP h s v:=fun s J dd=>by
  subst dd
  by_cases ay:n=0
  ·subst ay
   have:news=[]:=List.eq_nil_of_length_eq_zero (by simpa using aJ)
   subst this
   exact ⟨s,h,by simp,.inl ⟨J,rfl⟩,aa.refl _ _,.inl rfl⟩
  ·obtain ⟨bf,bx⟩:=hm n (by simp [aJ])
   exact ⟨.aj h.n 0 n ai,h.push (.cells news T.e (some T.sz)),by simp [ay,bf,bx],Own.grown (by simp [I.push]) (by simp [I.push]) (by simpa using aJ),aa.push _ _ _,.inr fun k hk=>by simp [aA] at hk;omega⟩
 rcases av with ⟨rfl | rfl,dd⟩ | ⟨i,len,cap,c,ex,rfl,hi,aE,hlen,cp,cQ⟩
 ·exact start _ (.inl rfl) dd
 ·exact start _ (.inr rfl) dd
 ·by_cases ay:n=0
  ·subst ay
   have:news=[]:=List.eq_nil_of_length_eq_zero (by simpa using aJ)
   subst this
   exact ⟨.aj i 0 len cap,h,by simp,by rw [List.append_nil];exact .inr ⟨i,len,cap,c,ex,rfl,hi,aE,hlen,cp,cQ⟩,aa.refl _ _,.inl rfl⟩
  ·obtain ⟨bf,bx⟩:=hm (len+n) (by rw [Nat.add_mul,hlen,aJ])
   have cr:len * T.sz≤c.length:=by
    have:=congrArg List.length cp
    rw [List.length_take,hlen] at this
    omega
   simp only [ay,bf,bx,and_self,if_true,if_false,aE]
   rcases cQ with ⟨kT,lT,hle⟩ | ⟨rfl,rfl⟩
   ·simp only [kT,if_true]
    by_cases ff:len+n≤cap
    ·have dU:0+(len+n) * T.sz≤c.length:=by rw [Nat.zero_add];exact Nat.le_trans (Nat.mul_le_mul_right _ ff) lT
     have hll:(lay c (len * T.sz) news).length=c.length:=co _ _ _ (by rw [aJ,←Nat.add_mul];omega)
     simp only [ff,if_true,dU]
     refine ⟨_,_,rfl,.inr ⟨i,len+n,cap,lay c (0+len * T.sz) news,ex,rfl,hi,by simp [I.set],by simp [hlen,aJ,Nat.add_mul],?_,.inl ⟨kT,?_,ff⟩⟩,⟨Nat.le_refl _,fun j aC bc=>?_,rfl⟩,.inl rfl⟩
     ·simp only [Nat.zero_add,lay,cp,Nat.add_mul,←aJ]
      have:(cs++news).length=len * T.sz+news.length:=by simp [hlen]
      rw [←this]
      exact List.take_left
     ·rw [Nat.zero_add,hll];exact lT
     ·simp only [I.set]
      rw [if_neg (by intro cI;subst cI;simp [aW,aA] at bc)]
    ·simp only [ff,if_false]
     have vH:0+len * T.sz≤c.length:=by omega
     simp only [vH,if_true,List.drop_zero,cp]
     exact ⟨_,_,rfl,Own.grown (by simp [I.push]) (by simp [I.push]) (by simp [hlen,aJ,Nat.add_mul]),aa.push _ _ _,.inr fun k hk=>by simp [aA] at hk;omega⟩
   ·simp only [Nat.lt_irrefl,if_false,true_and,cr,and_self,if_true]
    refine ⟨_,_,rfl,Own.grown (by simp [I.push,I.set]) (by simp [I.push,I.set,cp]) (by simp [hlen,aJ,Nat.add_mul]),⟨by simp [I.push,I.set],fun j aC bc=>?_,rfl⟩,.inr fun k hk=>by simp [aA] at hk;omega⟩
    have h1:j≠i:=by intro cI;subst cI;simp [aW,aA] at bc
    have ab:j≠h.n:=by omega
    simp [I.push,I.set,h1,ab]
theorem bv {P:Program} {t:TypeId} {T:kY} (cV:fF P t=some T) (dK:0<T.sz)
  {h:I} {s:V} {cs xs:List V} (av:Own h T.e T.sz s cs) (aw:xs.length=T.sz) (ec:xs.all (·.one)=true)
  (hm:∀ m,m * T.sz=cs.length+T.sz→m * T.bs≤lim∧m≤lim) :
  ∃ v U,k6 P t t s (.aj h.n 0 1 1) (h.push (.cells xs T.e none))=some (v,U)∧Own U T.e T.sz v (cs++xs)∧aa h U (aW s)∧nP h s v:=by
 obtain ⟨he,bB,bn,hE,eH,hu⟩:=sR cV
 have hk:=aa.push h (.cells xs T.e none) none_
 have gS:e3 P T.sz t (.aj h.n 0 1 1) (h.push (.cells xs T.e none))=some (1,xs):=by
  simp only [e3,hu,I.push,if_true,Nat.one_mul,Nat.zero_add,List.drop_zero]
  rw [List.take_of_length_le (by omega),if_pos ⟨by omega,ec⟩]
 obtain ⟨v,U,aL,e9,cF,cO⟩:=B9 (tx:=t) cV dK (av.cP hk) gS (by omega) (by rw [aw];exact hm)
 refine ⟨v,U,aL,e9,(hk.up).trans' cF,cO.imp id fun ad k qd=>?_⟩
 have:=ad k qd
 simp [I.push] at this
 omega
theorem Acc.oo {P:Program} {t tx:TypeId} {T:kY} (cV:fF P t=some T) {ay h:I} {s x:V} {cs news:List V} (a:Acc ay h T.e T.sz s cs) (dK:0<T.sz) {n:Nat} (gS:e3 P T.sz tx x h=some (n,news)) (aJ:news.length=n * T.sz)
  (hm:∀ m,m * T.sz=cs.length+news.length→m * T.bs≤lim∧m≤lim) :
  ∃ v U,k6 P t tx s x h=some (v,U)∧Acc ay U T.e T.sz v (cs++news):=by
 obtain ⟨v,U,aL,e9,cF,cO⟩:=B9 cV dK a.own gS aJ hm
 exact ⟨v,U,aL,a.step e9 cF cO⟩
section
variable {P:Program} {α:Type} {enc:α→List V} {sz:Nat}
theorem kF (he:∀ x,(enc x).length=sz):∀ l:List α,(l.flatMap enc).length=l.length * sz
 | []=>by simp
 | x::l=>by rw [List.flatMap_cons,List.length_append,he,kF he l,List.length_cons,Nat.add_mul];omega
theorem DQ (he:∀ x,(enc x).length=sz):∀ (l:List α) (k:Nat),(l.flatMap enc).drop (k * sz)=(l.drop k).flatMap enc
 | l,0=>by simp
 | [],k+1=>by simp
 | x::l,k+1=>by
  rw [List.flatMap_cons,Nat.add_mul,Nat.one_mul,Nat.add_comm,←List.drop_drop,List.drop_left' (he x),DQ he l k,List.drop_succ_cons]
theorem xt (he:∀ x,(enc x).length=sz) {l:List α} {k:Nat} (hk:k<l.length) {t:TypeId} {kk:IntKind} (J:ee P t=some sz) :
  ik P t (.an l.length (l.flatMap enc)) (.int kk (k:Int))=some (.at (enc l[k]++(l.drop (k+1)).flatMap enc)):=by
 rw [B4 J (by omega) (by omega) (kF he l),Int.toNat_natCast,DQ he,List.drop_eq_getElem_cons hk,List.flatMap_cons]
theorem HV {e r:List V} (he:e.length=sz):hI (some (some sz)) (some (e++r))=some (.agg e):=by
 rw [QA,if_pos (by rw [List.length_append];omega),List.take_left' he]
theorem Ml (he:∀ x,aO (enc x)) (l:List α):aO (l.flatMap enc):=aO.flatMap fun x _=>he x
end
open Go
section
variable {H:Type} {enc:TypeId×Value→H} {P:Program} {w:World} {base:Nat} {spare:Nat→Bool} {held:Bool}
theorem adR {t e:TypeId} {a:Option Addr} {len cap:Nat} {d:DataW H} {ps:List MemPlace} {es:List (List V)} {k:Nat} (hu:P.underlying t=some (.slice e)) (hk:P.bytesOf e=k) (b3:∀ n ∈ d.weights P t,n≤reachBytes)
  (h:DataW.Trod enc P w base spare held t (.slice a len cap) d ps) (aN:ax (be w) (.an es.length es.flatten) (.slice a len cap)):es.length * k≤2 ^ 47:=by
 obtain ⟨fuel,aB⟩:=h
 have aw:es.length=len:=by
  generalize es.length=n at aN
  generalize es.flatten=c at aN
  cases aN<;>rfl
 rcases DataW.trod_slice hu aB with ⟨dd,_⟩ | ⟨a2,DR,qW,elems,rest,m,_,dd,sY,_,_,_,lU,_,_⟩
 ·cases dd
  rw [aw]
  omega
 ·cases dd
  simp only [Prod.mk.injEq] at sY
  have h0':=b3 ((elems.length+rest.length) * P.bytesOf e) (by rw [sY.1];simp [DataW.weights,hu])
  have ab:=reachBytes_lt
  have aI:len * k≤(elems.length+rest.length) * k:=Nat.mul_le_mul_right _ (by omega)
  rw [hk] at h0'
  rw [aw]
  omega
end
section
variable {ρ:Ren} {B:Nat} {aG:World} {h:I} {w:World}
theorem aM.grow (R:aM ρ B aG h w) (os:Array Obj):aM ρ B aG h (Sort.grow w os):=by
 have hold:∀ k,k<w.heap.size→(Sort.grow w os).heap[k]?=w.heap[k]?:=fun k hk=>by
  show (w.heap++os)[k]?=_
  rw [Array.getElem?_append,if_pos hk]
 have bn:w.heap.size≤(Sort.grow w os).heap.size:=by
  show w.heap.size≤(w.heap++os).size
  rw [Array.size_append];omega
 refine ⟨⟨R.heap.gv,R.heap.inj,fun i=>?_,fun b arr aB=>?_,R.heap.glob,Nat.le_trans R.heap.base bn⟩,R.below.trans ⟨rfl,rfl,rfl,bn,fun k hk=>hold k (Nat.lt_of_lt_of_le hk R.heap.base),Nat.le_refl _⟩⟩
 ·by_cases a7:h.get i=.dead
  ·rw [a7];trivial
  ·refine (R.heap.obj i).au (Ren.le.refl ρ) fun b bf aq=>⟨hold b ?_,fun h=>h⟩
   obtain ⟨fe,pf,dL,aT,_⟩:=R.heap.live a7
   rw [dL] at aq
   cases aq
   exact aT
 ·obtain ⟨e,ei,hw⟩:=R.heap.frz b arr aB
  exact ⟨e,ei,(hold b (Array.getElem?_eq_some_iff.1 hw).1).trans hw⟩
theorem aM.ahead (R:aM ρ B aG h w):∀ n:Nat,aM ρ B aG h (Sort.ahead w n)
 | 0=>R
 | n+1=>by rw [←Sort.ahead_drew];exact (R.ahead n).drew
end
variable {P:Program} {t:TypeId} {T:kY}
theorem adS {tx:TypeId} (cV:fF P t=some T) {h:I} {src:V} {n c:Nat} {cs:List V} {k k':IntKind} (J:vt src=some n) (aB:∀ U,aa h U none_→p6 T.sz n src U=some cs) (ec:cs.all (·.one)=true) (hlen:cs.length=n * T.sz)
  (xj:n≤c) (h1:T.bs * c≤140737488355328) (ab:c≤140737488355328) :
  ∃ h1 ab,i5 P t (.int k (n:Int)) (.int k' (c:Int)) h=some (.aj h.n 0 n c,h1)∧p7 P t (.aj h.n 0 n c) src h1=some (.int .i64 n,ab)∧Own ab T.e T.sz (.aj h.n 0 n c) cs∧aa h h1 none_∧aa h ab none_:=by
 obtain ⟨he,bB,bn,hE,eH,_⟩:=sR cV
 have gi:(made T.zs c).length=c * T.sz:=by rw [Hh,eH]
 have hle:=Nat.mul_le_mul_right T.sz xj
 have fy:aa h (h.push (.cells (made T.zs c) T.e none)) none_:=aa.push _ _ _
 obtain ⟨uS,al,rfl⟩:=QW (P:=P) (t:=t) (T:=T) (tx:=t) (i:=h.n) (cap:=c) (c:=made T.zs c) (src:=src) (h:=h.push (.cells (made T.zs c) T.e none)) cV c4 J (aB _ fy) ec (by omega)
 refine ⟨_,_,HP cV xj h1 ab,al,.inr ⟨h.n,n,c,_,none,rfl,?_,e4,hlen,?_,.inl ⟨by unfold ai;omega,?_,xj⟩⟩,fy,fy.kq (Nat.le_refl _) _⟩
 ·rw [kE,fR];omega
 ·unfold lay
  rw [List.take_zero,List.nil_append,List.take_append_of_le_length (by omega),List.take_of_length_le (by omega)]
 ·rw [co _ _ _ (by omega),gi];exact Nat.le_refl _
end Go.Proofs.YtceanabgcnieeaaGreatDoor.Ab
