/-
  Rules of the machine on abstract states. Conditions: as each theorem says.
-/
import Derived.Test.YtceanabgcnieeaaGreatDoorAbB
import Derived.Recover
import Derived.Lib.LaidTab
import Derived.OpenShut
import Derived.Shelf.SlSortCmp.InsertionK
import Derived.Test.YtceanabgcnieeaaGreatDoorAbA
set_option linter.unusedVariables false
set_option linter.unusedSimpArgs false
set_option maxRecDepth 10000
namespace Go.Proofs.YtceanabgcnieeaaGreatDoor.Ab
open Go Go.RowKit
def DS (P:Program) (l:Nat) (rest:Code) (Q:Exit→Act→World→Prop):Nat→Act→World→Prop
 | 0,_,_=>False
 | m+1,a,w=>rest.wp P (Exit.jump l (DS P l rest Q m) Q) a w
theorem i7 {P:Program} {c rest:Code} {l:Nat} {Q:Exit→Act→World→Prop} {a:Act} {w:World} (aB:findLabel c l=some rest) (m:Nat)
  (first:c.wp P (Exit.jump l (DS P l rest Q m) Q) a w):(Code.scope c).wp P Q a w:=by
 intro b k cs
 have aE:gotoIn l (.inScope c::k)=some (.code rest::.inScope c::k):=by simp [gotoIn,aB]
 have key:∀ m a w,DS P l rest Q m a w→∃ e du w',Q e du w'∧Arrives P (lone (b.at a (.code rest::.inScope c::k)) cs w) b k cs e du w':=by
  intro m
  induction m with
  | zero=>intro a w h;exact h.elim
  | succ m ih=>
   intro a w Mm
   obtain ⟨e,a₁,w₁,ae,ho⟩:=Mm b (.inScope c::k) cs
   cases e with
   | normal=>exact ⟨.normal,a₁,w₁,ae,Steps.trans ho (.one step_inScope)⟩
   | exit id=>exact ⟨.exit id,a₁,w₁,ae,fun k' hk=>ho k' (by simp [exitTo,hk])⟩
   | goto b7=>
    obtain ⟨rfl,DT⟩:=ae
    obtain ⟨e₂,a₂,w₂,hq₂,harr₂⟩:=ih a₁ w₁ DT
    exact ⟨e₂,a₂,w₂,hq₂,.of_steps (ho _ aE) harr₂⟩
   | ret=>exact ⟨_,a₁,w₁,ae,ho⟩
   | panic gT=>exact ⟨_,a₁,w₁,ae,ho⟩
   | outgrown=>exact ⟨_,a₁,w₁,ae,ho⟩
 obtain ⟨e,a₁,w₁,ae,ho⟩:=first b (.inScope c::k) cs
 cases e with
 | normal=>exact ⟨.normal,a₁,w₁,ae,.head step_scope (Steps.trans ho (.one step_inScope))⟩
 | exit id=>exact ⟨.exit id,a₁,w₁,ae,fun k' hk=>.head step_scope (ho k' (by simp [exitTo,hk]))⟩
 | goto b7=>
  obtain ⟨rfl,DT⟩:=ae
  obtain ⟨e₂,a₂,w₂,hq₂,harr₂⟩:=key m a₁ w₁ DT
  exact ⟨e₂,a₂,w₂,hq₂,.of_steps (.head step_scope (ho _ aE)) harr₂⟩
 | ret=>exact ⟨_,a₁,w₁,ae,.of_steps (.one step_scope) ho⟩
 | panic gT=>exact ⟨_,a₁,w₁,ae,.of_steps (.one step_scope) ho⟩
 | outgrown=>exact ⟨_,a₁,w₁,ae,.of_steps (.one step_scope) ho⟩
def xu (l:Nat) (ze:ak→I→Prop) (Q:ey→ak→I→Prop):ey→ak→I→Prop
 | .goto b7,f,h=>b7=l∧ze f h
 | e,f,h=>Q e f h
section
variable {l:Nat} {ze:ak→I→Prop} {Q:ey→ak→I→Prop} {f:ak} {h:I}
theorem xv:xu l ze Q .ret f h=Q .ret f h:=nr rfl
theorem adT {j:Nat}:xu l ze Q (.goto j) f h=(j=l∧ze f h):=nr rfl
end
theorem aZ.xw {P:Program} {n l:Nat} {c b:Code} {α:Type} (aw:findLabel c l=some (.seq .skip b)) {Q:ey→ak→I→Prop} {f:ak} {h:I} (ze:α→ak→I→Prop) (μ:α→Nat)
  (hμ:∀ x f h,ze x f h→μ x<1000000000000000000000)
  (pass:∀ x f h,ze x f h→aZ P n b (xu l (fun bE U=>@vC ⟨∃ y,ze y bE U∧μ y<μ x⟩) Q) f h)
  (first:(∀ x f h,ze x f h→aZ P n b (xu l (fun bE U=>∃ y,ze y bE U) Q) f h)→aZ P n c (xu l (fun bE U=>∃ y,ze y bE U) Q) f h):aZ P n (.scope c) Q f h:=by
 have HW:∀ x f h,ze x f h→aZ P n b (xu l (fun bE U=>∃ y,ze y bE U) Q) f h:=fun x f h Mm=>(pass x f h Mm).mono fun e bE U ae=>by
  cases e with
  | goto b7=>exact ⟨ae.1,let ⟨y,aX,_⟩:=ae.2;⟨y,aX⟩⟩
  | _=>exact ae
 intro ρ B aG a w hw aB
 have key:∀ m x f h,ze x f h→μ x<m→∀ ρ1:Ren,ρ.le ρ1→∀ a w,aM ρ1 B aG h w→df ρ1 n f a→DS P l (.seq .skip b) (jm n B aG ρ Q) m a w:=by
  intro m
  induction m with
  | zero=>intro x f h _ hm;omega
  | succ m ih=>
   intro x f h pA hm ρ1 hle a w hw aB
   refine wp_mono ((aZ.seq (.skip (pass x f h pA))) ρ1 B aG a w hw aB) fun e du w' ⟨ρ',bO,bE,U,af,bo,bG,dq,ct⟩=>?_
   cases bO<;>cases e<;>simp only [lL] at af
   ·exact ⟨ρ',.normal,bE,U,trivial,bo,bG,hle.trans dq,ct⟩
   ·exact ⟨ρ',.exit _,bE,U,af,bo,bG,hle.trans dq,ct⟩
   ·obtain ⟨rfl,y,aX,aT⟩:=ct
    exact ⟨af.symm,ih y bE U aX (by omega) ρ' (hle.trans dq) du w' bo bG⟩
   ·exact ⟨ρ',.ret,bE,U,trivial,bo,bG,hle.trans dq,ct⟩
   ·exact ⟨ρ',.panic,bE,U,af,bo,bG,hle.trans dq,ct⟩
 refine i7 aw 1000000000000000000000 (wp_mono (first HW ρ B aG a w hw aB) fun e du w' ⟨ρ',x,bE,U,af,bo,bG,dq,ct⟩=>?_)
 cases x<;>cases e<;>simp only [lL] at af
 ·exact ⟨ρ',.normal,bE,U,trivial,bo,bG,dq,ct⟩
 ·exact ⟨ρ',.exit _,bE,U,af,bo,bG,dq,ct⟩
 ·obtain ⟨rfl,y,aX⟩:=ct
  exact ⟨af.symm,key _ y bE U aX (hμ y bE U aX) ρ' dq du w' bo bG⟩
 ·exact ⟨ρ',.ret,bE,U,trivial,bo,bG,dq,ct⟩
 ·exact ⟨ρ',.panic,bE,U,af,bo,bG,dq,ct⟩
inductive AO where
 | bool | int (k:IntKind) | str | aj (s:AO) | unit | cat (a b:AO) | ext (n:Nat)
def AO.width:AO→Nat
 | .unit=>0
 | .cat a b=>a.width+b.width
 | .ext n=>n
 | _=>1
section
variable {H:Type} {enc:TypeId×Value→H} {P:Program} {w:World} {base:Nat} {spare:Nat→Bool} {held:Bool} {Q:List V→Prop} {aoh:TypeId}
end
def Mn (P:Program) (g:FuncId) (args:List V) (h:I) (R:I→Prop):Prop :=
 ∀ (ρ:Ren) (B:Nat) (aG w:World) (args':Array Value),aM ρ B aG h w→aQ ρ args args'.toList →
  CallsD P g args' .returning w fun e p0 w'=>e=.returned (.tuple #[])∧p0=.returning∧∃ (ρ':Ren) (U:I),aM ρ' B aG U w'∧ρ.le ρ'∧R U
def adU (P:Program) (g:FuncId) (args:List V) (h:I) (R:I→Prop):Prop :=
 ∀ (ρ:Ren) (B:Nat) (aG w:World) (args':Array Value) (t:TypeId) (v:Value),aM ρ B aG h w→aQ ρ args args'.toList →
  CallsD P g args' (.panicking [{ v:=.iface t v,recovered:=false }]) w fun e p0 w'=>e=.returned (.tuple #[])∧p0=.panicking [{ v:=.iface t v,recovered:=true }]∧∃ (ρ':Ren) (U:I),aM ρ' B aG U w'∧ρ.le ρ'∧R U
def Ca (P:Program) (fn:Func) (R:V→I→Prop) (f:ak) (h:I):Prop:=match iZ P fn.results.toList f h with | some r=>R r h | none=>False
theorem ah.DU {P:Program} {fid g:FuncId} {fn:Func} {A q0 C:Code} {AP:Nat} {t x y:Tmp} {DV DW:TypeId} {zf zg} {zh zi} {DX:Array TypeId} (iD:P.funcs[fid]?=some fn)
  (ar:fn.body=some (.seq A (.seq q0 (.seq (.region AP #[⟨some t,.makeFunc (.func g) #[] #[.tmp x,.tmp y],DV,zf,zh,none⟩,⟨none,.defer ⟨.value (.tmp t),#[],DX⟩,DW,zg,zi,none⟩] false) C))))
  (bM:t<fn.ntmps) (fx:bP P g=true) {args:List V} (hlen:args.length≤fn.ntmps) {h:I} {R:V→I→Prop} {M:ak→I→Prop} {KR KP:V→V→ak→I→Prop}
  (h1:aZ P fn.ntmps A (fun z f h=>z=.normal∧aZ P fn.ntmps q0 (fun z f h=>(z=.ret∧Ca P fn R f h)∨(z=.normal∧M f h)) f h) (dQ args) h)
  (aI:∀ f h,M f h→aZ P fn.ntmps C (fun z bE U=>((z=.ret∨z=.normal)∧KR (f x) (f y) bE U)∨(z=.panic∧KP (f x) (f y) bE U)) (f.put (some t) .top) h)
  (ed:∀ fJ fK bE U,KR fJ fK bE U→Mn P g [fJ,fK] U (Ca P fn R bE))
  (c7:∀ fJ fK bE U,KP fJ fK bE U→adU P g [fJ,fK] U (Ca P fn R bE)):ah P fid args h R:=by
 intro ρ B aG w args' hw aL
 refine calls_of_wp_defers iD ar ?_
 have fin:∀ (ρ':Ren) (f:ak) (U:I) (du:Act) (w':World),Ren.le { ρ with dfr:=[] } { ρ' with dfr:=[] }→aM ρ' B aG U w'→df ρ' fn.ntmps f du→Ca P fn R f U →
   ∃ v,(results fn du.tmps).run P w'=.ok v w'∧((∃ (ρ':Ren) (r:V) (r':Value) (U:I),Ending.returned v=.returned r'∧ax ρ' r r'∧aM ρ' B aG U w'∧ρ.le ρ'∧R r U) ∨
    (∃ (ρ':Ren) (gT:List PanicEntry) (U:I),Ending.returned v=.panicked gT∧w7 gT∧aM ρ' B aG U w'∧ρ.le ρ'∧False)):=by
  intro ρ' f U du w' aw bo bG ct
  unfold Ca at ct
  cases jX:iZ P fn.results.toList f U with
  | none=>simp [jX] at ct
  | some r=>
  simp only [jX] at ct
  obtain ⟨r',c2,eE⟩:=Hw bo bG jX
  exact ⟨r',c2,.inl ⟨{ ρ' with dfr:=ρ.dfr },r,r',U,rfl,eE.dfr ρ.dfr,bo.dfr ρ.dfr,⟨aw.ren,aw.frz,rfl⟩,ct⟩⟩
 apply wp_seq
 refine wp_mono (h1 { ρ with dfr:=[] } B aG _ w (hw.dfr []) (Hx (aL.dfr []) hlen rfl)) ?_
 rintro e bC bK ⟨ρ1,z,f1,Rj,af,gj,s9,jY,rfl,ab⟩
 cases e<;>simp only [lL] at af
 show (Code.seq q0 _).wp P _ bC bK
 apply wp_seq
 refine wp_mono (ab ρ1 B aG bC bK gj s9) ?_
 rintro e a2 bV ⟨ρ2,z,f2,ev,af,eS,gy,gz,bB⟩
 have dN:Ren.le { ρ with dfr:=[] } { ρ2 with dfr:=[] }:=⟨(jY.trans gz).ren,(jY.trans gz).frz,rfl⟩
 rcases bB with ⟨rfl,bB⟩ | ⟨rfl,bB⟩
 ·cases e<;>simp only [lL] at af
  show Leaves P fn a2.tmps _ a2.defers .returning bV
  rw [show a2.defers=[] from (gy.defers.trans gz.dfr).trans jY.dfr]
  exact fin ρ2 f2 ev a2 bV dN eS gy bB
 ·cases e<;>simp only [lL] at af
  show (Code.seq (.region AP _ false) C).wp P _ a2 bV
  apply wp_seq
  apply wp_region
  have bn:=gy.size
  have Rk:a2.defers=[]:=(gy.defers.trans gz.dfr).trans jY.dfr
  have hT:=aI f2 ev bB
  obtain ⟨fJ,DY⟩:∃ v,v=a2.tmps.getD x undef:=⟨_,rfl⟩
  obtain ⟨fK,DZ⟩:∃ v,v=a2.tmps.getD y undef:=⟨_,rfl⟩
  have rx:=gy.tmps x
  have Rl:=gy.tmps y
  rw [←DY] at rx
  rw [←DZ] at Rl
  have s7:=gy.put (v:=.top) (v':=.func (.func g) #[] #[fJ,fK]) (.top _) (some t) (by simpa [j3] using bM)
  let d:Deferred:={ target:=.fn (.func g) #[fJ,fK],args:=#[] }
  have lz:C.wp P (bodyPostD P fn fun e w'=>(∃ (ρ':Ren) (r:V) (r':Value) (U:I),e=.returned r'∧ax ρ' r r'∧aM ρ' B aG U w'∧ρ.le ρ'∧R r U) ∨
    (∃ (ρ':Ren) (gT:List PanicEntry) (U:I),e=.panicked gT∧w7 gT∧aM ρ' B aG U w'∧ρ.le ρ'∧False)) { tmps:=(a2.put (some t) (.func (.func g) #[] #[fJ,fK])).tmps,defers:=[d] } bV:=by
   have eM:df { ρ2 with dfr:=[d] } fn.ntmps (f2.put (some t) .top) { tmps:=(a2.put (some t) (.func (.func g) #[] #[fJ,fK])).tmps,defers:=[d] } :=
    ⟨fun k=>(s7.tmps k).dfr [d],s7.size,rfl⟩
   refine wp_mono (hT { ρ2 with dfr:=[d] } B aG _ bV (eS.dfr [d]) eM) ?_
   rintro e a3 jR ⟨ρ3,z,f3,uU,af,uV,uW,nE,D0⟩
   have AQ:a3.defers=[d]:=uW.defers.trans nE.dfr
   have D1:ρ2.le { ρ3 with dfr:=ρ2.dfr }:=nE.mU
   have BT:aQ { ρ3 with dfr:=ρ2.dfr } [f2 x,f2 y] #[fJ,fK].toList:=aQ.cons (rx.mono D1) (aQ.cons (Rl.mono D1) (aQ.nil _))
   have jM:Ren.le { ρ with dfr:=[] } { ρ3 with dfr:=[] }:=⟨fun i q ae=>nE.ren i q (dN.ren i q ae),fun i q ae=>nE.frz i q (dN.frz i q ae),rfl⟩
   have hinv:(invoke d.target d.args).run P jR=.ok (.enter g #[fJ,fK]) jR:=by
    unfold bP at fx
    cases aE:P.funcs[g]? with
    | none=>simp [aE] at fx
    | some aoi=>
     simp only [aE,Bool.and_eq_true,bne_iff_ne,ne_eq] at fx
     simp [d,invoke,callFunc,aE,fx.1,fx.2,Option.isSome_iff_ne_none.1 fx.1]
   rcases D0 with ⟨D0,hk⟩ | ⟨rfl,hk⟩
   ·have Mo:Leaves P fn a3.tmps (fun e w'=>(∃ (ρ':Ren) (r:V) (r':Value) (U:I),e=.returned r'∧ax ρ' r r'∧aM ρ' B aG U w'∧ρ.le ρ'∧R r U) ∨
      (∃ (ρ':Ren) (gT:List PanicEntry) (U:I),e=.panicked gT∧w7 gT∧aM ρ' B aG U w'∧ρ.le ρ'∧False)) a3.defers .returning jR:=by
     rw [AQ]
     refine ⟨by simp,_,_,g,#[fJ,fK],rfl,hinv,?_⟩
     refine ((ed _ _ _ _ hk) { ρ3 with dfr:=ρ2.dfr } B aG jR #[fJ,fK] (uV.dfr ρ2.dfr) BT).mono ?_
     rintro e p0 uj ⟨rfl,rfl,ρ4,h4,oq,ks,he⟩
     have D2:df { ρ4 with dfr:=[d] } fn.ntmps f3 a3:=⟨fun k=>ax.si (ρ:=ρ3) (ρ':={ ρ4 with dfr:=[d] }) (fun i q ae=>ks.ren i q ae) (fun i q ae=>ks.frz i q ae) (uW.tmps k),uW.size,AQ⟩
     exact fin { ρ4 with dfr:=[d] } f3 h4 a3 uj ⟨fun i q ae=>ks.ren i q (jM.ren i q ae),fun i q ae=>ks.frz i q (jM.frz i q ae),rfl⟩ (oq.dfr [d]) D2 he
    rcases D0 with rfl | rfl<;>cases e<;>simp only [lL] at af<;>exact Mo
   ·cases e with
    | panic gT=>
     obtain ⟨Mp,adV,rfl⟩:=af
     show Leaves P fn a3.tmps _ a3.defers (.panicking _) jR
     rw [AQ]
     refine ⟨by simp,_,_,g,#[fJ,fK],rfl,hinv,?_⟩
     refine ((c7 _ _ _ _ hk) { ρ3 with dfr:=ρ2.dfr } B aG jR #[fJ,fK] Mp adV (uV.dfr ρ2.dfr) BT).mono ?_
     rintro e p0 uj ⟨rfl,rfl,ρ4,h4,oq,ks,he⟩
     have D2:df { ρ4 with dfr:=[d] } fn.ntmps f3 a3:=⟨fun k=>ax.si (ρ:=ρ3) (ρ':={ ρ4 with dfr:=[d] }) (fun i q ae=>ks.ren i q ae) (fun i q ae=>ks.frz i q ae) (uW.tmps k),uW.size,AQ⟩
     show Leaves P fn a3.tmps _ [] (settle _) uj
     simp only [settle,List.dropWhile_nil]
     exact fin { ρ4 with dfr:=[d] } f3 h4 a3 uj ⟨fun i q ae=>ks.ren i q (jM.ren i q ae),fun i q ae=>ks.frz i q (jM.frz i q ae),rfl⟩ (oq.dfr [d]) D2 he
    | _=>simp only [lL] at af
  have aK:a2.eval (.tmp x)=fJ:=by simp [Act.eval,DY]
  have a6:a2.eval (.tmp y)=fK:=by simp [Act.eval,DZ]
  simp [wpOps,go_sem]
  refine .inl (.inl ?_)
  rw [if_pos (show t<a2.tmps.size from bn.symm ▸ bM)]
  subst DY DZ
  simpa [Act.put,Rk,d,go_sem,Oper.upon] using lz
section
variable {h:I} {a b c d o:aD}
theorem aoj:(((h.push a).push b).push c).get h.n=a:=by simp [Dw,fR];intro ad;omega
theorem adW:(((h.push a).push b).push c).get (h.n+1)=b:=by simp [Dw,fR]
theorem aok:(((h.push a).push b).push c).get (h.n+1+1)=c:=by simp [Dw,fR]
theorem adX:((((h.push a).push b).push c).push d).get h.n=a:=by
 simp only [Dw,fR]
 rw [if_neg (by omega),if_neg (by omega),if_neg (by omega),if_pos trivial]
theorem adY:((((h.push a).push b).push c).push d).get (h.n+1+1+1)=d:=by
 simp only [Dw,fR]
 rw [if_pos trivial]
theorem adZ:((((h.push a).push b).push c).push d).set (h.n+1+1+1) o=(((h.push a).push b).push c).push o:=by
 rw [show h.n+1+1+1=(((h.push a).push b).push c).n from rfl,set_push]
end
def ta (g:Nat→Option (List V)):I:={ n:=0,get:=fun _=>.dead,glob:=g }
def zj (g:Nat→Option (List V)) (w:World):Prop:=∀ k cs,g k=some cs→∃ arr e ei,w.heap[k]?=some (.cells arr e ei)∧c1 (be w) cs arr
theorem Mq {g:Nat→Option (List V)} {w:World} (aE:zj g w):aM (be w) w.heap.size w (ta g) w:=by
 have ay:=QJ w
 refine ⟨⟨ay.heap.gv,fun i j b c k5 h=>by simp [ta] at h,fun _=>trivial,ay.heap.frz,fun k cs hk=>?_,Nat.le_refl _⟩,fC.refl _ _⟩
 obtain ⟨arr,e,ei,hw,aq⟩:=aE k cs hk
 exact ⟨arr,HL hw,aq⟩
theorem ah.D3 {P:Program} {fid:FuncId} {args:List V} {v:V} {a:Value} {g:Nat→Option (List V)} (al:ah P fid args (ta g) fun r _=>r=v) (aN:k3 v=some a) {w:World} (aE:zj g w)
  {args':Array Value} (aL:aQ (be w) args args'.toList):Calls P fid args' w fun e w'=>e=.returned a∧Below w.heap.size w w' :=
 (al (be w) w.heap.size w w args' (Mq aE) aL).mono fun e w' ad=>by
  rcases ad with ⟨ρ',r,r',U,he,qa,hw,_,ed⟩ | ⟨_,_,_,_,_,_,_,dH⟩
  ·subst ed
   rw [tZ qa aN] at he
   exact ⟨he,hw.below.below⟩
  ·exact dH.elim
theorem Mr {P:Program} {w:World} {name:String} {k:IntKind} {zs:List Int} {g:Nat} (aE:P.globalNamed name=some g) (h:Lib.TabIs P w name k zs):∃ arr e ei,w.heap[g]?=some (.cells arr e ei)∧c1 (be w) (zs.map (V.int k)) arr:=by
 unfold Lib.TabIs World.var? at h
 rw [aE] at h
 simp only [Option.bind_some] at h
 split at h
 ·rename_i cs e ei ae
  obtain rfl:=Option.some.inj h
  refine ⟨_,e,ei,ae,by simp,fun i v v' h1 ab=>?_⟩
  simp only [List.getElem?_map,Option.map_eq_some_iff,List.getElem?_toArray] at h1 ab
  obtain ⟨n,aJ,rfl⟩:=h1
  obtain ⟨m,hm,rfl⟩:=ab
  rw [aJ] at hm
  cases hm
  exact .int k n
 ·cases h
section
variable {P:Program} {t:TypeId}
def tb (P:Program) (t:TypeId):Option (Nat×Nat×Bool):=match P.underlying t with
 | some (.array n e)=>match j4 P e,ap P e with
  | some r,some sz=>some (n,sz,r)
  | _,_=>none
 | _=>none
def AR (q:Option (Nat×Nat×Bool)) (cs:List V) (i:Int):Option V:=match q with
 | some (n,sz,r)=>if 0≤i∧i<n then (if r then some (.agg ((cs.drop (i.toNat * sz)).take sz)) else cs[i.toNat * sz]?) else none
 | none=>none
theorem Rm {q:Nat×Nat×Bool} (h:tb P t=some q) {cs:List V} {kk:IntKind} {i:Int}:ua P t (.agg cs) (.int kk i)=AR (some q) cs i:=by
 unfold tb at h
 cases hu:P.underlying t with
 | none=>simp [hu] at h
 | some d=>
  cases d<;>simp only [hu] at h<;>try (exact absurd h (by simp))
  rename_i n e
  unfold ua yL AR
  simp only [hu]
  cases aq:j4 P e with
  | none=>simp [aq] at h
  | some r=>
   cases bB:ap P e with
   | none=>simp [aq,bB] at h
   | some sz=>
    simp only [aq,bB,Option.some.injEq] at h
    subst h
    simp only []
    cases r<;>simp
theorem ad0 {n:Nat} (h:tb P t=some (n,1,false)) {cs:List V} {kk:IntKind} {i:Nat} (hi:i<n):ua P t (.agg cs) (.int kk (i:Int))=cs[i]?:=by
 rw [Rm h]
 simp only [AR,Int.toNat_natCast,Nat.mul_one]
 rw [if_pos ⟨by omega,by omega⟩]
 simp
end
def mG (v v2:V):Prop:=∀ ρ v',ax ρ v v'→ax ρ v2 v'
def po (l dN:List V):Prop:=∀ ρ b7,aQ ρ l b7→aQ ρ dN b7
theorem mG.refl (v:V):mG v v:=fun _ _ h=>h
theorem po.refl (l:List V):po l l:=fun _ _ h=>h
theorem po.cons {v v2:V} {l dN:List V} (a:mG v v2) (b:po l dN):po (v::l) (v2::dN):=fun ρ b7 h=>by
 obtain ⟨v',k1,rfl,h1,ab⟩:=h.dF
 exact aQ.cons (a ρ v' h1) (b ρ k1 ab)
theorem mG.ag:mG .ag (.an 0 []):=fun ρ v' h=>by cases h;exact .fH none 0 (by simp)
theorem mG.cast {v v2:V} (a:mG v v2) (h:I):aV v h v2 h:=fun ρ B aG w r' hw aN=>⟨ρ,Ren.le.refl ρ,hw,a ρ r' aN⟩
theorem mG.agg {l dN:List V} (h:po l dN):mG (.agg l) (.agg dN):=fun ρ v' aN=>by
 cases aN with
 | agg J af=>exact (h ρ _ (c1.list ⟨J,af⟩)).ij.agg
theorem mG.tuple {l dN:List V} (h:po l dN):mG (.tuple l) (.tuple dN):=fun ρ v' aN=>by
 cases aN with
 | tuple J af=>exact (h ρ _ (c1.list ⟨J,af⟩)).ij.tuple
section
variable {P:Program} {t:TypeId} {T:kY}
theorem Ms {h:I} {e:TypeId} {sz:Nat} {v:V} {cs:List V} (hk:gL P t=some 1) (av:Own h e sz v cs) {n:Nat} (aJ:cs.length=n * sz) (dK:0<sz) (ec:cs.all (·.one)=true):e3 P sz t v h=some (n,cs):=by
 obtain ⟨d,hu,a7⟩:=yY hk
 cases d<;>simp [sF] at a7
 rcases av with ⟨aN,rfl⟩ | ⟨i,len,cap,c,ex,rfl,hi,aE,hlen,cp,cQ⟩
 ·have ay:n=0:=by
   have:n * sz=0:=by simpa using aJ.symm
   rcases Nat.mul_eq_zero.1 this with h | h<;>omega
  subst ay
  rcases aN with rfl | rfl<;>simp only [e3,hu]
 ·have h1:len=n:=Nat.eq_of_mul_eq_mul_right dK (hlen.symm.trans aJ)
  subst h1
  have cr:len * sz≤c.length:=by
   have:=congrArg List.length cp
   rw [List.length_take,hlen] at this
   omega
  simp only [e3,hu,aE,List.drop_zero,Nat.zero_add]
  rw [cp,if_pos ⟨cr,ec⟩]
end
section
variable {M:Nat→Prop} {ba:Operand→V} {t s:TypeId} {x y z:Operand} {k:Nat}
theorem Mt {n:Nat}:(n+1+1=n)=False:=eq_false (by omega)
theorem Mu {n:Nat}:(n+1+1+1=n)=False:=eq_false (by omega)
theorem Mv {n:Nat}:(n+1+1+1+1=n)=False:=eq_false (by omega)
theorem ad1 {n:Nat}:(n=n+1)=False:=eq_false (by omega)
theorem ad2 {n:Nat}:(n=n+1+1)=False:=eq_false (by omega)
theorem ad3 {n:Nat}:(n=n+1+1+1)=False:=eq_false (by omega)
def q1 (M:Nat→Prop) (v:V):Prop:=kZ M (hn v)
theorem ad4:kZ M (lO ba (.move x))=True:=eq_true (by intro i hi;cases hi)
theorem ad5:kZ M (lO ba (.assign x))=True:=eq_true (by intro i hi;cases hi)
theorem ad6:kZ M (lO ba (.pick x y z))=True:=eq_true (by intro i hi;cases hi)
theorem ad7 {ps:Array (Nat×Operand)}:kZ M (lO ba (.build t ps))=True:=eq_true (by intro i hi;cases hi)
theorem ad8:kZ M (lO ba (.nilCheck x))=True:=eq_true (by intro i hi;cases hi)
theorem ad9 {op:BinOp}:kZ M (lO ba (.binOp op t x y s))=True:=eq_true (by intro i hi;cases hi)
theorem aea:kZ M (lO ba (.fieldAddr t x k))=True:=eq_true (by intro i hi;cases hi)
theorem aeb:kZ M (lO ba (.load t x))=q1 M (ba x):=rfl
theorem aol:kZ M (lO ba (.convert s t x))=q1 M (ba x):=rfl
theorem aom {ts:Array TypeId}:kZ M (lO ba (.call ⟨.builtin .len,#[x],ts⟩))=q1 M (ba x):=rfl
theorem aec {i o:Nat}:q1 M (.ptr i o)=¬M i:=propext ⟨fun h=>h i rfl,fun h j aC=>by cases aC;exact h⟩
theorem aed {i:Nat}:q1 M (.map i)=¬M i:=propext ⟨fun h=>h i rfl,fun h j aC=>by cases aC;exact h⟩
end
structure fT (P:Program) (dm:TypeId) (d:TypeDesc) {κ:Type} [DecidableEq κ] (ke:κ→V):Prop where
 eq:∀ a b,vw P dm d (ke a) (ke b)=some (decide (a=b))
 ok:∀ b a,ub P b dm (ke a)=true
 bits:∀ a,∃ v,lK (ke a)=some v∧Instr.sameBits 10000 v v=true
section
variable {P:Program} {t dm fZ:TypeId} {d:TypeDesc} {κ:Type} [DecidableEq κ] {ke:κ→V} {α:Type} {enc:α→V}
def cx (ke:κ→V) (enc:α→V) (l:List (Nat×κ×α)):List (Nat×V×V):=l.map fun e=>(e.1,ke e.2.1,enc e.2.2)
def bq (l:List (Nat×κ×α)) (k:κ):Option α :=
 match l with
 | []=>none
 | e::r=>if k=e.2.1 then some e.2.2 else bq r k
def cm (a1:Nat) (l:List (Nat×κ×α)) (k:κ) (a:α):List (Nat×κ×α) :=
 match l with
 | []=>[(a1,k,a)]
 | e::r=>if k=e.2.1 then (e.1,k,a)::r else e::cm a1 r k a
def e5 (a1:Nat) (l:List (Nat×κ×α)) (k:κ):Nat:=if (bq l k).isSome then a1 else a1+1
def pC (l:List (Nat×κ×α)) (k:κ):List (Nat×κ×α) :=
 match l with
 | []=>[]
 | e::r=>if k=e.2.1 then r else e::pC r k
theorem Mw (H:fT P dm d ke) (k:κ):∀ (l:List (Nat×κ×α)),
  (bq l k=none∧mC P dm d (ke k) (cx ke enc l)=some none∧(∀ a1 a,cm a1 l k a=l++[(a1,k,a)])∧pC l k=l) ∨
  (∃ j e,mC P dm d (ke k) (cx ke enc l)=some (some j)∧l[j]?=some e∧e.2.1=k∧bq l k=some e.2.2 ∧
   (∀ a1 a,cx ke enc (cm a1 l k a)=(cx ke enc l).modify j fun e=>(e.1,ke k,enc a))∧cx ke enc (pC l k)=(cx ke enc l).eraseIdx j)
 | []=>.inl ⟨rfl,rfl,fun _ _=>rfl,rfl⟩
 | e::l=>by
  have aB:mC P dm d (ke k) (cx ke enc (e::l))=if k=e.2.1 then some (some 0) else (mC P dm d (ke k) (cx ke enc l)).map fun (q:Option Nat)=>q.map (·+1):=by
   show (match vw P dm d (ke k) (ke e.2.1) with | some true=>some (some 0) | some false=>(mC P dm d (ke k) (cx ke enc l)).map fun (q:Option Nat)=>q.map (·+1) | none=>none)=_
   rw [H.eq]
   by_cases hk:k=e.2.1
   ·simp [hk]
   ·simp [hk]
  by_cases hk:k=e.2.1
  ·refine .inr ⟨0,e,by rw [aB,if_pos hk],rfl,hk.symm,by rw [bq,if_pos hk],fun a1 a=>by rw [cm,if_pos hk];rfl,by rw [pC,if_pos hk];rfl⟩
  ·rcases Mw H k l with ⟨h1,ab,aI,h4⟩ | ⟨j,dG,h1,ab,aI,h4,h5,dT⟩
   ·refine .inl ⟨by rw [bq,if_neg hk,h1],by rw [aB,if_neg hk,ab];rfl,fun a1 a=>by rw [cm,if_neg hk,aI];rfl,by rw [pC,if_neg hk,h4]⟩
   ·refine .inr ⟨j+1,dG,by rw [aB,if_neg hk,h1];rfl,by simpa using ab,aI,by rw [bq,if_neg hk,h4],fun a1 a=>?_,?_⟩
    ·rw [cm,if_neg hk]
     show (e.1,ke e.2.1,enc e.2.2)::cx ke enc (cm a1 l k a)=_
     rw [h5]
     rfl
    ·rw [pC,if_neg hk]
     show (e.1,ke e.2.1,enc e.2.2)::cx ke enc (pC l k)=_
     rw [dT]
     rfl
theorem D4 (H:fT P dm d ke) {z:Value} {h:I} {i:Nat} {l:List (Nat×κ×α)} {a1:Nat} {k:κ} {ok:Bool} (hm:eo P t=some (dm,fZ,d)) (bB:jg P fZ=some z) (aE:h.get i=.map (cx ke enc l) a1) :
  nM P t (.map i) (ke k) ok h=some (match bq l k with | some a=>(if ok then .tuple [enc a,.bool true] else enc a) | none=>(if ok then .tuple [eZ z,.bool false] else eZ z)):=by
 unfold nM
 simp only [hm,bB,aE,H.ok,if_true]
 rcases Mw (enc:=enc) H k l with ⟨h1,ab,_⟩ | ⟨j,e,h1,ab,aI,h4,_⟩
 ·rw [ab,h1]
 ·have:(cx ke enc l)[j]?=some (e.1,ke e.2.1,enc e.2.2):=by simp [cx,ab]
  rw [h1,h4]
  simp only [this]
  rfl
theorem HX (H:fT P dm d ke) {h:I} {i:Nat} {l:List (Nat×κ×α)} {a1:Nat} {k:κ} {a:α} {v:V} (hm:eo P t=some (dm,fZ,d)) (aE:h.get i=.map (cx ke enc l) a1) (aN:v=enc a) :
  qS P t (.map i) (ke k) v h=some (h.set i (.map (cx ke enc (cm a1 l k a)) (e5 a1 l k))):=by
 subst aN
 unfold qS e5
 simp only [hm,aE,H.ok,if_true]
 rcases Mw (enc:=enc) H k l with ⟨h1,ab,aI,_⟩ | ⟨j,e,h1,ab,aI,h4,h5,_⟩
 ·rw [ab,h1,aI]
  simp [cx]
 ·have:(cx ke enc l)[j]?=some (e.1,ke e.2.1,enc e.2.2):=by simp [cx,ab]
  obtain ⟨v,aN,J⟩:=H.bits k
  rw [h1,h4]
  simp only [this,Option.bind_some,aI,aN,J,if_true,h5]
  rfl
theorem HY:∀ {l:List (Nat×κ×α)} {k:κ},(bq l k).isSome=true→∀ (a1:Nat) (a:α),(cm a1 l k a).map (fun e=>(e.1,e.2.1))=l.map (fun e=>(e.1,e.2.1))
 | [],k,h,a1,a=>by simp [bq] at h
 | e::l,k,h,a1,a=>by
  unfold cm
  by_cases hk:k=e.2.1
  ·rw [if_pos hk];simp [hk]
  ·rw [bq,if_neg hk] at h
   rw [if_neg hk,List.map_cons,List.map_cons,HY h]
theorem HZ:∀ {l:List (Nat×κ×α)} {k:κ},bq l k=none→∀ (a1:Nat) (a:α),cm a1 l k a=l++[(a1,k,a)]
 | [],k,h,a1,a=>rfl
 | e::l,k,h,a1,a=>by
  unfold cm
  by_cases hk:k=e.2.1
  ·rw [bq,if_pos hk] at h;cases h
  ·rw [bq,if_neg hk] at h
   rw [if_neg hk,HZ h];rfl
theorem m0:∀ {l:List (Nat×κ×α)} {k:κ},bq l k=none↔∀ e ∈ l,e.2.1≠k
 | [],k=>by simp [bq]
 | e::l,k=>by
  unfold bq
  by_cases hk:k=e.2.1
  ·simp [hk]
  ·rw [if_neg hk,m0]
   simp [Ne.symm hk]
theorem tc:∀ (l:List (Nat×κ×α)) (a1:Nat) (k:κ) (a:α) (x:κ),bq (cm a1 l k a) x=if x=k then some a else bq l x
 | [],a1,k,a,x=>by simp [cm,bq]
 | e::l,a1,k,a,x=>by
  unfold cm
  by_cases hk:k=e.2.1
  ·rw [if_pos hk]
   unfold bq
   by_cases af:x=k
   ·simp [af]
   ·have:x≠e.2.1:=hk ▸ af
    simp [af,this]
  ·rw [if_neg hk]
   unfold bq
   by_cases af:x=e.2.1
   ·have:x≠k:=fun ad=>hk (ad ▸ af)
    simp [af,Ne.symm hk]
   ·rw [if_neg af,tc l a1 k a x,if_neg af]
def dJ (l:List (Nat×κ×α)):Prop:=(l.map (·.2.1)).Nodup
omit [DecidableEq κ] in
theorem dJ.nil:dJ ([]:List (Nat×κ×α)):=List.nodup_nil
theorem dJ.set {l:List (Nat×κ×α)} (aJ:dJ l) (a1:Nat) (k:κ) (a:α):dJ (cm a1 l k a):=by
 unfold dJ at *
 cases aE:bq l k with
 | some b=>
  have h:=HY (l:=l) (k:=k) (by rw [aE];rfl) a1 a
  have ab:=congrArg (List.map Prod.snd) h
  rw [List.map_map,List.map_map] at ab
  have aI:(cm a1 l k a).map (·.2.1)=l.map (·.2.1):=ab
  rw [aI];exact aJ
 | none=>
  rw [HZ aE,List.map_append,List.nodup_append]
  refine ⟨aJ,by simp,fun x af y aX=>?_⟩
  obtain ⟨e,he,rfl⟩:=List.mem_map.1 af
  simp at aX
  subst aX
  exact m0.1 aE e he
theorem aee {l:List (Nat×κ×α)} {a1:Nat} {k:κ} {a:α} (ab:List.map (Prod.fst ∘ fun e=>(e.1,e.2.1)) (cm a1 l k a)=List.map (Prod.fst ∘ fun e=>(e.1,e.2.1)) l):(cx ke enc (cm a1 l k a)).map (·.1)=(cx ke enc l).map (·.1):=by
 unfold cx
 rw [List.map_map,List.map_map]
 exact ab
theorem dw.cm {l:List (Nat×κ×α)} {a1:Nat} (J:dw (cx ke enc l) a1) (k:κ) (a:α):dw (cx ke enc (cm a1 l k a)) (e5 a1 l k):=by
 cases aE:bq l k with
 | none=>
  have:e5 a1 l k=a1+1:=by unfold e5;rw [aE];rfl
  rw [this,HZ aE]
  have:=J.snoc (ke k) (enc a)
  simpa [cx] using this
 | some b=>
  have:e5 a1 l k=a1:=by unfold e5;rw [aE];rfl
  rw [this]
  have h:=HY (l:=l) (k:=k) (by rw [aE];rfl) a1 a
  have ab:=congrArg (List.map Prod.fst) h
  rw [List.map_map,List.map_map] at ab
  have aI:=aee (ke:=ke) (enc:=enc) ab
  refine ⟨fun e he=>?_,by rw [aI];exact J.2⟩
  have:e.1 ∈ (cx ke enc l).map (·.1):=by rw [←aI];exact List.mem_map.2 ⟨e,he,rfl⟩
  obtain ⟨dG,iC,h4⟩:=List.mem_map.1 this
  rw [←h4];exact J.1 dG iC
theorem Rn (l:List (Nat×κ×α)) (a1:Nat) (k:κ) (a:α):(cm a1 l k a).length=if (bq l k).isSome then l.length else l.length+1:=by
 cases aE:bq l k with
 | some b=>
  have h:=congrArg List.length (HY (l:=l) (k:=k) (by rw [aE];rfl) a1 a)
  simpa using h
 | none=>rw [HZ aE];simp
theorem fL:∀ {l:List (Nat×κ×α)},dJ l→∀ {e:Nat×κ×α},e ∈ l→bq l e.2.1=some e.2.2
 | [],_,e,he=>by cases he
 | x::l,aJ,e,he=>by
  have jh:=List.nodup_cons.1 aJ
  unfold bq
  rcases List.mem_cons.1 he with rfl | iC
  ·rw [if_pos rfl]
  ·rw [if_neg fun ad=>jh.1 (List.mem_map.2 ⟨e,iC,ad⟩)]
   exact fL jh.2 iC
end
open Go Go.Sort Go.Proofs
theorem fC.grow {W w':World} (h:fC W.heap.size W w'):∃ q Ro,w'=Sort.grow (W.drewN q) Ro:=by
 refine ⟨w'.drawn - W.drawn,w'.heap.extract W.heap.size w'.heap.size,?_⟩
 obtain ⟨Rp,bM,zk,bn,ar,a7⟩:=h
 have e:w'.heap=W.heap++w'.heap.extract W.heap.size w'.heap.size:=by
  apply Array.ext_getElem?
  intro k
  rw [Array.getElem?_append]
  by_cases hk:k<W.heap.size
  ·rw [if_pos hk];exact ar k hk
  ·rw [if_neg hk,Array.getElem?_extract]
   by_cases ab:k<w'.heap.size
   ·rw [if_pos (by omega),show W.heap.size+(k - W.heap.size)=k by omega]
   ·rw [if_neg (by omega),Array.getElem?_eq_none (by omega)]
 have a6:W.drawn+(w'.drawn - W.drawn)=w'.drawn:=by omega
 cases w'
 cases W
 simp only [Sort.grow,World.drewN] at *
 subst Rp bM zk
 rw [←e,a6]
section
variable {ρ:Ren} {B:Nat} {aG:World} {h:I} {w:World}
theorem aM.Cb (R:aM ρ B aG h w) {i b bh:Nat} {c vs:List V} {e:TypeId} {ex:Option Nat} (aE:h.get i=.cells c e ex) (hi:ρ.ren i=some (b,bh)) {d:Array Value} (aN:aQ ρ vs d.toList) (aJ:vs.length≤c.length) :
  aM ρ B aG (h.set i (.cells (vs++c.drop vs.length) e ex)) (Sort.putRow id w b 0 d):=by
 have av:=R.heap.obj i
 rw [aE] at av
 obtain ⟨fe,pf,arr,aq,aB,b3,hw,hlen,e2,af⟩:=av
 rw [hi] at aq
 cases aq
 have aT:=(Array.getElem?_eq_some_iff.1 hw).1
 have rN:d.size=vs.length:=by have:=aN.1;simp at this;omega
 have vO:∀ j,(Sort.putRow id w b 0 d).heap[j]?=if b=j then (w.heap[j]?).map (Sort.onCells (Sort.putCells id 0 d)) else w.heap[j]?:=fun j=>by
  show (w.heap.modify b _)[j]?=_
  rw [Array.getElem?_modify]
 refine R.vl hi (by rw [aE];simp) (fun j aC=>by rw [vO,if_neg (Ne.symm aC)]) (by rw [Sort.size_putRow];exact Nat.le_refl _) ⟨rfl,rfl,rfl,by rw [Sort.size_putRow];exact Nat.le_refl _,fun j aC=>by rw [vO,if_neg (by omega)],Nat.le_refl _⟩ ?_
 have aw:(vs++c.drop vs.length).length=c.length:=by simp;omega
 refine ⟨b,bh,Sort.putCells id 0 d arr,hi,aB,b3,by rw [vO,if_pos rfl,hw];rfl,by rw [aw];simpa [Sort.putCells] using hlen,?_,by rw [aw];simpa [Sort.putCells] using af⟩
 rw [aw]
 refine ⟨by simp [Sort.putCells];omega,fun j v v' h1 ab=>?_⟩
 rw [List.getElem?_take] at ab
 split at ab
 case isFalse=>cases ab
 rename_i aC
 rw [Array.getElem?_toList] at ab
 unfold Sort.putCells at ab
 rw [Array.getElem?_mapIdx,Option.map_eq_some_iff] at ab
 obtain ⟨x,jk,cn⟩:=ab
 by_cases mv:j<vs.length
 ·rw [if_pos ⟨Nat.zero_le _,by omega⟩] at cn
  subst cn
  rw [List.getElem?_append_left mv] at h1
  refine aN.2 j v _ h1 ?_
  rw [Array.getElem?_toList,Nat.sub_zero,Array.getElem?_eq_getElem (by omega),getElem!_pos d j (by omega)]
  rfl
 ·rw [if_neg (by omega)] at cn
  subst cn
  rw [List.getElem?_append_right (by omega),List.getElem?_drop,show vs.length+(j - vs.length)=j by omega] at h1
  refine e2.2 j v x h1 ?_
  rw [List.getElem?_take,if_pos aC,Array.getElem?_toList]
  exact jk
theorem aM.D5 (R:aM ρ B aG h w) {i b bh:Nat} {c vs:List V} {e:TypeId} {ex:Option Nat} (aE:h.get i=.cells c e ex) (hi:ρ.ren i=some (b,bh)) (al:c.take vs.length=vs) :
  ∃ d:Array Value,aQ ρ vs d.toList∧Sort.Holds id w b 0 d∧b<w.heap.size:=by
 have av:=R.heap.obj i
 rw [aE] at av
 obtain ⟨fe,pf,arr,aq,aB,b3,hw,hlen,e2,af⟩:=av
 rw [hi] at aq
 cases aq
 have cr:vs.length≤c.length:=by
  have:=congrArg List.length al
  rw [List.length_take] at this
  omega
 refine ⟨(arr.toList.take vs.length).toArray,?_,fun j aC=>?_,(Array.getElem?_eq_some_iff.1 hw).1⟩
 ·have:=e2.take vs.length
  rw [al,List.take_take,Nat.min_eq_left cr] at this
  simpa using this
 ·simp only [List.size_toArray,List.length_take,Array.length_toList] at aC
  have Rq:j<arr.size:=by omega
  rw [getElem!_pos _ j (by simp;omega)]
  simp [World.cell?,World.frozen?,hw,Array.getElem?_eq_getElem Rq]
theorem aM.Cc (R:aM ρ B aG h w) {i b bh:Nat} (aw:h.get i≠.dead) (hi:ρ.ren i=some (b,bh)) {α:Type} [Inhabited α] (enc:α→List Value) (k m:Nat) (ot:Array α) (os:Array Obj) :
  ∀ fe a,ρ.frz fe=some a→(be (sortWorldK enc k w b 0 m ot os)).frz fe=some a:=by
 intro fe a aB
 obtain ⟨e,ei,hw⟩:=R.heap.frz fe a aB
 obtain ⟨cZ,hs,aq,aT,_,iS,_⟩:=R.heap.live aw
 rw [hi] at aq
 cases aq
 have bc:b≠fe:=fun ad=>by subst ad;rw [iS] at aB;cases aB
 have py:=(Array.getElem?_eq_some_iff.1 hw).1
 have h1:(sortWorldK enc k w b 0 m ot os).heap[fe]?=w.heap[fe]?:=by
  show ((w.heap.modify b _)++os)[fe]?=_
  rw [Array.getElem?_append,if_pos (by simpa using py),Array.getElem?_modify,if_neg bc]
 exact HL (h1.trans hw)
end
theorem ah.D6 {P:Program} {fid:FuncId} {args:List V} {v:V} {a:Value} (al:ah P fid args qX fun r _=>r=v) (aN:k3 v=some a) {w:World}
  {args':Array Value} (aL:aQ (be w) args args'.toList):Calls P fid args' w fun e w'=>e=.returned a∧fC w.heap.size w w' :=
 (al (be w) w.heap.size w w args' (QJ w) aL).mono fun e w' ad=>by
  rcases ad with ⟨ρ',r,r',U,he,qa,hw,_,ed⟩ | ⟨_,_,_,_,_,_,_,dH⟩
  ·subst ed
   rw [tZ qa aN] at he
   exact ⟨he,hw.below⟩
  ·exact dH.elim
theorem aef {P:Program} {g:FuncId} {β:Type} {E:β→List V} {cf:β→β→Int} (nb:∀ a b,ah P g [.agg (E a),.agg (E b)] qX fun r _=>r=.int .i64 (cf a b)) (s3:∀ x,aO (E x))
  {ρ:Ren} {B:Nat} {aG:World} {h:I} {w:World} (R:aM ρ B aG h w) {i b bh:Nat} (aw:h.get i≠.dead) (hi:ρ.ren i=some (b,bh))
  {α:Type} [Inhabited α] (rows:α→β) (enc:α→List Value) (pD:∀ x,aQ ρ (E (rows x)) (enc x)) (size k:Nat):CmpLays P g #[] enc k (fun x y=>cf (rows x) (rows y)) b 0 size w:=by
 intro m os ot ang x y
 have aB:=R.Cc aw hi enc k m ot os
 have Rr:∀ x,ax (be (sortWorldK enc k w b 0 m ot os)) (.agg (E (rows x))) (.agg (enc x).toArray):=fun x=>.agg (by simpa using (pD x).1) fun j v v' h1 ab=>by
  refine s3 (rows x) v (List.mem_of_getElem? h1) ρ _ v' ((pD x).2 j v v' h1 ?_) aB
  simpa using ab
 have al:=(nb (rows x) (rows y)).D6 (a:=.int .i64 (cf (rows x) (rows y))) rfl (w:=sortWorldK enc k w b 0 m ot os) (args':=#[.agg (enc x).toArray,.agg (enc y).toArray]) (aQ.cons (Rr x) (aQ.cons (Rr y) (aQ.nil _)))
 rw [Array.append_empty]
 exact al.mono fun e w' ad=>⟨ad.1,ad.2.grow⟩
theorem Rs {α:Type} [Inhabited α] (enc:α→List Value) (k:Nat) (hk:∀ x,(enc x).length=k) (d:Array α):(flatK enc k d).toList=d.toList.flatMap enc:=by
 have hlen:∀ l:List α,(l.flatMap enc).length=l.length * k:=fun l=>by
  induction l with
  | nil=>simp
  | cons x l ih=>rw [List.flatMap_cons,List.length_append,hk,ih,List.length_cons,Nat.add_mul];omega
 have qZ:∀ (l:List α) (t:Nat),t<l.length * k→(l.flatMap enc)[t]! = (enc l[t / k]!)[t % k]!:=fun l=>by
  induction l with
  | nil=>intro t bM;simp at bM
  | cons x l ih=>
   intro t bM
   have xx:0<k:=by
    rcases Nat.eq_zero_or_pos k with ay | ay
    ·subst ay;simp at bM
    ·exact ay
   rw [List.flatMap_cons]
   by_cases h1:t<k
   ·rw [Nat.div_eq_of_lt h1,Nat.mod_eq_of_lt h1]
    simp [List.getElem!_eq_getElem?_getD,List.getElem?_append_left (show t<(enc x).length by rw [hk];exact h1)]
   ·obtain ⟨u,rfl⟩:∃ u,t=u+k:=⟨t - k,by omega⟩
    rw [List.length_cons,Nat.add_mul,Nat.one_mul] at bM
    have:=ih u (by omega)
    rw [Nat.add_div_right _ xx,Nat.add_mod_right]
    simp only [List.getElem!_eq_getElem?_getD,List.getElem?_cons_succ] at this⊢
    rw [List.getElem?_append_right (by rw [hk];omega),hk,Nat.add_sub_cancel]
    exact this
 apply List.ext_getElem
 ·rw [hlen];simp
 ·intro t h1 ab
  have bM:t<d.size * k:=by simpa using h1
  have aK:=get_flatK enc k d t bM
  have a6:=qZ d.toList t (by simpa using bM)
  rw [getElem!_pos _ t (by simpa using bM)] at aK
  rw [getElem!_pos _ t ab] at a6
  rw [Array.getElem_toList,aK,a6]
  congr 2
  simp [Array.getElem!_eq_getD,List.getElem!_eq_getElem?_getD,Array.getD_eq_getD_getElem?]
theorem Mx {P:Program} {f:FuncId} {g:FuncId} {e:TypeId} {k:Nat} {β:Type} {E:β→List V} {cf:β→β→Int} (xx:0<k)
  (hk:∀ x,(E x).length=k) (h1:∀ x,(E x).all (·.one)=true) (s3:∀ x,aO (E x)) (nc:SWO (ltOf cf))
  (nb:∀ a b,ah P g [.agg (E a),.agg (E b)] qX fun r _=>r=.int .i64 (cf a b))
  (eJ:∀ (n:Nat) (enc:Fin (n+1)→List Value) (hk:∀ x,(enc x).length=k) (h1:∀ x,∀ v ∈ enc x,v.oneCell'=true) (cf:Fin (n+1)→Fin (n+1)→Int) (nc:SWO (ltOf cf)) (kp cap:Nat) (d:Array (Fin (n+1))) (w:World),
   CmpLays P g #[] enc k cf kp 0 d.size w→HoldsK enc k w kp 0 d→kp<w.heap.size→d.size<4611686018427387904 →
   Calls P f #[.slice (some ⟨kp,0,none⟩) d.size cap,.func (.func g) #[] #[]] w fun e w'=>e=.returned (.tuple #[])∧∃ hU n os,PermIn 0 d.size d hU∧SortedIn (ltOf cf) 0 d.size hU∧w'=sortWorldK enc k w kp 0 n hU os)
  {h:I} {v:V} {l:List β} (H0:l=[]→ah P f [v,.func (.func g) [] []] h fun r U=>r=.tuple []∧U=h)
  (av:Own h e k v (l.flatMap E)) (aw:l.length<4611686018427387904) :
  ah P f [v,.func (.func g) [] []] h fun r U=>r=.tuple []∧aa h U (aW v)∧∃ b7:List β,b7.Perm l∧(b7.Pairwise fun a b=>ltOf cf b a=false)∧Own U e k v (b7.flatMap E):=by
 by_cases rE:l=[]
 ·refine (H0 rE).mono fun r U ⟨aq,ad⟩=>?_
  subst ad
  exact ⟨aq,aa.refl _ _,l,List.Perm.refl _,by rw [rE];exact List.Pairwise.nil,av⟩
 have hlen:=kF hk l
 rcases av with ⟨_,dd⟩ | ⟨i,len,cap,c,ex,rfl,My,aE,sE,cp,cQ⟩
 ·rw [dd] at hlen
  have:0<l.length:=List.length_pos_iff.2 rE
  have:=Nat.mul_pos this xx
  simp at hlen
  omega
 rw [hlen] at sE
 have AH:l.length=len:=Nat.eq_of_mul_eq_mul_right xx sE
 subst AH
 obtain ⟨n,aJ⟩:∃ n,l.length=n+1:=⟨l.length - 1,by have:=List.length_pos_iff.2 rE;omega⟩
 intro ρ B aG w args' R aL
 obtain ⟨v1,t1,Rt,uX,AU⟩:=aL.dF
 obtain ⟨v2,t2,sU,w9,xy⟩:=AU.dF
 have Ru:=xy.eq_nil
 subst Ru
 have a6:v2=.func (.func g) #[] #[]:=by
  cases w9 with
  | func fn _ J bM _ _=>
   rename_i dE pZ _ _ _
   have aK:=Array.eq_empty_of_size_eq_zero (xs:=dE) J.symm
   have a6:=Array.eq_empty_of_size_eq_zero (xs:=pZ) bM.symm
   rw [aK,a6]
 subst a6
 cases uX with
 | aj hi _ _ _ hle=>
 rename_i b bh
 have hF:args'=#[.slice (some ⟨b,0,none⟩) l.length (e8 bh cap),.func (.func g) #[] #[]]:=by
  apply Array.toList_inj.1
  rw [Rt,sU]
 subst hF
 obtain ⟨D,D7,hH,aT⟩:=R.D5 aE hi (vs:=l.flatMap E) (by rw [hlen];exact cp)
 have Rv:D.size=l.length * k:=by have:=D7.1;simp only [Array.length_toList] at this;omega
 let rows:Fin (n+1)→β:=fun x=>l[x.1]'(by omega)
 let enc:Fin (n+1)→List Value:=fun x=>(D.toList.drop (x.1 * k)).take k
 have gU:∀ x:Fin (n+1),((l.flatMap E).drop (x.1 * k)).take k=E (rows x):=fun x=>by
  rw [DQ hk,List.drop_eq_getElem_cons (show x.1<l.length by omega),List.flatMap_cons,List.take_left' (hk _)]
 have pD:∀ x,aQ ρ (E (rows x)) (enc x):=fun x=>by
  have:=(D7.drop (x.1 * k)).take k
  rwa [gU x] at this
 have eK:∀ x,(enc x).length=k:=fun x=>by rw [←(pD x).1,hk]
 have Rw:∀ x,∀ v ∈ enc x,v.oneCell'=true:=fun x=>(pD x).one (h1 _)
 let d:Array (Fin (n+1)):=(List.finRange (n+1)).toArray
 have rN:d.size=l.length:=by simp [d,aJ]
 have H2:flatK enc k d=D:=by
  apply Array.toList_inj.1
  rw [Rs enc k eK]
  have key:∀ (m:Nat) (hm:m≤n+1),(((List.finRange (n+1)).take m).flatMap enc)=D.toList.take (m * k):=fun m=>by
   induction m with
   | zero=>intro _;simp
   | succ m ih=>
    intro hm
    rw [List.take_add_one,List.flatMap_append,ih (by omega),List.getElem?_eq_getElem (by simp;omega)]
    simp only [Option.toList_some,List.flatMap_cons,List.flatMap_nil,List.append_nil,List.getElem_finRange,enc]
    rw [Nat.add_mul,Nat.one_mul]
    simp [List.take_add]
  have:=key (n+1) (Nat.le_refl _)
  rw [List.take_of_length_le (by simp)] at this
  show (List.finRange (n+1)).flatMap enc=_
  rw [this,List.take_of_length_le (by rw [Array.length_toList,Rv,aJ];exact Nat.le_refl _)]
 have Rx:SWO (ltOf fun x y=>cf (rows x) (rows y)):=⟨fun x=>nc.irrefl _,fun x y z=>nc.trans _ _ _,fun x y z=>nc.ntrans _ _ _⟩
 have H3:h.get i≠.dead:=by rw [aE];simp
 have cr:=aef nb s3 R H3 hi rows enc pD d.size k
 have D8:=eJ n enc eK Rw (fun x y=>cf (rows x) (rows y)) Rx b (e8 bh cap) d w cr (by unfold HoldsK;rw [H2];exact hH) aT (by rw [rN];exact aw)
 rw [rN] at D8
 refine D8.mono fun x w' ⟨af,hU,m,os,az,J,bo⟩=>.inl ⟨ρ,.tuple [],.tuple #[],h.set i (.cells ((hU.toList.map rows).flatMap E++c.drop ((hU.toList.map rows).flatMap E).length) e ex),af,.tuple rfl (by simp),?_,Ren.le.refl ρ,rfl,?_,hU.toList.map rows,?_,?_,?_⟩
 ·subst bo
  have q2:hU.size=l.length:=by rw [az.1,rN]
  have qq:((hU.toList.map rows).flatMap E).length=l.length * k:=by rw [kF hk];simp [q2]
  have D9:l.length * k≤c.length:=by
   have:=congrArg List.length cp
   rw [List.length_take,hlen] at this
   omega
  have aN:aQ ρ ((hU.toList.map rows).flatMap E) (flatK enc k hU).toList:=by
   rw [Rs enc k eK]
   have:∀ q:List (Fin (n+1)),aQ ρ ((q.map rows).flatMap E) (q.flatMap enc):=fun q=>by
    induction q with
    | nil=>exact aQ.nil ρ
    | cons a q ih=>
     rw [List.map_cons,List.flatMap_cons,List.flatMap_cons]
     exact (pD a).append ih
   exact this _
  exact ((R.ahead m).Cb aE hi aN (by rw [qq];exact D9)).grow os
 ·exact (aa.set h i _).mono fun q ae=>by simp [aW,aA,ae]
 ·have q2:hU.size=l.length:=by rw [az.1,rN]
  have aI:=az.2.2
  have aK:hU.extract 0 l.length=hU:=by rw [←q2];simp
  have a6:d.extract 0 l.length=d:=by rw [←rN];simp
  rw [aK,a6] at aI
  have h4:=aI.map rows
  have dB:d.toList.map rows=l:=by
   apply List.ext_getElem
   ·simp [d,aJ]
   ·intro j h1 ab
    simp [d,rows]
  rwa [dB] at h4
 ·have q2:hU.size=l.length:=by rw [az.1,rN]
  rw [List.pairwise_map,List.pairwise_iff_getElem]
  intro a fe aL ar iX
  have:=J a fe (Nat.zero_le _) iX (by simp at ar;omega)
  rw [getElem!_pos hU fe (by simpa using ar),getElem!_pos hU a (by simpa using aL)] at this
  simpa [ltOf] using this
 ·have q2:hU.size=l.length:=by rw [az.1,rN]
  have qq:((hU.toList.map rows).flatMap E).length=l.length * k:=by rw [kF hk];simp [q2]
  have D9:l.length * k≤c.length:=by
   have:=congrArg List.length cp
   rw [List.length_take,hlen] at this
   omega
  refine .inr ⟨i,l.length,cap,_,ex,rfl,My,e4,by rw [qq],?_,?_⟩
  ·rw [List.take_left' qq]
  ·rcases cQ with ⟨ab,aI,h4⟩ | ⟨ab,aI⟩
   ·refine .inl ⟨ab,?_,h4⟩
    rw [List.length_append,List.length_drop,qq]
    omega
   ·exact .inr ⟨ab,aI⟩
open Go
section
variable {κ α:Type} {ke:κ→V} {enc:α→V}
theorem aeg {l:List (Nat×κ×α)} {e:Nat×V×V} (h:e ∈ cx ke enc l):∃ x ∈ l,e=(x.1,ke x.2.1,enc x.2.2):=by
 obtain ⟨x,af,rfl⟩:=List.mem_map.1 h
 exact ⟨x,af,rfl⟩
theorem aeh {l:List (Nat×κ×α)} {x:Nat×κ×α} (h:x ∈ l):(x.1,ke x.2.1,enc x.2.2) ∈ cx ke enc l:=List.mem_map.2 ⟨x,h,rfl⟩
theorem H4 (l:List (Nat×κ×α)):(cx ke enc l).map (·.1)=l.map (·.1):=by
 unfold cx
 rw [List.map_map]
 rfl
theorem aon (l:List (Nat×κ×α)):(cx ke enc l).length=l.length:=by simp [cx]
theorem Ry:∀ {q:List (Nat×κ×α)},(q.map (·.1)).Nodup→∀ {x y},x ∈ q→y ∈ q→x.1=y.1→x=y
 | [],_,x,y,af,_,_=>by cases af
 | z::q,ae,x,y,af,aX,e=>by
  have dp:=List.nodup_cons.1 ae
  rcases List.mem_cons.1 af with h1 | h1
  ·rcases List.mem_cons.1 aX with ab | ab
   ·rw [h1,ab]
   ·exact absurd (List.mem_map.2 ⟨y,ab,by rw [←e,h1]⟩) dp.1
  ·rcases List.mem_cons.1 aX with ab | ab
   ·exact absurd (List.mem_map.2 ⟨x,h1,by rw [e,ab]⟩) dp.1
   ·exact Ry dp.2 h1 ab e
theorem kw {l b1:List (Nat×κ×α)} (aJ:(l.map (·.1)).Nodup) (aN:(b1.map (·.1)).Nodup) (h1:∀ e ∈ b1,e ∈ l) (ab:∀ e ∈ l,e.1 ∈ b1.map (·.1)):b1.Perm l:=by
 have nl:l.Nodup:=(List.pairwise_map.1 aJ).imp fun h e=>h (by rw [e])
 have bL:b1.Nodup:=(List.pairwise_map.1 aN).imp fun h e=>h (by rw [e])
 rw [List.perm_ext_iff_of_nodup bL nl]
 intro a
 refine ⟨h1 a,fun aL=>?_⟩
 obtain ⟨b,ar,iX⟩:=List.mem_map.1 (ab a aL)
 have lA:=h1 b ar
 rw [←Ry aJ lA aL iX];exact ar
theorem H5 {l b1:List (Nat×κ×α)} (hV:l2 (cx ke enc l) (b1.map (·.1))=[]):∀ e ∈ l,e.1 ∈ b1.map (·.1):=fun e he=>by
 apply Classical.byContradiction
 intro lq
 have:(e.1,ke e.2.1,enc e.2.2) ∈ l2 (cx ke enc l) (b1.map (·.1)):=by
  unfold l2
  exact List.mem_filter.2 ⟨aeh he,by simpa using lq⟩
 rw [hV] at this
 simp at this
theorem H6 {l b1:List (Nat×κ×α)} {e:Nat×V×V} (he:e ∈ l2 (cx ke enc l) (b1.map (·.1))):∃ x ∈ l,e=(x.1,ke x.2.1,enc x.2.2)∧x.1 ∉ b1.map (·.1):=by
 obtain ⟨h1,ab⟩:=List.mem_filter.1 he
 obtain ⟨x,af,rfl⟩:=aeg h1
 exact ⟨x,af,rfl,by simpa using ab⟩
theorem H7 {l b1:List (Nat×κ×α)} {x:Nat×κ×α} (mH:(b1.map (·.1)).Nodup) (jZ:∀ e ∈ b1,e ∈ l) (af:x ∈ l) (lX:x.1 ∉ b1.map (·.1)) :
  ((b1++[x]).map (·.1)).Nodup∧(∀ e ∈ b1++[x],e ∈ l)∧b1.length<l.length:=by
 have c9:((b1++[x]).map (·.1)).Nodup:=by
  rw [List.map_append,List.nodup_append]
  exact ⟨mH,by simp,fun a aL b ar=>by simp at ar;subst ar;exact fun ad=>lX (ad ▸ aL)⟩
 have fw:∀ e ∈ b1++[x],e ∈ l:=fun e he=>by
  rcases List.mem_append.1 he with h | h
  ·exact jZ e h
  ·simp at h;subst h;exact af
 have n3:(b1++[x]).Nodup:=(List.pairwise_map.1 c9).imp fun h e=>h (by rw [e])
 have:=n3.length_le_of_subset fw
 rw [List.length_append] at this
 simp at this
 exact ⟨c9,fw,by omega⟩
theorem zl {κ α:Type} [DecidableEq κ]:∀ {l:List (Nat×κ×α)} {k:κ} {v:α},bq l k=some v→∃ e ∈ l,e.2=(k,v)
 | [],k,v,h=>by simp [bq] at h
 | e::l,k,v,h=>by
  unfold bq at h
  split at h
  ·rename_i hk
   exact ⟨e,by simp,Prod.ext hk.symm (Option.some.inj h)⟩
  ·obtain ⟨x,af,he⟩:=zl h
   exact ⟨x,List.mem_cons_of_mem _ af,he⟩
end
theorem Acc.set {ay h:I} {e:TypeId} {sz:Nat} {v:V} {cs:List V} (a:Acc ay h e sz v cs) {i:Nat} (hi:ay.n≤i) (aN:aA v≠some i) (o:aD):Acc ay (h.set i o) e sz v cs :=
 ⟨a.own.au (aa.set _ _ _) fun k hk he=>aN (by rw [hk,he]),a.au.kq hi o,a.new⟩
theorem ax.ou {ρ:Ren} {v':Value} (h:ax ρ (.an 0 []) v'):ax ρ .ag v'∨ax ρ .gr v':=by
 rcases h.hS with ⟨_,_,a,fv,aL,rfl⟩ | ⟨b,o,cap,arr,ar,aJ,av,af,rfl⟩
 ·cases a with
  | none=>rw [aL rfl];exact .inl .ag
  | some a=>exact .inr (.gr a fv)
 ·exact .inr (.gr _ _)
theorem cd.ou {P:Program} {f:FuncId} {rest:List V} {h:I} {R:V→I→Prop} {E:I→Prop} (h1:cd P f (.ag::rest) h R E) (ab:cd P f (.gr::rest) h R E):cd P f (.an 0 []::rest) h R E:=by
 intro ρ B aG w args' hw aL
 obtain ⟨v',t,bM,aN,aq⟩:=aL.dF
 rcases aN.ou with aN | aN
 ·exact h1 ρ B aG w args' hw (by rw [bM];exact aQ.cons aN aq)
 ·exact ab ρ B aG w args' hw (by rw [bM];exact aQ.cons aN aq)
theorem ah.ou {P:Program} {f:FuncId} {rest:List V} {h:I} {R:V→I→Prop} (h1:ah P f (.ag::rest) h R) (ab:ah P f (.gr::rest) h R):ah P f (.an 0 []::rest) h R:=cd.ou h1 ab
theorem aV.la (h:I):aV .ag h (.an 0 []) h:=fun ρ B aG w r' hw aN=>⟨ρ,Ren.le.refl ρ,hw,by cases aN;exact .fH none 0 fun _=>rfl⟩
theorem aei {l dN:List V} {h ab:I} (a:aS l h dN ab):aV (.agg l) h (.agg dN) ab:=fun ρ B aG w r' hw aN=>by
 cases aN with
 | agg J af=>
  obtain ⟨ρ1,fg,bK,v1⟩:=a ρ B aG w _ hw (c1.list ⟨J,af⟩)
  exact ⟨ρ1,fg,bK,v1.ij.agg⟩
section
variable {P:Program} {t:TypeId} {xo yo:Operand}
theorem H8 (h:gL P t=some 1):cl P .eql t xo yo .gr .ag=some (.bool false):=LZ h (.inl rfl) (.inr ⟨rfl,rfl⟩)
theorem H9 {n:Nat} {cs:List V} (h:gL P t=some 1) (aJ:n≠0):cl P .eql t xo yo (.an n cs) .ag=some (.bool false):=LZ h (.inl rfl) (.inr ⟨by simp [vu,aJ],rfl⟩)
theorem aej (h:gL P t=some 1):dg P (Op.equal t (.slice none 0 0) (.slice none 0 0))=some true:=by
 obtain ⟨d,hu,a7⟩:=yY h
 unfold Op.equal Op.maxDepth Op.equalIn
 rw [ji,Ds hu]
 cases d<;>simp [sF] at a7
 rfl
theorem Ia (h:gL P t=some 1):cl P .eql t xo yo .ag .ag=some (.bool true):=by
 refine LX (v:=.bool true) rfl rfl rfl ?_
 show dg P (do pure (Value.bool (←Op.equal t (.slice none 0 0) (.slice none 0 0))))=_
 rw [ji,aej h]
 rfl
theorem Ib {h:I} {sz:Nat} (hk:gL P t=some 1):e3 P sz t .gr h=some (0,[]):=by
 obtain ⟨d,a7,cF⟩:∃ d,P.underlying t=some d∧sF d=some 1:=by
  unfold gL at hk
  cases hu:P.underlying t with
  | none=>rw [hu] at hk;cases hk
  | some d=>rw [hu] at hk;exact ⟨d,rfl,hk⟩
 cases d<;>simp [sF] at cF
 simp only [e3,a7]
end
theorem fT.ofInt {P:Program} {t dm fZ:TypeId} {kk:IntKind} (hm:eo P t=some (dm,fZ,.int kk)):fT P dm (.int kk) (V.int kk) where
 eq a b:=by rw [acQ rfl];rfl
 ok b a:=acR (uc hm).2 rfl
 bits a:=⟨_,rfl,by simp [Instr.sameBits]⟩
section
variable {M:Nat→Prop} {ba:Operand→V} {t:TypeId} {m k:Operand} {b:Bool}
theorem aek:kZ M (lO ba (.lookup t m k b))=q1 M (ba m):=rfl
end
theorem aV.sk {h h1:I} {X:Nat} {c bx:List V} {e:TypeId} {ex:Option Nat} (aE:h.get X=.cells c e ex) (cr:aS c h bx h1) (mE:h1.get X=.cells c e ex) (hle:bx.length=c.length) (r:V) :
  aV r h r (h1.set X (.cells bx e ex)):=fun ρ B aG w r' hw aN=>by
 have av:=hw.heap.obj X
 rw [aE] at av
 obtain ⟨b,bh,arr,aq,aB,b3,gb,al,aw,af⟩:=av
 obtain ⟨ρ1,xz,gj,jY⟩:=cr ρ B aG w _ hw aw
 have kV:=gj.heap.obj X
 rw [mE] at kV
 obtain ⟨hW,Qp,vA,AG,s9,Rz,J2,sZ,gz,jk⟩:=kV
 have aK:=xz.ren _ _ aq
 rw [AG] at aK
 simp only [Option.some.injEq,Prod.mk.injEq] at aK
 obtain ⟨rfl,rfl⟩:=aK
 rw [J2] at gb
 simp only [Option.some.injEq,Obj.cells.injEq] at gb
 obtain ⟨rfl,-,-⟩:=gb
 have Ea:∀ j,j≠X→(h1.set X (.cells bx e ex)).get j=h1.get j:=fun j aC=>by simp [I.set,aC]
 have ael:(h1.set X (.cells bx e ex)).get X=.cells bx e ex:=by simp [I.set]
 have live:∀ j,(h1.set X (.cells bx e ex)).get j≠.dead→h1.get j≠.dead:=fun j aC=>by
  by_cases J3:j=X
  ·subst J3;rw [mE];intro q;cases q
  ·rwa [Ea j J3] at aC
 refine ⟨ρ1,xz,⟨⟨gj.heap.gv,fun i j b c k5 hi aC ab aI=>gj.heap.inj i j b c k5 (live i hi) (live j aC) ab aI,fun j=>?_,gj.heap.frz,gj.heap.glob,gj.heap.base⟩,gj.below⟩,aN.mono xz⟩
 by_cases aC:j=X
 ·subst aC
  rw [ael]
  rw [←hle] at jY
  exact ⟨_,_,_,AG,s9,Rz,J2,by rw [hle];exact sZ,jY,by rw [hle];exact jk⟩
 ·rw [Ea j aC];exact gj.heap.obj j
section
variable {P:Program} {h:I} {s:TypeId}
end
section
variable {P:Program} {d:Option Tmp} {ty:TypeId} {pos:String} {b0:Array Edge} {g:Option (Nat×Bool)} {f:ak} {h:I} [K:fq] {x y:Operand}
def J4 (P:Program) (bi:Builtin) (ts:Array TypeId) (ty:TypeId) (cs:Array Bool) (x:V):Option V :=
 match hQ [x] with
 | some us=>match dg P (builtin bi ts ty cs us.toArray) with
  | some (.value v)=>some (eD v)
  | _=>none
 | none=>none
end
section
variable {P:Program} {ty:TypeId}
theorem aoo {ts:Array TypeId} {cs:Array Bool} {a b:Nat}:sO P .complex ts ty cs (.float .f64 a) (.float .f64 b)=some (.complex .f64 a b):=rfl
theorem aop {ts:Array TypeId} {cs:Array Bool} {k:FloatKind} {a b:Nat}:J4 P .real ts ty cs (.complex k a b)=some (.float k a):=rfl
theorem aoq {ts:Array TypeId} {cs:Array Bool} {k:FloatKind} {a b:Nat}:J4 P .imag ts ty cs (.complex k a b)=some (.float k b):=rfl
theorem aor {k:FloatKind} {b:Nat}:(V.float k b).cells=some [.float k b]:=rfl
theorem aos {k:FloatKind} {a b:Nat}:(V.complex k a b).cells=some [.complex k a b]:=rfl
theorem aot {k:FloatKind} {b:Nat}:(V.float k b).one=true:=rfl
theorem aou {k:FloatKind} {a b:Nat}:(V.complex k a b).one=true:=rfl
theorem aov {k:FloatKind} {b:Nat}:eD (.float k b)=.float k b:=rfl
theorem aow {k:FloatKind} {a b:Nat}:eD (.complex k a b)=.complex k a b:=rfl
theorem aox {k:FloatKind} {b:Nat}:eZ (.float k b)=.float k b:=rfl
theorem aoy {k:FloatKind} {a b:Nat}:eZ (.complex k a b)=.complex k a b:=rfl
end
def mb (P:Program) (n l:Nat) (c:Code) (Q:ey→ak→I→Prop) (f:ak) (h:I):Prop :=
 ∀ (ρ:Ren) (B:Nat) (aG:World) (a:Act) (w:World),aM ρ B aG h w→df ρ n f a→c.wpIn (Fence.wide.inRound l) 0 P (jm n B aG ρ Q) a w
section
variable {P:Program} {n l:Nat} {Q:ey→ak→I→Prop} {f:ak} {h:I}
theorem mb.region {id:Nat} {ops:Array Oper} (aU:ops.toList.all (fun o=>j3 n o.dst)=true)
  (ae:il P ops.toList ops.toList (Q .normal) (Q .panic) f h):mb P n l (.region id ops false) Q f h:=by
 intro ρ B aG a w hw aB
 refine wpIn_region ?_
 have:=Hv (pn.inRound l) (rm:=0) (P:=P) aU (ρ0:=ρ) ops.toList 0 (by simp) ρ f h a w (Ren.le.refl ρ) hw aB ae
 rwa [Array.length_toList,←List.range_eq_range'] at this
theorem mb.block {id:Nat} {c:Code} (J:mb P n l c (BV id Q) f h):mb P n l (.block id c) Q f h:=by
 intro ρ B aG a w hw aB
 refine wpIn_block (wpIn_mono (J ρ B aG a w hw aB) fun e du w' ⟨ρ',x,bE,U,af,bo,bG,aw,ct⟩=>?_)
 cases x<;>cases e<;>simp only [lL] at af
 ·exact ⟨ρ',.normal,bE,U,trivial,bo,bG,aw,ct⟩
 ·subst af
  simp only [BV] at ct
  simp only [Exit.inBlock]
  split
  ·rename_i he
   simp only [he,if_true] at ct
   exact ⟨ρ',.normal,bE,U,trivial,bo,bG,aw,ct⟩
  ·rename_i he
   simp only [he,if_false] at ct
   exact ⟨ρ',.exit _,bE,U,rfl,bo,bG,aw,ct⟩
 ·exact ⟨ρ',.goto _,bE,U,af,bo,bG,aw,ct⟩
 ·exact ⟨ρ',.ret,bE,U,trivial,bo,bG,aw,ct⟩
 ·exact ⟨ρ',.panic,bE,U,af,bo,bG,aw,ct⟩
end
theorem aem {ρ:Ren} {n:Nat} {f:ak} {a:Act} (aB:df ρ n f a):aQ ρ ((List.range n).map f) a.tmps.toList:=by
 refine ⟨by simp [aB.size],fun k v v' h1 ab=>?_⟩
 have hk:k<n:=by have:=(List.getElem?_eq_some_iff.1 h1).1;simpa using this
 have bM:=aB.tmps k
 simp only [List.getElem?_map,List.getElem?_range hk,Option.map_some,Option.some.injEq] at h1
 have uS:a.tmps[k]?=some v':=by simpa using ab
 rw [Array.getD_eq_getD_getElem?,uS] at bM
 subst h1
 exact bM
theorem aen {ρ:Ren} {n:Nat} {f:ak} {arr:List Value} (aw:aQ ρ ((List.range n).map f) arr) (a7:ρ.dfr=[]):df ρ n (fun t=>if t<n then f t else .top) { tmps:=arr.toArray,defers:=[] }:=by
 have J:arr.length=n:=by have:=aw.1;simpa using this.symm
 refine ⟨fun t=>?_,by simpa using J,a7.symm⟩
 simp only
 split
 ·rename_i bM
  obtain ⟨v',h1,ab⟩:=aw.get (k:=t) (v:=f t) (by simp [bM])
  have:(arr.toArray).getD t undef=v':=by rw [Array.getD_eq_getD_getElem?];simp [h1]
  rw [this];exact ab
 ·exact .top _
theorem aM.ov {ρ:Ren} {B:Nat} {aG:World} {h:I} {w:World} (R:aM ρ B aG h w) {i l c:Nat} (hi:ρ.ren i=some (l,c)) {k:nX} {vs:List V} (aE:h.get i=.dP k vs) :
  ∃ arr,k4 ρ w l arr k∧aQ ρ vs arr∧l<w.heap.size∧∀ k' ob,k4 ρ (w.putObj l ob) l arr k'→aM ρ B aG (h.set i (.dP k' vs)) (w.putObj l ob):=by
 have av:=R.heap.obj i
 rw [aE] at av
 obtain ⟨b,bh,arr,aq,aB,b3,hw,aw⟩:=av
 rw [hi] at aq
 simp only [Option.some.injEq,Prod.mk.injEq] at aq
 obtain ⟨rfl,rfl⟩:=aq
 have aT:l<w.heap.size:=by
  cases k with
  | ix=>exact (Array.getElem?_eq_some_iff.1 hw).1
  | loop j p a zm y=>obtain ⟨_,_,_,_,ab⟩:=hw;exact (Array.getElem?_eq_some_iff.1 ab).1
 refine ⟨arr,hw,aw,aT,fun k' ob az=>R.vl hi (by rw [aE];simp) (fun k hk=>World.putObj_heap_other hk) (by simp) ⟨rfl,rfl,rfl,by simp,fun k hk=>World.putObj_heap_other (by omega),Nat.le_refl _⟩ ?_⟩
 exact ⟨l,c,arr,hi,aB,b3,az,aw⟩
theorem aM.xA {ρ:Ren} {B:Nat} {aG:World} {h:I} {w:World} (R:aM ρ B aG h w) (k:nX) (ob:Obj) {vs:List V} {arr:List Value} (aw:aQ ρ vs arr) (az:∀ ρ',ρ.le ρ'→k4 ρ' (w.alloc ob) w.heap.size arr k) :
  ∃ ρ',ρ.le ρ'∧ρ'.ren h.n=some (w.heap.size,0)∧aM ρ' B aG (h.push (.dP k vs)) (w.alloc ob):=by
 have hle:=Ren.nY (R.heap.gv _ (Nat.le_refl _)) w.heap.size 0
 have wK:ρ.frz w.heap.size=none:=by
  cases aB:ρ.frz w.heap.size with
  | none=>rfl
  | some a=>
   obtain ⟨e,ei,hw⟩:=R.heap.frz _ _ aB
   have:=(Array.getElem?_eq_some_iff.1 hw).1
   omega
 have hold:∀ k,k<w.heap.size→(w.alloc ob).heap[k]?=w.heap[k]?:=fun k hk=>Below.heap_alloc _ _ _ hk
 obtain ⟨h1,ab⟩:=R.vk (w':=w.alloc ob) (o:=.dP k vs) 0 (by simp) hold ((fC.refl _ _).alloc R.heap.base _) ⟨w.heap.size,0,arr,Ren.iR,wK,R.heap.base,az _ hle,aw.mono hle⟩
 exact ⟨_,h1,Ren.iR,ab⟩
def Eb (n:Nat) (f:ak) (p:Tmp) (v:V):ak:=ak.put (fun t=>if t<n then f t else .top) (some p) v
theorem jl.of {P:Program} {n i jd:Nat} {assign body:Code} {p:Tmp} {f:ak} {v:V} {h:I} {R:V→I→Prop} (az:p<n)
  (aE:h.get i=.dP (.loop jd p assign body false) ((List.range n).map f)) (M:ak→I→Prop)
  (aL:∀ l,mb P n l assign (fun z bE U=>z=.normal∧U.get i=.dP (.loop jd p assign body false) ((List.range n).map f)∧M bE U) (Eb n f p v) h)
  (ar:∀ l bE U,M bE U→mb P n l body (fun z _ ab=>z=.normal∧ab.get i=.dP (.loop jd p assign body true) ((List.range n).map f)∧R (.bool true) (ab.set i (.dP (.loop jd p assign body false) ((List.range n).map f)))) bE (U.set i (.dP (.loop jd p assign body true) ((List.range n).map f)))) :
  jl P i [v] h R:=by
 intro ρ B aG w args' l c hi hw xB
 obtain ⟨arr,⟨D,wJ,fn,D7,kh⟩,mA,_,_⟩:=hw.ov hi aE
 obtain ⟨v',k1,he,aN,bM⟩:=xB.dF
 obtain rfl:=bM.eq_nil
 have iI:args'=#[v']:=by apply Array.ext';simpa using he
 subst iI
 have aX:=run_yield (P:=P) (args:=#[v']) kh rfl
 refine ⟨fn,_,assign,body,aX,roundIn_of_wpIn trivial ?_⟩
 have fo:df { ρ with dfr:=[] } n (Eb n f p v) { tmps:=((#[p].zip #[v']).foldl (fun tmps (t,a)=>tmps.setIfInBounds t a) arr.toArray),defers:=[] }:=by
  have:=(aen (ρ:={ ρ with dfr:=[] }) (mA.dfr []) rfl).put (aN.dfr []) (some p) (by simp [j3,az])
  simpa [Act.put,Eb] using this
 refine wpIn_mono (aL l { ρ with dfr:=[] } B aG _ w (hw.dfr []) fo) fun e bC bK ⟨ρ1,x,f1,h1,af,gj,s9,jY,ct⟩=>?_
 obtain ⟨rfl,mE,td⟩:=ct
 cases e<;>simp only [lL] at af
 have uY:=jY.ren i _ hi
 obtain ⟨vA,⟨RA,RB,J5,RC,RD⟩,aeo,Ec,j7⟩:=gj.ov uY mE
 refine ⟨_,run_beginRound RD rfl,?_⟩
 have eS:=j7 (.loop jd p assign body true) (yC J5 p assign body RA .busy vA) ⟨RA,RB,J5,RC,World.putObj_heap_same Ec⟩
 refine wpIn_mono (ar l f1 h1 td ρ1 B aG bC _ eS s9) fun e a3 jR ⟨ρ3,x,f3,aI,af,uV,uW,nE,ct⟩=>?_
 obtain ⟨rfl,xC,ed⟩:=ct
 cases e<;>simp only [lL] at af
 have AV:=nE.ren i _ uY
 obtain ⟨Mz,⟨RE,RF,J6,RG,RH⟩,aep,q3,Ic⟩:=uV.ov AV xC
 refine ⟨_,_,run_endRound none RH,?_⟩
 have oq:=Ic (.loop jd p assign body false) (yC J6 p assign body RE .ready Mz) ⟨RE,RF,J6,RG,World.putObj_heap_same q3⟩
 have Ed:=jY.trans nE
 exact ⟨{ ρ3 with dfr:=ρ.dfr },.bool true,.bool true,_,rfl,.bool _,oq.dfr ρ.dfr,⟨Ed.ren,Ed.frz,rfl⟩,ed⟩
theorem ah.dQ {P:Program} {fid gf:FuncId} {fn:Func} {A q0 assign body:Code} {id:Nat} {g p:Tmp} (iD:P.funcs[fid]?=some fn)
  (ar:fn.body=some (.seq A (.seq q0 (.block id (.rangeFunc (.tmp g) #[p] assign body))))) (fx:bP P gf=true) {args:List V} (hlen:args.length≤fn.ntmps) {h:I} {R:V→I→Prop} {K:ak→I→Prop} {caps:ak→List V}
  (h1:aZ P fn.ntmps A (fun z f h=>z=.normal∧aZ P fn.ntmps q0 (fun z f h=>z=.normal∧K f h) f h) (dQ args) h)
  (aE:∀ f h,K f h→f g=.func (.func gf) [] (caps f))
  (eJ:∀ f h1,K f h1→ah P gf (.func (.yield (h1.n+1)) [] []::caps f) ((h1.push (.dP .ix [])).push (.dP (.loop h1.n p assign body false) ((List.range fn.ntmps).map f))) (fun _ aI=>aI.get (h1.n+1)=.dP (.loop h1.n p assign body false) ((List.range fn.ntmps).map f)∧aI.get h1.n=.dP .ix [] ∧
    (∃ r,iZ P fn.results.toList f ((aI.set (h1.n+1) .dead).set h1.n .dead)=some r∧R r ((aI.set (h1.n+1) .dead).set h1.n .dead)))):ah P fid args h R:=by
 intro ρ B aG w args' hw aL
 refine callsIn_wide.1 (callsIn_of_wp_marks (n:=0) iD ar trivial ?_)
 apply wpIn_seq
 refine wpIn_mono (wpIn_wide.2 (h1 { ρ with dfr:=[] } B aG _ w (hw.dfr []) (Hx (aL.dfr []) hlen rfl))) ?_
 rintro e bC bK ⟨ρ1,z,f1,Rj,af,gj,s9,jY,rfl,ab⟩
 cases e<;>simp only [lL] at af
 show (Code.seq q0 _).wpIn Fence.wide 0 P _ bC bK
 apply wpIn_seq
 refine wpIn_mono (wpIn_wide.2 (ab ρ1 B aG bC bK gj s9)) ?_
 rintro e a2 bV ⟨ρ2,z,f2,ev,af,eS,gy,gz,rfl,r9⟩
 cases e<;>simp only [lL] at af
 show (Code.block id _).wpIn Fence.wide 0 P _ a2 bV
 apply wpIn_block
 have MA:=jY.trans gz
 have qs:a2.defers=[]:=(gy.defers.trans gz.dfr).trans jY.dfr
 refine wpIn_rangeFunc ?_
 intro q ae
 obtain ⟨ρ3,nE,Ee,uV⟩:=eS.xA .ix (.deferred (some [])) (aQ.nil ρ2) fun _ _=>World.alloc_heap_new _ _
 have rA:aQ ρ3 ((List.range fn.ntmps).map f2) a2.tmps.toList:=(aem gy).mono nE
 have bn:(bV.alloc (Obj.deferred (some []))).heap.size=bV.heap.size+1:=by simp
 obtain ⟨ρ4,ks,AW,oq⟩:=uV.xA (.loop ev.n p assign body false) (yC q p assign body bV.heap.size .ready a2.tmps.toList) rA fun ρ' hle=>⟨bV.heap.size,0,q,hle.ren _ _ Ee,World.alloc_heap_new _ _⟩
 rw [bn] at AW
 have cr:=eJ f2 ev r9
 have Ef:=gy.tmps g
 rw [aE f2 ev r9] at Ef
 obtain ⟨oT,Ie,MB⟩:∃ oT:Array Value,aQ ρ4 (caps f2) oT.toList∧a2.eval (.tmp g)=.func (.func gf) #[] oT:=by
  have he:a2.eval (.tmp g)=a2.tmps.getD g undef:=rfl
  rw [he]
  generalize a2.tmps.getD g undef=x at Ef
  cases Ef with
  | func anh _ n9 dy af aX=>
   rename_i dE pZ _
   have:dE=#[]:=Array.eq_empty_of_size_eq_zero n9.symm
   subst this
   exact ⟨pZ,((c1.list ⟨dy,aX⟩).mono nE).mono ks,rfl⟩
 have iI:aQ ρ4 (.func (.yield (ev.n+1)) [] []::caps f2) (#[Value.func (.yield (bV.heap.size+1)) #[] #[]]++oT).toList:=by
  have ay:ax ρ4 (.func (.yield (ev.n+1)) [] []) (.func (.yield (bV.heap.size+1)) #[] #[]):=.kB AW
  simpa using aQ.cons ay Ie
 have ch:=run_enterLoop_outer (P:=P) (w:=bV) q a2.tmps #[p] assign body
 have AX:yC q p assign body bV.heap.size .ready a2.tmps.toList=.loop { state:=.ready,pending:=none,fn:=q,tmps:=a2.tmps,params:=#[p],assign,body,defers:=bV.heap.size }:=by simp [yC]
 rw [AX] at oq
 obtain ⟨W,gb⟩:∃ W,W=(bV.alloc (.deferred (some []))).alloc (.loop { state:=.ready,pending:=none,fn:=q,tmps:=a2.tmps,params:=#[p],assign,body,defers:=bV.heap.size }):=⟨_,rfl⟩
 rw [←gb] at oq ch
 obtain ⟨rO, MC, AY⟩ : ∃ rO, P.funcs[gf]? = some rO ∧ (rO.body.isSome && rO.name != "runtime.NumGoroutine") = true := by
  unfold bP at fx
  split at fx
  ·rename_i rO RI;exact ⟨rO,RI,fx⟩
  ·cases fx
 simp only [Bool.and_eq_true,bne_iff_ne,ne_eq] at AY
 have p2:rO.body.isNone=false:=by cases ar:rO.body<;>simp_all
 refine ⟨bV.heap.size+1,[{ target:=.collected bV.heap.size,args:=#[] }],W,{ target:=.fn (.func gf) oT,args:=#[.func (.yield (bV.heap.size+1)) #[] #[]] },W,gf,
  #[.func (.yield (bV.heap.size+1)) #[] #[]]++oT,W,ch,?_,?_,?_,(fun ad=>by cases ad),?_⟩
 ·simp only [resolve,MB]
  simp [go_sem]
 ·intro bE bG;trivial
 ·simp only [invoke,callFunc]
  simp [MC,AY.2]
  intro ad
  simp [ad] at p2
 ·refine callsIn_wide.2 ((cr ρ4 B aG _ _ oq iI).mono fun e nf ad=>?_)
  rcases ad with ⟨ρ5,r,r',h5,rfl,ani,qt,AZ,kt,Eg,Eh,RJ,ed⟩ | ⟨_,_,_,_,_,_,_,dH⟩
  case inr=>exact dH.elim
  have nB:ρ5.ren (ev.n+1)=some (bV.heap.size+1,0):=AZ.ren _ _ AW
  have A0:ρ5.ren ev.n=some (bV.heap.size,0):=AZ.ren _ _ (ks.ren _ _ Ee)
  obtain ⟨MD,⟨aoz,anj,xD,Ei,RK⟩,_,aeq,YX⟩:=qt.ov nB kt
  rw [A0] at Ei
  simp only [Option.some.injEq,Prod.mk.injEq] at Ei
  obtain ⟨rfl,rfl⟩:=Ei
  obtain ⟨aer,RL,ank,aes,YY⟩:=qt.ov A0 Eg
  refine ⟨none,_,run_endLoop RK (by simp [yC]),?_⟩
  have bc:bV.heap.size≠bV.heap.size+1:=by omega
  obtain ⟨Ej,RM⟩:∃ Ej:Obj,Ej=.loop { state:=.exhausted,pending:=none,fn:=xD,tmps:=MD.toArray,params:=#[p],assign,body,defers:=bV.heap.size }:=⟨_,rfl⟩
  have Ek:(nf.putObj (bV.heap.size+1) Ej).heap[bV.heap.size]?=some (.deferred (some [])):=(World.putObj_heap_other bc).trans RL
  have El:aM ρ5 B aG ((h5.set (ev.n+1) .dead).set ev.n .dead) ((nf.putObj (bV.heap.size+1) Ej).putObj bV.heap.size (.deferred none)):=by
   have bj:=(qt.kill (ev.n+1)).kill ev.n
   have d1:((h5.set (ev.n+1) .dead).set ev.n .dead).get (ev.n+1)=.dead:=by simp [I.set]
   have d2:((h5.set (ev.n+1) .dead).set ev.n .dead).get ev.n=.dead:=by simp [I.set]
   have nF:∀ i b c,((h5.set (ev.n+1) .dead).set ev.n .dead).get i≠.dead→ρ5.ren i=some (b,c)→b≠bV.heap.size+1∧b≠bV.heap.size:=fun i b c hi aq=>by
    have A1:h5.get i≠.dead∧i≠ev.n+1∧i≠ev.n:=by
     refine ⟨fun a7=>hi ?_,fun a7=>hi (by rw [a7];exact d1),fun a7=>hi (by rw [a7];exact d2)⟩
     show (if i=ev.n then aD.dead else if i=ev.n+1 then aD.dead else h5.get i)=.dead
     split
     ·rfl
     ·split
      ·rfl
      ·exact a7
    refine ⟨fun ar=>A1.2.1 (qt.heap.inj i _ _ _ _ A1.1 (by rw [kt];simp) aq (by rw [ar];exact nB)),fun ar=>A1.2.2 (qt.heap.inj i _ _ _ _ A1.1 (by rw [Eg];simp) aq (by rw [ar];exact A0))⟩
   have Em:∀ b,b≠bV.heap.size+1→b≠bV.heap.size→((nf.putObj (bV.heap.size+1) Ej).putObj bV.heap.size (.deferred none)).heap[b]?=nf.heap[b]?:=fun b h1 ab=>(World.putObj_heap_other ab).trans (World.putObj_heap_other h1)
   have J7:∀ b arr,ρ5.frz b=some arr→b≠bV.heap.size+1∧b≠bV.heap.size:=fun b arr aB=>by
    have c0:=qt.heap.obj (ev.n+1)
    rw [kt] at c0
    obtain ⟨hW,bf,_,cq,f1,_⟩:=c0
    rw [nB] at cq;cases cq
    have cw:=qt.heap.obj ev.n
    rw [Eg] at cw
    obtain ⟨cZ,bx,_,ck,f2,_⟩:=cw
    rw [A0] at ck;cases ck
    refine ⟨fun ar=>?_,fun ar=>?_⟩
    ·rw [ar,f1] at aB;cases aB
    ·rw [ar,f2] at aB;cases aB
   have aoA:B≤bV.heap.size:=eS.heap.base
   refine ⟨⟨bj.heap.gv,bj.heap.inj,fun i=>?_,fun b arr aB=>?_,bj.heap.glob,by simpa using bj.heap.base⟩,qt.below.trans ⟨rfl,rfl,rfl,by simp,fun k hk=>Em k (by omega) (by omega),Nat.le_refl _⟩⟩
   ·have c0:=bj.heap.obj i
    by_cases hi:((h5.set (ev.n+1) .dead).set ev.n .dead).get i=.dead
    ·rw [hi];exact trivial
    ·exact gu.au (Ren.le.refl ρ5) c0 fun b c aq=>⟨Em b (nF i b c hi aq).1 (nF i b c hi aq).2,fun h=>h⟩
   ·obtain ⟨e,ei,ad⟩:=qt.heap.frz b arr aB
    exact ⟨e,ei,(Em b (J7 b arr aB).1 (J7 b arr aB).2).trans ad⟩
  rw [RM] at El Ek
  show LeavesInM _ _ P fn a2.tmps _ ([{ target:=.collected bV.heap.size,args:=#[] }]++a2.defers) .returning _
  rw [qs]
  refine ⟨by simp,.inl ⟨bV.heap.size,_,rfl,run_takeDeferred Ek,?_⟩⟩
  show ∃ v,(results fn a2.tmps).run P _=.ok v _∧_
  have En:Ren.le { ρ with dfr:=[] } ρ5:=((MA.trans nE).trans ks).trans AZ
  have RN:df ρ5 fn.ntmps f2 a2:=gy.mono ((nE.trans ks).trans AZ)
  obtain ⟨RO,c2,eE⟩:=Hw El RN RJ
  exact ⟨RO,c2,.inl ⟨{ ρ5 with dfr:=ρ.dfr },Eh,RO,_,rfl,eE.dfr ρ.dfr,El.dfr ρ.dfr,⟨En.ren,En.frz,rfl⟩,ed⟩⟩
def Eo:=PLift.up (And.intro (And.intro (And.intro (And.intro (And.intro (And.intro (And.intro (And.intro @ZT @ZU) (And.intro @ZV @ZY)) (And.intro (And.intro @ZZ @Z0) @Z1)) (And.intro (And.intro (And.intro @Z2 @Z3) (And.intro @Z4 @Z5)) (And.intro (And.intro @Z6 @ZW) @ZX))) (And.intro (And.intro (And.intro (And.intro @Z7 @Z8) (And.intro @Z9 @aaa)) (And.intro (And.intro @aab @aac) @aad)) (And.intro (And.intro (And.intro @aae @Qx) (And.intro @aai @aaj)) (And.intro (And.intro @aak @aaf) @GE)))) (And.intro (And.intro (And.intro (And.intro (And.intro @aag @aah) (And.intro @aao @aap)) (And.intro (And.intro @aaq @aar) @aas)) (And.intro (And.intro (And.intro @aat @aau) (And.intro @aav @aaw)) (And.intro (And.intro @aax @aaA) @aaB))) (And.intro (And.intro (And.intro (And.intro @aaC @aaD) (And.intro @aaE @aaF)) (And.intro (And.intro @aaH @aaI) @aaJ)) (And.intro (And.intro (And.intro @aaL @aaM) @aaN) (And.intro (And.intro @aaO @aaP) @aaQ))))) (And.intro (And.intro (And.intro (And.intro (And.intro (And.intro @aaR @aaS) (And.intro @aaT @aaU)) (And.intro (And.intro @aaV @aaW) @aaX)) (And.intro (And.intro (And.intro @qr @aa1) (And.intro @aa2 @aa3)) (And.intro (And.intro @aa4 @aa5) @aa6))) (And.intro (And.intro (And.intro (And.intro @aa7 @aa8) (And.intro @abb @abc)) (And.intro (And.intro @abd @abe) @aa0)) (And.intro (And.intro (And.intro @aal @aaK) @aam) (And.intro (And.intro @aan @aay) @aaz)))) (And.intro (And.intro (And.intro (And.intro (And.intro @aaG @aaY) (And.intro @aaZ @abj)) (And.intro (And.intro @eval_const @eval_func) @abh)) (And.intro (And.intro (And.intro @abi @v6) (And.intro @abl @abr)) (And.intro (And.intro @abt @abu) @abv))) (And.intro (And.intro (And.intro (And.intro @abw @abx) (And.intro @aby @Fd)) (And.intro (And.intro @abz @abB) @abC)) (And.intro (And.intro (And.intro @abD @abE) @abF) (And.intro (And.intro @abG @abI) @js)))))) (And.intro (And.intro (And.intro (And.intro (And.intro (And.intro (And.intro @aa9 @aba) (And.intro @abK @abL)) (And.intro (And.intro @abm @abn) @abo)) (And.intro (And.intro (And.intro @abp @abq) (And.intro @abM @abN)) (And.intro (And.intro @abO @abP) @abQ))) (And.intro (And.intro (And.intro (And.intro @abR @abS) (And.intro @abT @abU)) (And.intro (And.intro @abV @abW) @abX)) (And.intro (And.intro (And.intro @abY @abZ) @ab0) (And.intro (And.intro @all_nil @all_cons) @ab1)))) (And.intro (And.intro (And.intro (And.intro (And.intro @ab2 @ab3) (And.intro @Qz @ab4)) (And.intro (And.intro @QA @QB) @ab5)) (And.intro (And.intro (And.intro @L0 @ab6) (And.intro @ab7 @uf)) (And.intro (And.intro @aca @acb) @acd))) (And.intro (And.intro (And.intro (And.intro @ace @B0) (And.intro @acg @ach)) (And.intro (And.intro @B1 @Dt) @acS)) (And.intro (And.intro (And.intro @acW @acZ) @ac0) (And.intro (And.intro @ac1 @ac2) @ac3))))) (And.intro (And.intro (And.intro (And.intro (And.intro (And.intro @acX @acY) (And.intro @fR @kE)) (And.intro (And.intro @c4 @e4) @set_set)) (And.intro (And.intro (And.intro @set_push @Dx) (And.intro @Dy @acO)) (And.intro (And.intro @acP @adW) @adX))) (And.intro (And.intro (And.intro (And.intro @adY @adZ) (And.intro @List.getElem?_cons_zero.{0} @List.getElem?_cons_succ.{0})) (And.intro (And.intro @bne_self_eq_false.{0} @beq_self_eq_true.{0}) @Option.some.injEq.{0})) (And.intro (And.intro (And.intro @Bool.false_eq_true @decide_true) @decide_false) (And.intro (And.intro @List.map_cons.{0,0} @List.map_nil.{0,0}) @Option.map_some.{0,0})))) (And.intro (And.intro (And.intro (And.intro (And.intro @Option.map_none.{0,0} @Nat.add_zero) (And.intro @Nat.zero_add @Nat.zero_le)) (And.intro (And.intro @List.length_cons.{0} @List.length_nil.{0}) @List.drop_zero.{0})) (And.intro (And.intro (And.intro @List.drop_succ_cons.{0} @List.take_succ_cons.{0}) (And.intro @List.take_zero.{0} @List.take_nil.{0})) (And.intro (And.intro @List.set_cons_zero.{0} @List.set_cons_succ.{0}) @List.nil_append.{0}))) (And.intro (And.intro (And.intro (And.intro @List.append_nil.{0} @List.cons_append.{0}) (And.intro @and_true @true_and)) (And.intro (And.intro @and_self @if_true.{1}) @if_false.{1})) (And.intro (And.intro (And.intro @Bool.and_true @Bool.true_and) @Bool.and_self) (And.intro (And.intro @Bool.not_true @Bool.not_false) @Nat.le_refl)))))))
theorem ao:type_of% Eo.down:=Eo.down
def Ep:=PLift.up (And.intro (And.intro (And.intro (And.intro (And.intro (And.intro @false_implies @adD) @adE) (And.intro @adF @adG)) (And.intro (And.intro @adH @adI) (And.intro @adJ @adK))) (And.intro (And.intro (And.intro (And.intro @adB @adL) @true_implies) (And.intro @implies_true.{0} @aco)) (And.intro (And.intro @acp @acq) (And.intro @acr @acs)))) (And.intro (And.intro (And.intro (And.intro (And.intro @acu @acv) @acw) (And.intro @acx @acy)) (And.intro (And.intro @acz @acA) (And.intro @acB @acC))) (And.intro (And.intro (And.intro (And.intro @acD @acE) @acF) (And.intro @acG @acH)) (And.intro (And.intro @acI @acJ) (And.intro @acK @acL)))))
theorem b6:type_of% Ep.down:=Ep.down
def Er:=PLift.up (And.intro (And.intro (And.intro (And.intro (And.intro @ad4 @ad5) @ad6) (And.intro @ad7 @ad8)) (And.intro (And.intro @ad9 @aea) (And.intro @aeb @aec))) (And.intro (And.intro (And.intro @aed @Mt) (And.intro @Mu @Mv)) (And.intro (And.intro @ad1 @ad2) (And.intro @ad3 @not_false_eq_true))))
theorem gV:type_of% Er.down:=Er.down
end Go.Proofs.YtceanabgcnieeaaGreatDoor.Ab
