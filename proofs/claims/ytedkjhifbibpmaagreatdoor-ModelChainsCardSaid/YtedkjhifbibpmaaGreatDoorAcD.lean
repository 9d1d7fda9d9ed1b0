/-
  Rules of the machine on abstract states. Conditions: as each theorem says.
-/
import Derived.Test.YtedkjhifbibpmaaGreatDoorAcC
import Derived.Recover
import Derived.Lib.LaidTab
import Derived.OpenShut
import Derived.Shelf.SlSortCmp.InsertionK
set_option linter.unusedVariables false
set_option linter.unusedSimpArgs false
set_option maxRecDepth 10000
namespace Go.Proofs.YtedkjhifbibpmaaGreatDoor.Ab
open Go Go.RowKit
inductive gr where
 | bool | int (k:IntKind) | str | bc (s:gr) | unit | cat (a b:gr) | ext (n:Nat)
def gr.width:gr→Nat
 | .unit=>0
 | .cat a b=>a.width+b.width
 | .ext n=>n
 | _=>1
def gr.fw (Q:List V→Prop):gr→List V→Prop
 | .ext n,l=>Q l∧l.length=n
 | .bool,l=>∃ b,l=[.bool b]
 | .int k,l=>∃ n,l=[.int k n]∧(Lit.int k n).wf=true
 | .str,l=>∃ s,l=[.string s]
 | .bc s,l=>∃ es:List (List V),l=[.ai es.length es.flatten]∧es.length<2 ^ 47∧∀ e ∈ es,s.fw Q e
 | .unit,l=>l=[]
 | .cat a b,l=>∃ ey dm,l=ey++dm∧a.fw Q ey∧b.fw Q dm
theorem gr.lu {Q:List V→Prop}:∀ {s:gr} {l:List V},s.fw Q l→l.length=s.width
 | .ext _,_,⟨_,h⟩=>h
 | .bool,_,⟨_,h⟩=>by subst h;rfl
 | .int _,_,⟨_,h,_⟩=>by subst h;rfl
 | .str,_,⟨_,h⟩=>by subst h;rfl
 | .bc _,_,⟨_,h,_⟩=>by subst h;rfl
 | .unit,_,h=>by have:_=[]:=h;subst this;rfl
 | .cat a b,_,⟨ey,dm,h,h1,aa⟩=>by subst h;rw [List.length_append,gr.lu h1,gr.lu aa];rfl
def zn (P:Program) (g:TypeId→Option gr):Nat→List Field→Option gr
 | _,[]=>some .unit
 | o,f::cr=>
  if f.offset=o then
   match g f.type,zn P g (o+P.cellsOf f.type) cr with
   | some s,some r=>if s.width=P.cellsOf f.type then some (.cat s r) else none
   | _,_=>none
  else none
def uv (P:Program) (T0:TypeId):Nat→TypeId→Option gr
 | 0,_=>none
 | n+1,t=>
  if t=T0 then some (.ext (P.cellsOf t)) else
  match P.underlying t with
  | some .bool=>some .bool
  | some (.int k)=>some (.int k)
  | some .string=>some .str
  | some (.slice e)=>match uv P T0 n e with | some s=>if s.width=P.cellsOf e∧0<s.width∧1≤P.bytesOf e then some (.bc s) else none | none=>none
  | some (.struct cr)=>match zn P (uv P T0 n) 0 cr.toList with | some s=>if s.width=P.cellsOf t then some s else none | none=>none
  | _=>none
section
variable {H:Type} {enc:TypeId×Value→H} {P:Program} {w:World} {base:Nat} {spare:Nat→Bool} {held:Bool} {Q:List V→Prop} {T0:TypeId}
theorem O8 {g:TypeId→Option gr} {cs:List Value} {fu:Nat} (av:∀ t s cs x,g t=some s→DataW.trod enc P w base spare held fu t cs=some x→(∀ n ∈ x.1.weights P t,n≤reachBytes)→∃ l,s.fw Q l∧aT (iw w) l cs) :
  ∀ (cr:List Field) (o:Nat) (s:gr) (xs:List (DataW H×List MemPlace)),zn P g o cr=some s→xs.length=cr.length →
   (∀ (i:Nat) (f:Field),cr[i]?=some f→DataW.trod enc P w base spare held fu f.type ((cs.drop f.offset).take (P.cellsOf f.type))=xs[i]?)→(∀ n ∈ DataW.weightsEach P (cr.map (·.type)) (xs.map (·.1)),n≤reachBytes)→∃ l,s.fw Q l∧aT (iw w) l ((cs.drop o).take s.width)
 | [],o,s,xs,U,_,_,_=>by
  simp [zn] at U
  subst U
  exact ⟨[],rfl,by simpa [gr.width] using aT.nil _⟩
 | f::cr,o,s,xs,U,az,ag,ak=>by
  unfold zn at U
  split at U
  case isFalse=>cases U
  rename_i aR
  split at U
  case h_2=>cases U
  rename_i s1 s2 h1 aa
  split at U
  case isFalse=>cases U
  rename_i hw
  obtain rfl:=Option.some.inj U
  cases xs with
  | nil=>simp at az
  | cons x xs=>
   have wB:=ag 0 f rfl
   obtain ⟨ey,f1,cg⟩:=av _ _ _ _ h1 wB (fun n aG=>ak n (by simp only [List.map_cons,DataW.weightsEach,List.mem_append];exact .inl aG))
   obtain ⟨dm,f2,cZ⟩:=O8 av cr _ s2 xs aa (by simpa using az) (fun i bI aq=>ag (i+1) bI (by simpa using aq)) (fun n aG=>ak n (by simp only [List.map_cons,DataW.weightsEach,List.mem_append];exact .inr aG))
   refine ⟨ey++dm,⟨ey,dm,rfl,f1,f2⟩,?_⟩
   have:=cg.append cZ
   rw [aR,←hw] at this
   have e:((cs.drop o).take s1.width)++((cs.drop (o+s1.width)).take s2.width)=(cs.drop o).take (s1.width+s2.width):=by
    rw [List.take_add,List.drop_drop]
   rw [e] at this
   exact this
theorem Kv:∀ (n:Nat) (t:TypeId) (s:gr) (fuel:Nat) (cs:List Value) (x:DataW H×List MemPlace),(∀ k,k≤fuel→∀ cs x,DataW.trod enc P w base spare held k T0 cs=some x→(∀ n ∈ x.1.weights P T0,n≤reachBytes)→∃ l,Q l∧l.length=P.cellsOf T0∧aT (iw w) l cs)→uv P T0 n t=some s→DataW.trod enc P w base spare held fuel t cs=some x→(∀ n ∈ x.1.weights P t,n≤reachBytes)→∃ l,s.fw Q l∧aT (iw w) l cs
 | 0,_,_,_,_,_,_,U,_,_=>by simp [uv] at U
 | n+1,t,s,fuel,cs,x,cX,U,h,bM=>by
  unfold uv at U
  by_cases bq:t=T0
  ·rw [if_pos bq] at U
   obtain rfl:=Option.some.inj U
   subst bq
   obtain ⟨l,h1,aa,aC⟩:=cX fuel (Nat.le_refl _) cs x h bM
   exact ⟨l,⟨h1,aa⟩,aC⟩
  rw [if_neg bq] at U
  split at U
  ·rename_i hu
   obtain rfl:=Option.some.inj U
   obtain ⟨b,rfl,_⟩:=DataW.trod_bool hu h
   exact ⟨[.bool b],⟨b,rfl⟩,.cons (.bool b) (.nil _)⟩
  ·rename_i k hu
   obtain rfl:=Option.some.inj U
   obtain ⟨m,rfl,_,hw⟩:=DataW.trod_int hu h
   exact ⟨[.int k m],⟨m,rfl,hw⟩,.cons (.int k m) (.nil _)⟩
  ·rename_i hu
   obtain rfl:=Option.some.inj U
   obtain ⟨b,rfl,_⟩:=DataW.trod_string hu h
   exact ⟨[.string b],⟨b,rfl⟩,.cons (.string b) (.nil _)⟩
  ·rename_i e hu
   split at U
   case h_2=>cases U
   rename_i s1 eZ
   split at U
   case isFalse=>cases U
   rename_i hw
   obtain rfl:=Option.some.inj U
   rcases DataW.trod_slice hu h with ⟨rfl,_⟩ | ⟨a,len,cap,elems,rest,m,Mh,rfl,oH,_,iL,_,ql,me,_⟩
   ·exact ⟨[.ai 0 []],⟨[],rfl,by decide,by simp⟩,.cons (.eU none 0 (by simp)) (.nil _)⟩
   ·rcases Nat.eq_zero_or_pos len with h0 | dy
    ·subst h0
     exact ⟨[.ai 0 []],⟨[],rfl,by decide,by simp⟩,.cons (.eU (some a) cap (by simp)) (.nil _)⟩
    ·have each:∀ i,i<len→∃ l:List V,s1.fw Q l∧∃ ci:List Value,aT (iw w) l ci∧∀ j,j<s1.width→w.cell? ((a.add (i * s1.width)).add j)=ci[j]?∧j<ci.length:=fun i hi=>by
      have h1:=me i hi
      have aa:∃ y,elems[i]?=some y:=⟨_,List.getElem?_eq_getElem (by omega)⟩
      obtain ⟨y,bd⟩:=aa
      rw [bd,Option.bind_eq_some_iff] at h1
      obtain ⟨ci,hv,ht⟩:=h1
      obtain ⟨l,f1,cg⟩:=Kv n e s1 m ci y (fun k hk=>cX k (by omega)) eZ ht (fun n aG=>bM n (by
       rw [oH]
       simp only [DataW.weights,hu]
       exact List.mem_cons_of_mem _ (List.mem_append_left _ (OY (List.mem_map.2 ⟨y,List.mem_of_getElem? bd,rfl⟩) aG))))
      rw [←hw.1] at hv
      obtain ⟨g1,g2⟩:=pu hv
      exact ⟨l,f1,ci,cg,fun j aS=>⟨g2 j aS,by omega⟩⟩
     obtain ⟨es,rb,lp⟩:=Ke len each
     have ej:∀ e ∈ es,s1.fw Q e:=fun e he=>by
      obtain ⟨i,hi⟩:=List.getElem?_of_mem he
      exact (lp i e hi).1
     have hlen:∀ e ∈ es,e.length=s1.width:=fun e he=>gr.lu (ej e he)
     obtain ⟨b,off,sp⟩:=a
     have mB:∃ v,w.cell? ⟨b,off,sp⟩=some v:=by
      obtain ⟨_,ci,_,au⟩:=(lp 0 es[0] (List.getElem?_eq_getElem (by omega)))
      obtain ⟨cn,cO⟩:=au 0 hw.2.1
      rw [Nat.zero_mul] at cn
      simp only [Addr.add,if_true] at cn
      exact ⟨_,cn.trans (List.getElem?_eq_getElem cO)⟩
     obtain ⟨v0,kj⟩:=mB
     have ak:∃ arr hY fl,w.heap[b]?=some (.cells arr hY fl)∧sp=none:=by
      unfold World.cell? at kj
      split at kj
      ·rename_i c hY fl ad
       refine ⟨c,hY,fl,ad,?_⟩
       cases sp with
       | none=>rfl
       | some _=>simp at kj
      ·cases kj
     obtain ⟨arr,hY,fl,ak,rfl⟩:=ak
     have s5:∀ m,w.cell? (Addr.add ⟨b,off,none⟩ m)=arr[off+m]?:=fun m=>by
      rw [Addr.add_mid]
      simp [World.cell?,ak]
     have pt:∀ i j,j<s1.width→w.cell? ((Addr.add ⟨b,off,none⟩ (i * s1.width)).add j)=arr[off+(i * s1.width+j)]?:=fun i j _=>by
      rw [Addr.add_mid,Addr.add_mid]
      simp [World.cell?,ak,Nat.add_assoc]
     have bf:es.length<2 ^ 47:=by
      have h0:=bM ((elems.length+rest.length) * P.bytesOf e) (by rw [oH];simp [DataW.weights,hu])
      have h1:=Nat.le_trans (Nat.le_mul_of_pos_right _ hw.2.2) h0
      have aa:=reachBytes_lt
      omega
     refine ⟨[.ai es.length es.flatten],⟨es,rfl,bf,ej⟩,.cons ?_ (.nil _)⟩
     rw [rb]
     refine .ai off len cap (Ge ak) iL ?_ fun k v v' h1 aa=>?_
     ·rw [Kg hlen,rb]
      obtain ⟨_,ci,_,au⟩:=(lp (len - 1) es[len - 1] (List.getElem?_eq_getElem (by omega)))
      obtain ⟨cn,cO⟩:=au (s1.width - 1) (by omega)
      rw [pt _ _ (by omega),List.getElem?_eq_getElem cO] at cn
      have fg:=(Array.getElem?_eq_some_iff.1 cn).1
      have:(len - 1) * s1.width+s1.width=len * s1.width:=by
       rw [←Nat.succ_mul];congr 1;omega
      omega
     ·obtain ⟨aw,g1,g2⟩:=Kf hw.2.1 hlen h1
      obtain ⟨_,ci,aH,au⟩:=lp _ aw g1
      have aS:k % s1.width<s1.width:=Nat.mod_lt _ hw.2.1
      obtain ⟨cn,cO⟩:=au _ aS
      rw [pt _ _ aS,show k / s1.width * s1.width+k % s1.width=k by rw [Nat.mul_comm];exact Nat.div_add_mod k s1.width,aa] at cn
      exact aH.2 _ _ _ g2 cn.symm
  ·rename_i cr hu
   split at U
   case h_2=>cases U
   rename_i s1 eZ
   split at U
   case isFalse=>cases U
   rename_i hw
   obtain rfl:=Option.some.inj U
   obtain ⟨xs,m,Mh,oH,cw,oG,ag⟩:=DataW.trod_struct hu h
   obtain ⟨l,f1,cg⟩:=O8 (fu:=m) (fun t s cs x h1 aa aC=>Kv n t s m cs x (fun k hk=>cX k (by omega)) h1 aa aC) cr.toList 0 s1 xs eZ (by simpa using oG) (fun i f aq=>ag i f (by simpa using aq)) (fun n aG=>bM n (by rw [oH];simp only [DataW.weights,hu];exact aG))
   rw [List.drop_zero,hw,←cw,List.take_length] at cg
   exact ⟨l,f1,cg⟩
  ·cases U
theorem agM {n:Nat} {cr:Array Field} {s1:gr} (hu:P.underlying T0=some (.struct cr)) (eZ:zn P (uv P T0 n) 0 cr.toList=some s1) (hw:s1.width=P.cellsOf T0) (cX:∀ l,s1.fw Q l→Q l) :
  ∀ (fuel:Nat) (cs:List Value) (x:DataW H×List MemPlace),DataW.trod enc P w base spare held fuel T0 cs=some x→(∀ n ∈ x.1.weights P T0,n≤reachBytes)→∃ l,Q l∧l.length=P.cellsOf T0∧aT (iw w) l cs:=by
 intro fuel
 induction fuel using Nat.strongRecOn with
 | _ fuel ih=>
  intro cs x h bM
  obtain ⟨xs,m,Mh,oH,cw,oG,ag⟩:=DataW.trod_struct hu h
  obtain ⟨l,f1,cg⟩:=O8 (Q:=Q) (fu:=m) (fun t s cs x h1 aa aC=>Kv (Q:=Q) n t s m cs x (fun k hk=>ih k (by omega)) h1 aa aC) cr.toList 0 s1 xs eZ (by simpa using oG) (fun i f aq=>ag i f (by simpa using aq)) (fun n aG=>bM n (by rw [oH];simp only [DataW.weights,hu];exact aG))
  rw [List.drop_zero,hw,←cw,List.take_length] at cg
  exact ⟨l,cX l f1,by rw [gr.lu f1,hw],cg⟩
theorem T7 {n n':Nat} {cr:Array Field} {s1:gr} (hu:P.underlying T0=some (.struct cr)) (eZ:zn P (uv P T0 n) 0 cr.toList=some s1) (hw:s1.width=P.cellsOf T0) (cX:∀ l,s1.fw Q l→Q l)
  {t:TypeId} {s:gr} (U:uv P T0 n' t=some s) {fuel:Nat} {cs:List Value} {x:DataW H×List MemPlace} (h:DataW.trod enc P w base spare held fuel t cs=some x) (bM:∀ n ∈ x.1.weights P t,n≤reachBytes):∃ l,s.fw Q l∧aT (iw w) l cs :=
 Kv n' t s fuel cs x (fun k _ cs x h bM=>agM hu eZ hw cX k cs x h bM) U h bM
end
def T8 (P:Program) (g:FuncId) (args:List V) (h:I) (R:I→Prop):Prop :=
 ∀ (ρ:Ren) (B:Nat) (aK w:World) (args':Array Value),aQ ρ B aK h w→aT ρ args args'.toList →
  CallsD P g args' .returning w fun e sv w'=>e=.returned (.tuple #[])∧sv=.returning∧∃ (ρ':Ren) (h':I),aQ ρ' B aK h' w'∧ρ.le ρ'∧R h'
def T9 (P:Program) (g:FuncId) (args:List V) (h:I) (R:I→Prop):Prop :=
 ∀ (ρ:Ren) (B:Nat) (aK w:World) (args':Array Value) (t:TypeId) (v:Value),aQ ρ B aK h w→aT ρ args args'.toList →
  CallsD P g args' (.panicking [{ v:=.iface t v,recovered:=false }]) w fun e sv w'=>e=.returned (.tuple #[])∧sv=.panicking [{ v:=.iface t v,recovered:=true }]∧∃ (ρ':Ren) (h':I),aQ ρ' B aK h' w'∧ρ.le ρ'∧R h'
def Az (P:Program) (fn:Func) (R:V→I→Prop) (f:ah) (h:I):Prop:=match pS P fn.results.toList f h with | some r=>R r h | none=>False
theorem ae.Gz {P:Program} {bt g:FuncId} {fn:Func} {A A2 C:Code} {Mi:Nat} {t x y:Tmp} {Ua Ub:TypeId} {O9 Pa} {Pb Pc} {Uc:Array TypeId} (nH:P.funcs[bt]?=some fn)
  (ak:fn.body=some (.seq A (.seq A2 (.seq (.region Mi #[⟨some t,.makeFunc (.func g) #[] #[.tmp x,.tmp y],Ua,O9,Pb,none⟩,⟨none,.defer ⟨.value (.tmp t),#[],Uc⟩,Ub,Pa,Pc,none⟩] false) C))))
  (bq:t<fn.ntmps) (gm:bT P g=true) {args:List V} (hlen:args.length≤fn.ntmps) {h:I} {R:V→I→Prop} {M:ah→I→Prop} {KR KP:V→V→ah→I→Prop}
  (h1:aX P fn.ntmps A (fun z f h=>z=.normal∧aX P fn.ntmps A2 (fun z f h=>(z=.ret∧Az P fn R f h)∨(z=.normal∧M f h)) f h) (iP args) h)
  (aC:∀ f h,M f h→aX P fn.ntmps C (fun z bI h'=>((z=.ret∨z=.normal)∧KR (f x) (f y) bI h')∨(z=.panic∧KP (f x) (f y) bI h')) (f.put (some t) .top) h)
  (eR:∀ dV eC bI h',KR dV eC bI h'→T8 P g [dV,eC] h' (Az P fn R bI))
  (lP:∀ dV eC bI h',KP dV eC bI h'→T9 P g [dV,eC] h' (Az P fn R bI)):ae P bt args h R:=by
 intro ρ B aK w args' hw aO
 refine calls_of_wp_defers nH ak ?_
 have fin:∀ (ρ':Ren) (f:ah) (h':I) (hB:Act) (w':World),Ren.le { ρ with dfr:=[] } { ρ' with dfr:=[] }→aQ ρ' B aK h' w'→dS ρ' fn.ntmps f hB→Az P fn R f h' →
   ∃ v,(results fn hB.tmps).run P w'=.ok v w'∧((∃ (ρ':Ren) (r:V) (cm:Value) (h':I),Ending.returned v=.returned cm∧aA ρ' r cm∧aQ ρ' B aK h' w'∧ρ.le ρ'∧R r h') ∨
    (∃ (ρ':Ren) (iu:List PanicEntry) (h':I),Ending.returned v=.panicked iu∧Ai iu∧aQ ρ' B aK h' w'∧ρ.le ρ'∧False)):=by
  intro ρ' f h' hB w' az bL b4 cX
  unfold Az at cX
  cases oD:pS P fn.results.toList f h' with
  | none=>simp [oD] at cX
  | some r=>
  simp only [oD] at cX
  obtain ⟨cm,cn,cO⟩:=Oz bL b4 oD
  exact ⟨cm,cn,.inl ⟨{ ρ' with dfr:=ρ.dfr },r,cm,h',rfl,cO.dfr ρ.dfr,bL.dfr ρ.dfr,⟨az.ren,az.frz,rfl⟩,cX⟩⟩
 apply wp_seq
 refine wp_mono (h1 { ρ with dfr:=[] } B aK _ w (hw.dfr []) (OA (aO.dfr []) hlen rfl)) ?_
 rintro e cG c2 ⟨ρ1,z,f1,rf,ag,eO,tq,ie,rfl,aa⟩
 cases e<;>simp only [pR] at ag
 show (Code.seq A2 _).wp P _ cG c2
 apply wp_seq
 refine wp_mono (aa ρ1 B aK cG c2 eO tq) ?_
 rintro e a2 bX ⟨ρ2,z,f2,fN,ag,iN,hK,gp,bK⟩
 have dm:Ren.le { ρ with dfr:=[] } { ρ2 with dfr:=[] }:=⟨(ie.trans gp).ren,(ie.trans gp).frz,rfl⟩
 rcases bK with ⟨rfl,bK⟩ | ⟨rfl,bK⟩
 ·cases e<;>simp only [pR] at ag
  show Leaves P fn a2.tmps _ a2.defers .returning bX
  rw [show a2.defers=[] from (hK.defers.trans gp.dfr).trans ie.dfr]
  exact fin ρ2 f2 fN a2 bX dm iN hK bK
 ·cases e<;>simp only [pR] at ag
  show (Code.seq (.region Mi _ false) C).wp P _ a2 bX
  apply wp_seq
  apply wp_region
  have bf:=hK.size
  have Ud:a2.defers=[]:=(hK.defers.trans gp.dfr).trans ie.dfr
  have fv:=aC f2 fN bK
  obtain ⟨dV,ve⟩:∃ v,v=a2.tmps.getD x undef:=⟨_,rfl⟩
  obtain ⟨eC,GA⟩:∃ v,v=a2.tmps.getD y undef:=⟨_,rfl⟩
  have rx:=hK.tmps x
  have Ue:=hK.tmps y
  rw [←ve] at rx
  rw [←GA] at Ue
  have oZ:=hK.put (v:=.top) (v':=.func (.func g) #[] #[dV,eC]) (.top _) (some t) (by simpa [sw] using bq)
  let d:Deferred:={ target:=.fn (.func g) #[dV,eC],args:=#[] }
  have l3:C.wp P (bodyPostD P fn fun e w'=>(∃ (ρ':Ren) (r:V) (cm:Value) (h':I),e=.returned cm∧aA ρ' r cm∧aQ ρ' B aK h' w'∧ρ.le ρ'∧R r h') ∨
    (∃ (ρ':Ren) (iu:List PanicEntry) (h':I),e=.panicked iu∧Ai iu∧aQ ρ' B aK h' w'∧ρ.le ρ'∧False)) { tmps:=(a2.put (some t) (.func (.func g) #[] #[dV,eC])).tmps,defers:=[d] } bX:=by
   have iv:dS { ρ2 with dfr:=[d] } fn.ntmps (f2.put (some t) .top) { tmps:=(a2.put (some t) (.func (.func g) #[] #[dV,eC])).tmps,defers:=[d] } :=
    ⟨fun k=>(oZ.tmps k).dfr [d],oZ.size,rfl⟩
   refine wp_mono (fv { ρ2 with dfr:=[d] } B aK _ bX (iN.dfr [d]) iv) ?_
   rintro e a3 k8 ⟨ρ3,z,f3,Uf,ag,yt,tr,pw,GB⟩
   have DF:a3.defers=[d]:=tr.defers.trans pw.dfr
   have GC:ρ2.le { ρ3 with dfr:=ρ2.dfr }:=pw.pP
   have Ey:aT { ρ3 with dfr:=ρ2.dfr } [f2 x,f2 y] #[dV,eC].toList:=aT.cons (rx.mono GC) (aT.cons (Ue.mono GC) (aT.nil _))
   have vE:Ren.le { ρ with dfr:=[] } { ρ3 with dfr:=[] }:=⟨fun i q ad=>pw.ren i q (dm.ren i q ad),fun i q ad=>pw.frz i q (dm.frz i q ad),rfl⟩
   have hinv:(invoke d.target d.args).run P k8=.ok (.enter g #[dV,eC]) k8:=by
    unfold bT at gm
    cases av:P.funcs[g]? with
    | none=>simp [av] at gm
    | some aqd=>
     simp only [av,Bool.and_eq_true,bne_iff_ne,ne_eq] at gm
     simp [d,invoke,callFunc,av,gm.1,gm.2,Option.isSome_iff_ne_none.1 gm.1]
   rcases GB with ⟨GB,hk⟩ | ⟨rfl,hk⟩
   ·have Pd:Leaves P fn a3.tmps (fun e w'=>(∃ (ρ':Ren) (r:V) (cm:Value) (h':I),e=.returned cm∧aA ρ' r cm∧aQ ρ' B aK h' w'∧ρ.le ρ'∧R r h') ∨
      (∃ (ρ':Ren) (iu:List PanicEntry) (h':I),e=.panicked iu∧Ai iu∧aQ ρ' B aK h' w'∧ρ.le ρ'∧False)) a3.defers .returning k8:=by
     rw [DF]
     refine ⟨by simp,_,_,g,#[dV,eC],rfl,hinv,?_⟩
     refine ((eR _ _ _ _ hk) { ρ3 with dfr:=ρ2.dfr } B aK k8 #[dV,eC] (yt.dfr ρ2.dfr) Ey).mono ?_
     rintro e sv wI ⟨rfl,rfl,ρ4,bz,sd,nO,he⟩
     have GD:dS { ρ4 with dfr:=[d] } fn.ntmps f3 a3:=⟨fun k=>aA.vQ (ρ:=ρ3) (ρ':={ ρ4 with dfr:=[d] }) (fun i q ad=>nO.ren i q ad) (fun i q ad=>nO.frz i q ad) (tr.tmps k),tr.size,DF⟩
     exact fin { ρ4 with dfr:=[d] } f3 bz a3 wI ⟨fun i q ad=>nO.ren i q (vE.ren i q ad),fun i q ad=>nO.frz i q (vE.frz i q ad),rfl⟩ (sd.dfr [d]) GD he
    rcases GB with rfl | rfl<;>cases e<;>simp only [pR] at ag<;>exact Pd
   ·cases e with
    | panic iu=>
     obtain ⟨Ug,cp,rfl⟩:=ag
     show Leaves P fn a3.tmps _ a3.defers (.panicking _) k8
     rw [DF]
     refine ⟨by simp,_,_,g,#[dV,eC],rfl,hinv,?_⟩
     refine ((lP _ _ _ _ hk) { ρ3 with dfr:=ρ2.dfr } B aK k8 #[dV,eC] Ug cp (yt.dfr ρ2.dfr) Ey).mono ?_
     rintro e sv wI ⟨rfl,rfl,ρ4,bz,sd,nO,he⟩
     have GD:dS { ρ4 with dfr:=[d] } fn.ntmps f3 a3:=⟨fun k=>aA.vQ (ρ:=ρ3) (ρ':={ ρ4 with dfr:=[d] }) (fun i q ad=>nO.ren i q ad) (fun i q ad=>nO.frz i q ad) (tr.tmps k),tr.size,DF⟩
     show Leaves P fn a3.tmps _ [] (settle _) wI
     simp only [settle,List.dropWhile_nil]
     exact fin { ρ4 with dfr:=[d] } f3 bz a3 wI ⟨fun i q ad=>nO.ren i q (vE.ren i q ad),fun i q ad=>nO.frz i q (vE.frz i q ad),rfl⟩ (sd.dfr [d]) GD he
    | _=>simp only [pR] at ag
  have aw:a2.eval (.tmp x)=dV:=by simp [Act.eval,ve]
  have aW:a2.eval (.tmp y)=eC:=by simp [Act.eval,GA]
  simp [wpOps,go_sem]
  refine .inl (.inl ?_)
  rw [if_pos (show t<a2.tmps.size from bf.symm ▸ bq)]
  subst ve GA
  simpa [Act.put,Ud,d,go_sem,Oper.upon] using l3
section
variable {h:I} {a b c d o:bb}
theorem agN:(((h.push a).push b).push c).get h.n=a:=by simp [tg,eI];intro ab;omega
theorem agO:(((h.push a).push b).push c).get (h.n+1+1)=c:=by simp [tg,eI]
theorem agP:((((h.push a).push b).push c).push d).get (h.n+1+1)=c:=by
 simp only [tg,eI]
 rw [if_neg (by omega),if_pos trivial]
theorem agQ:(((h.push a).push b).push c).set (h.n+1+1) o=((h.push a).push b).push o:=by
 rw [show h.n+1+1=((h.push a).push b).n from rfl,set_push]
end
def Kw (g:Nat→Option (List V)):I:={ n:=0,get:=fun _=>.dead,glob:=g }
def GF (g:Nat→Option (List V)) (w:World):Prop:=∀ k cs,g k=some cs→∃ arr e fl,w.heap[k]?=some (.cells arr e fl)∧dH (iw w) cs arr
theorem agR {g:Nat→Option (List V)} {w:World} (av:GF g w):aQ (iw w) w.heap.size w (Kw g) w:=by
 have h0:=pp w
 refine ⟨⟨h0.heap.kg,fun i j b c j6 h=>by simp [Kw] at h,fun _=>trivial,h0.heap.frz,fun k cs hk=>?_,Nat.le_refl _⟩,gD.refl _ _⟩
 obtain ⟨arr,e,fl,hw,aH⟩:=av k cs hk
 exact ⟨arr,Ge hw,aH⟩
theorem ae.GG {P:Program} {bt:FuncId} {args:List V} {v:V} {a:Value} {g:Nat→Option (List V)} (au:ae P bt args (Kw g) fun r _=>r=v) (aD:lN v=some a) {w:World} (av:GF g w)
  {args':Array Value} (aO:aT (iw w) args args'.toList):Calls P bt args' w fun e w'=>e=.returned a∧Below w.heap.size w w' :=
 (au (iw w) w.heap.size w w args' (agR av) aO).mono fun e w' ab=>by
  rcases ab with ⟨ρ',r,cm,h',he,wk,hw,_,eR⟩ | ⟨_,_,_,_,_,_,_,bF⟩
  ·subst eR
   rw [vW wk aD] at he
   exact ⟨he,hw.below.below⟩
  ·exact bF.elim
theorem Uh {P:Program} {w:World} {name:String} {k:IntKind} {zs:List Int} {g:Nat} (av:P.globalNamed name=some g) (h:Lib.TabIs P w name k zs):∃ arr e fl,w.heap[g]?=some (.cells arr e fl)∧dH (iw w) (zs.map (V.int k)) arr:=by
 unfold Lib.TabIs World.var? at h
 rw [av] at h
 simp only [Option.bind_some] at h
 split at h
 ·rename_i cs e fl ad
  obtain rfl:=Option.some.inj h
  refine ⟨_,e,fl,ad,by simp,fun i v v' h1 aa=>?_⟩
  simp only [List.getElem?_map,Option.map_eq_some_iff,List.getElem?_toArray] at h1 aa
  obtain ⟨n,aG,rfl⟩:=h1
  obtain ⟨m,hm,rfl⟩:=aa
  rw [aG] at hm
  cases hm
  exact .int k n
 ·cases h
section
variable {H:Type} {enc:TypeId×Value→H} {P:Program} {w:World} {base:Nat} {spare:Nat→Bool} {held:Bool} {Q:List V→Prop} {T0:TypeId}
theorem aqe {n n':Nat} {cr:Array Field} {s1:gr} {t:TypeId} {s:gr} {xs:Array Value} {d:DataW H} {ps:List MemPlace} (hu:P.underlying T0=some (.struct cr)) (eZ:zn P (uv P T0 n) 0 cr.toList=some s1) (hw:s1.width=P.cellsOf T0) (cX:∀ l,s1.fw Q l→Q l)
  (U:uv P T0 n' t=some s) (bM:∀ n ∈ d.weights P t,n≤reachBytes) (h:DataW.Trod enc P w base spare held t (.agg xs) d ps):∃ l:List V,s.fw Q l∧aA (iw w) (.agg l) (.agg xs):=by
 obtain ⟨fuel,aq⟩:=h
 obtain ⟨l,h1,aa⟩:=T7 (Q:=Q) hu eZ hw cX U aq bM
 exact ⟨l,h1,aa.iq.agg⟩
theorem agS {n n':Nat} {cr:Array Field} {s1:gr} {t e:TypeId} {s:gr} {a:Option Addr} {len cap:Nat} {d:DataW H} {ps:List MemPlace} (GH:P.underlying t=some (.slice e)) (hu:P.underlying T0=some (.struct cr)) (eZ:zn P (uv P T0 n) 0 cr.toList=some s1) (eO:s1.width=P.cellsOf T0) (cX:∀ l,s1.fw Q l→Q l)
  (U:uv P T0 n' e=some s) (hw:s.width=P.cellsOf e∧0<s.width∧1≤P.bytesOf e) (bM:∀ n ∈ d.weights P t,n≤reachBytes) (h:DataW.Trod enc P w base spare held t (.slice a len cap) d ps) :
  ∃ es:List (List V),(∀ x ∈ es,s.fw Q x)∧aA (iw w) (.ai es.length es.flatten) (.slice a len cap)∧es.length<2 ^ 47:=by
 obtain ⟨fuel,aq⟩:=h
 have bO:t≠T0:=fun ab=>by rw [ab,hu] at GH;cases GH
 obtain ⟨l,⟨es,rfl,aG,mE⟩,aH⟩:=T7 (Q:=Q) (n':=n'+1) (s:=.bc s) hu eZ eO cX (by simp only [uv,if_neg bO,GH,U,if_pos hw]) aq bM
 exact ⟨es,mE,aH.2 0 _ _ rfl rfl,aG⟩
end
section
variable {P:Program} {t:TypeId}
end
def jH (v v2:V):Prop:=∀ ρ v',aA ρ v v'→aA ρ v2 v'
def jI (l dm:List V):Prop:=∀ ρ b0,aT ρ l b0→aT ρ dm b0
theorem jH.refl (v:V):jH v v:=fun _ _ h=>h
theorem jI.refl (l:List V):jI l l:=fun _ _ h=>h
theorem jI.cons {v v2:V} {l dm:List V} (a:jH v v2) (b:jI l dm):jI (v::l) (v2::dm):=fun ρ b0 h=>by
 obtain ⟨v',im,rfl,h1,aa⟩:=h.di
 exact aT.cons (a ρ v' h1) (b ρ im aa)
theorem jI.append {a a2 b bW:List V} (aO:jI a a2) (az:a.length=a2.length) (ak:jI b bW):jI (a++b) (a2++bW):=fun ρ b0 h=>by
 have h1:=h.take a.length
 have aa:=h.drop a.length
 rw [List.take_left] at h1
 rw [List.drop_left] at aa
 have:=(aO ρ _ h1).append (ak ρ _ aa)
 rwa [List.take_append_drop] at this
theorem jH.an:jH .an (.ai 0 []):=fun ρ v' h=>by cases h;exact .eU none 0 (by simp)
theorem jH.ai {n:Nat} {cs tt:List V} (h:jI cs tt) (az:cs.length=tt.length):jH (.ai n cs) (.ai n tt):=fun ρ v' aD=>by
 cases aD with
 | ai o n cap ak aG aR ag=>
  rename_i b arr
  have hW:aT ρ cs ((arr.toList.drop o).take cs.length):=by
   refine ⟨by simp;omega,fun k v v' h1 aa=>?_⟩
   rw [List.getElem?_take] at aa
   split at aa
   ·rw [List.getElem?_drop] at aa
    exact ag k v v' h1 (by simpa using aa)
   ·cases aa
  have aa:=h ρ _ hW
  refine .ai o n cap ak aG (by omega) fun k v v' aC bz=>?_
  have hk:k<cs.length:=by rw [az];exact (List.getElem?_eq_some_iff.1 aC).1
  refine aa.2 k v v' aC ?_
  rw [List.getElem?_take,if_pos hk,List.getElem?_drop]
  simpa using bz
 | eU a c aO=>
  have:tt=[]:=List.eq_nil_of_length_eq_zero (by simpa using az.symm)
  subst this
  exact .eU a c aO
theorem jH.cast {v v2:V} (a:jH v v2) (h:I):aM v h v2 h:=fun ρ B aK w cm hw aD=>⟨ρ,Ren.le.refl ρ,hw,a ρ cm aD⟩
theorem jH.agg {l dm:List V} (h:jI l dm):jH (.agg l) (.agg dm):=fun ρ v' aD=>by
 cases aD with
 | agg U ag=>exact (h ρ _ (dH.list ⟨U,ag⟩)).iq.agg
theorem jH.tuple {l dm:List V} (h:jI l dm):jH (.tuple l) (.tuple dm):=fun ρ v' aD=>by
 cases aD with
 | tuple U ag=>exact (h ρ _ (dH.list ⟨U,ag⟩)).iq.tuple
section
variable {P:Program} {t:TypeId} {T:ln}
theorem zo {h:I} {e:TypeId} {sz:Nat} {v:V} {cs:List V} (hk:eH P t=some 1) (aR:Own h e sz v cs) {n:Nat} (aG:cs.length=n * sz) (dy:0<sz) (b5:cs.all (·.one)=true):fm P sz t v h=some (n,cs):=by
 obtain ⟨d,hu,a7⟩:=Al hk
 cases d<;>simp [xE] at a7
 rcases aR with ⟨aD,rfl⟩ | ⟨i,len,cap,c,ex,rfl,hi,av,hlen,bJ,dj⟩
 ·have h0:n=0:=by
   have:n * sz=0:=by simpa using aG.symm
   rcases Nat.mul_eq_zero.1 this with h | h<;>omega
  subst h0
  rcases aD with rfl | rfl<;>simp only [fm,hu]
 ·have h1:len=n:=Nat.eq_of_mul_eq_mul_right dy (hlen.symm.trans aG)
  subst h1
  have cw:len * sz≤c.length:=by
   have:=congrArg List.length bJ
   rw [List.length_take,hlen] at this
   omega
  simp only [fm,hu,av,List.drop_zero,Nat.zero_add]
  rw [bJ,if_pos ⟨cw,b5⟩]
end
section
variable {H:Type} {enc:TypeId×Value→H} {P:Program} {w:World} {base:Nat} {spare:Nat→Bool} {held:Bool}
theorem aqf {r:Reach} {t e:TypeId} {n:Nat} {v:Value} {W:World} (bq:P.underlying t=some (.array n e)) (h:Value.okWide P W r base t v):∃ cs,v=.agg cs∧cs.size=P.cellsOf t:=by
 simp only [Value.okWide,bq] at h
 obtain ⟨cs,h1,aa,_⟩:=h
 exact ⟨cs,h1,aa⟩
end
section
variable {M:Nat→Prop} {bu:Operand→V} {t s:TypeId} {x y z:Operand} {k:Nat}
theorem agT {h:I} {i:Nat} {o:bb}:J h (h.set i o) (fun x=>x=i)=True:=eq_true (J.set h i o)
theorem Pe {n:Nat}:(n+1+1=n)=False:=eq_false (by omega)
theorem Pf {n:Nat}:(n+1+1+1=n)=False:=eq_false (by omega)
theorem Pg {n:Nat}:(n+1+1+1+1=n)=False:=eq_false (by omega)
theorem agU {n:Nat}:(n=n+1)=False:=eq_false (by omega)
theorem agV {n:Nat}:(n=n+1+1)=False:=eq_false (by omega)
theorem NE {n:Nat}:(n=n+1+1+1)=False:=eq_false (by omega)
def uw (M:Nat→Prop) (v:V):Prop:=l1 M (iY v)
theorem agW:l1 M (pv bu (.move x))=True:=eq_true (by intro i hi;cases hi)
theorem agX:l1 M (pv bu (.assign x))=True:=eq_true (by intro i hi;cases hi)
theorem agY:l1 M (pv bu (.pick x y z))=True:=eq_true (by intro i hi;cases hi)
theorem agZ {ps:Array (Nat×Operand)}:l1 M (pv bu (.build t ps))=True:=eq_true (by intro i hi;cases hi)
theorem v6:l1 M (pv bu (.nilCheck x))=True:=eq_true (by intro i hi;cases hi)
theorem ag0 {op:BinOp}:l1 M (pv bu (.binOp op t x y s))=True:=eq_true (by intro i hi;cases hi)
theorem ag1 {op:UnOp}:l1 M (pv bu (.unOp op t x))=True:=eq_true (by intro i hi;cases hi)
theorem ag2:l1 M (pv bu (.fieldAddr t x k))=True:=eq_true (by intro i hi;cases hi)
theorem ag3:l1 M (pv bu (.indexAddr t x y))=True:=eq_true (by intro i hi;cases hi)
theorem ag4:l1 M (pv bu (.extract x k))=True:=eq_true (by intro i hi;cases hi)
theorem ag5:l1 M (pv bu (.load t x))=uw M (bu x):=rfl
theorem ag6 {i o:Nat}:uw M (.ptr i o)=¬M i:=propext ⟨fun h=>h i rfl,fun h j aS=>by cases aS;exact h⟩
theorem ag7 {i:Nat}:uw M (.map i)=¬M i:=propext ⟨fun h=>h i rfl,fun h j aS=>by cases aS;exact h⟩
theorem ag8 {cs:List V}:uw M (.at cs)=True:=eq_true (by intro i hi;cases hi)
end
section
variable {P:Program} {d:Option Tmp} {K:e1} {f:ah} {h:I}
end
section
variable {P:Program} {t:TypeId} {T:ln}
def pW (h:I) (e:TypeId) (sz:Nat) (i len cap:Nat) (c:List V) (ex:Option Nat) (cs:List V):Prop :=
 i<h.n∧h.get i=.cells c e ex∧cs.length=len * sz∧c.take (len * sz)=cs∧cap<b2∧cap * sz≤c.length∧len≤cap
theorem pW.own {h:I} {e:TypeId} {sz i len cap:Nat} {c cs:List V} {ex:Option Nat} (o:pW h e sz i len cap c ex cs):Own h e sz (.bc i 0 len cap) cs :=
 .inr ⟨i,len,cap,c,ex,rfl,o.1,o.2.1,o.2.2.1,o.2.2.2.1,.inl ⟨o.2.2.2.2.1,o.2.2.2.2.2.1,o.2.2.2.2.2.2⟩⟩
theorem ag9 {h:I} {i len sz:Nat} {c:List V} {e:TypeId} (av:h.get i=.cells c e (some sz)) {ρ:Ren} {B:Nat} {aK w:World} (R:aQ ρ B aK h w) {cm:Value} (aH:aA ρ (.bc i 0 len b2) cm) :
  ∃ C,len≤C∧C<2 ^ 63∧c.length≤C * sz∧aQ ρ B aK (h.set i (.cells (c++List.replicate (C * sz - c.length) .top) e none)) w∧aA ρ (.bc i 0 len C) cm:=by
 obtain ⟨b,bw,hi,az,rfl⟩:=aH.fA
 have lS:=R.heap.obj i
 rw [av] at lS
 obtain ⟨cF,qP,arr,kU,aq,bM,hw,au,eM,bf,wJ⟩:=lS
 rw [hi] at kU
 cases kU
 have lY:fk bw b2=bw:=by simp [fk,b2]
 rw [lY] at az⊢
 have cw:c.length≤bw * sz:=by omega
 refine ⟨bw,az,wJ,cw,R.sx hi (by rw [av];simp) (fun k _=>rfl) (Nat.le_refl _) (gD.refl _ _) ?_,?_⟩
 ·have hlen:(c++List.replicate (bw * sz - c.length) V.top).length=arr.size:=by simp;omega
  refine ⟨b,bw,arr,hi,aq,bM,hw,by omega,?_,by rw [hlen];rfl⟩
  rw [hlen,show arr.toList.take arr.size=arr.toList from by rw [List.take_of_length_le (by simp)]]
  refine ⟨by rw [hlen];simp,fun k v v' h1 aa=>?_⟩
  by_cases hk:k<c.length
  ·rw [List.getElem?_append_left hk] at h1
   exact eM.2 k v v' h1 (by rw [List.getElem?_take,if_pos hk];exact aa)
  ·rw [List.getElem?_append_right (by omega)] at h1
   have:=List.mem_of_getElem? h1
   rw [List.mem_replicate] at this
   rw [this.2]
   exact .top _
 ·have fM:fk bw bw=bw:=by unfold fk;rw [if_pos (show bw<b2 by unfold b2;omega)]
  have:=aA.bc (ρ:=ρ) hi 0 len bw (by rw [fM];exact az)
  rw [fM] at this
  exact this
theorem ae.zp {P:Program} {bt:FuncId} {h:I} {e:TypeId} {sz:Nat} {v:V} {cs rest:List V} {R:V→I→Prop} (aR:Own h e sz v cs) (bf:0<sz)
  (h0:(v=.an∨v=.z0)→cs=[]→ae P bt (v::rest) h R)
  (h1:∀ i len cap c ex h',(v=.bc i 0 len cap∨v=.bc i 0 len b2)→pW h' e sz i len cap c ex cs→cap<2 ^ 63∨v=.bc i 0 len cap→J h h' (·=i)→h'.n=h.n→ae P bt (.bc i 0 len cap::rest) h' R):ae P bt (v::rest) h R:=by
 rcases aR with ⟨aD,cS⟩ | ⟨i,len,cap,c,ex,rfl,hi,av,hlen,bJ,⟨hv,ht,oK⟩ | ⟨rfl,rfl⟩⟩
 ·exact h0 aD cS
 ·exact h1 i len cap c ex h (.inl rfl) ⟨hi,av,hlen,bJ,hv,ht,oK⟩ (.inr rfl) (J.refl _ _) rfl
 ·intro ρ B aK w args' Ex aO
  cases args' with
  | mk l=>
  cases l with
  | nil=>have:=aO.1;simp at this
  | cons a l=>
  have aH:aA ρ (.bc i 0 len b2) a:=aO.2 0 _ _ rfl rfl
  obtain ⟨C,bB,k2,k3,Oi,cZ⟩:=ag9 av Ex aH
  have cw:len * sz≤c.length:=by
   have:=congrArg List.length bJ
   rw [List.length_take,hlen] at this
   omega
  refine h1 i len C _ none _ (.inr rfl) ⟨by rw [jt];exact hi,aP,hlen,?_,by unfold b2;omega,?_,bB⟩ (.inl k2) (J.set _ _ _) (jt) ρ B aK w _ Oi ?_
  ·rw [List.take_append_of_le_length cw,bJ]
  ·simp;omega
  ·refine ⟨by have:=aO.1;simpa using this,fun k v v' cn cO=>?_⟩
   cases k with
   | zero=>cases cn;cases cO;exact cZ
   | succ k=>exact aO.2 (k+1) v v' (by simpa using cn) (by simpa using cO)
theorem Ph {sz:Nat} {kk:IntKind} (U:ek P t=some sz) (dy:0<sz) {h:I} {e:TypeId} {v:V} {cs:List V} (aR:Own h e sz v cs) {k:Nat} (hk:(k+1) * sz≤cs.length) :
  ∃ i,hA P t v (.int kk (k:Int))=some (.ptr i (k * sz))∧aV v=some i∧i<h.n∧(∀ (h':I) (d:Nat),h'.get i=h.get i→d≤sz→∃ r,dB (h'.get i) (k * sz+d)=some (((cs.drop (k * sz)).take sz).drop d++r)) ∧
   ∀ xs:List V,xs.length=sz→xs.all (·.one)=true→∃ ob,bR (some sz) (h.get i) (k * sz) xs=some ob∧Own (h.set i ob) e sz v (lay cs (k * sz) xs)∧J h (h.set i ob) (bl v):=by
 rcases aR with ⟨_,rfl⟩ | ⟨i,len,cap,c,ex,rfl,hi,av,hlen,bJ,dj⟩
 ·have:sz≤(k+1) * sz:=Nat.le_mul_of_pos_left _ (by omega)
  simp at hk;omega
 ·have cw:len * sz≤c.length:=by
   have:=congrArg List.length bJ
   rw [List.length_take,hlen] at this
   omega
  have pk:k<len:=by
   rw [hlen] at hk
   have:=Nat.le_of_mul_le_mul_right hk dy
   omega
  have hmul:k * sz+sz=(k+1) * sz:=by rw [Nat.add_mul];omega
  refine ⟨i,?_,rfl,hi,fun h' d ab a7=>⟨c.drop (k * sz+sz),?_⟩,fun xs ag aR=>⟨.cells (lay c (k * sz) xs) e ex,?_,.inr ⟨i,len,cap,lay c (k * sz) xs,ex,rfl,by rw [jt];exact hi,aP,?_,?_,?_⟩,(J.set h i _).mono fun k hk=>by subst hk;rfl⟩⟩
  ·rw [F9,U,J8,if_pos ⟨by omega,by omega⟩]
   simp
  ·rw [ab,av,F7,if_pos (by omega),←bJ]
   congr 1
   have aw:((c.take (len * sz)).drop (k * sz)).take sz=(c.drop (k * sz)).take sz:=by
    rw [List.drop_take,List.take_take,Nat.min_eq_left]
    have:(k+1) * sz≤len * sz:=Nat.mul_le_mul_right _ pk
    omega
   have aW:=List.take_append_drop (sz - d) (c.drop (k * sz+d))
   rw [List.drop_drop,show k * sz+d+(sz - d)=k * sz+sz by omega] at aW
   rw [aw,List.drop_take,List.drop_drop]
   exact aW.symm
  ·rw [av]
   unfold bR
   simp only
   rw [if_pos ⟨ag,aR,by omega⟩]
  ·rw [pd _ _ _ (by rw [ag,hlen];omega),hlen]
  ·rw [JD _ _ _ _ (by rw [ag];omega) cw,bJ]
  ·rcases dj with ⟨a,b,d⟩ | ⟨a,b⟩
   ·exact .inl ⟨a,by rw [pd _ _ _ (by rw [ag];omega)];exact b,d⟩
   ·exact .inr ⟨a,b⟩
theorem Ui {k:IntKind} {n:Nat}:uh (.int k (n:Int))=some n:=by simp [uh]
theorem Uj (cN:hr P t=some T) {i o len cap:Nat} (au:cap<b2):sB P t (.bc i o len cap)=some (.int .i64 cap):=by
 unfold sB
 rw [(rZ cN).2.2.2.2.2]
 simp only
 rw [if_pos au]
theorem Uk {tn:TypeId} {kn kq:IntKind} (cN:hr P t=some T) (aG:kK P tn=some kn) (dy:0<T.sz) {h:I} {i o len cap n:Nat} {c:List V} {aW:TypeId} {ex:Option Nat} (av:h.get i=.cells c aW ex)
  (h0:0<n) (hu:cap<b2) (au:cap<len+n) (h1:(len+n) * T.ao≤lim) (aa:len+n≤lim) (aq:o+len * T.sz≤c.length) :
  ma P t tn (.bc i o len cap) (.int kq (n:Int)) h=some (.bc h.n 0 (len+n) b2,h.push (.cells ((c.drop o).take (len * T.sz)++made T.zs n) T.e (some T.sz))):=by
 obtain ⟨he,bK,bf,hG,eX,_⟩:=rZ cN
 have oE:∃ k,P.underlying tn=some (.int k):=by
  unfold kK at aG
  split at aG
  ·rename_i k hk;exact ⟨k,hk⟩
  ·cases aG
 obtain ⟨k,oE⟩:=oE
 have dT:fm P T.sz tn (.int kq (n:Int)) h=none:=by unfold fm;rw [oE]
 unfold ma
 simp only [he,bK,bf,hG,if_pos eX,dT]
 unfold Og
 simp only [oE,av]
 rw [if_pos ⟨by omega,hu,by simpa using au,by simpa using h1,by simpa using aa,aq,dy⟩]
 simp
section
variable {sz:Nat} {i o len cap:Nat} {k k2 k3:IntKind}
theorem xQ (U:ek P t=some sz) (hu:cap<b2) {l:Nat} (az:l≤len) (au:len≤cap) :
  iJ P t (.bc i o len cap) (some (.int k (l:Int))) none none=some (.bc i (if cap=l then o else o+l * sz) (len - l) (cap - l)):=by
 obtain ⟨e,gP,bK⟩:=xM U
 unfold iJ
 simp only [gP,bK,Kd,eh,Option.isSome_none,Bool.false_eq_true,false_and,if_false]
 unfold vz
 rw [if_pos hu,if_pos ⟨az,au,Nat.le_refl _⟩]
theorem EI (U:ek P t=some sz) (hu:cap<b2) {m:Nat} (hm:m≤cap) :
  iJ P t (.bc i o len cap) none (some (.int k (m:Int))) none=some (.bc i o m cap):=by
 obtain ⟨e,gP,bK⟩:=xM U
 unfold iJ
 simp only [gP,bK,kG,eh,Ui,Option.isSome_none,Bool.false_eq_true,false_and,if_false]
 unfold vz
 rw [if_pos hu,if_pos ⟨Nat.zero_le _,hm,Nat.le_refl _⟩]
 simp
theorem Ul (U:ek P t=some sz) (hu:cap<b2) {l m:Nat} (az:l≤m) (hm:m≤cap) :
  iJ P t (.bc i o len cap) (some (.int k (l:Int))) (some (.int k2 (m:Int))) none=some (.bc i (if cap=l then o else o+l * sz) (m - l) (cap - l)):=by
 obtain ⟨e,gP,bK⟩:=xM U
 unfold iJ
 simp only [gP,bK,Kd,eh,Ui,Option.isSome_none,Bool.false_eq_true,false_and,if_false]
 unfold vz
 rw [if_pos hu,if_pos ⟨az,hm,Nat.le_refl _⟩]
theorem Um (U:ek P t=some sz) (hu:cap<b2) {l m n:Nat} (az:l≤m) (hm:m≤n) (aG:n≤cap) :
  ∃ v,iJ P t (.bc i o len cap) (some (.int k (l:Int))) (some (.int k2 (m:Int))) (some (.int k3 (n:Int)))=some v:=by
 obtain ⟨e,gP,bK⟩:=xM U
 refine ⟨.bc i (if n=l then o else o+l * sz) (m - l) (n - l),?_⟩
 unfold iJ
 simp only [gP,bK,Kd,af4,Option.isSome_some,Option.isNone_some,Bool.false_eq_true,and_false,false_or]
 rw [if_neg (by omega),if_neg (by omega)]
 unfold vz
 rw [if_pos hu,if_pos ⟨az,hm,aG⟩]
theorem Kx (U:ek P t=some sz) {a:Nat} {l:Nat} (az:l<len) :
  iJ P t (.bc i o len (b2+a)) (some (.int k (l:Int))) none none=some (.bc i (o+l * sz) (len - l) (b2+a+l)):=by
 obtain ⟨e,gP,bK⟩:=xM U
 unfold iJ
 simp only [gP,bK,Kd,eh,Option.isSome_none,Bool.false_eq_true,false_and,if_false]
 unfold vz
 rw [if_neg (by omega),if_pos ⟨rfl,by omega,Nat.le_refl _⟩,if_pos (.inr az)]
end
theorem AA (cN:hr P t=some T) {tx:TypeId} {h:I} {i o dl dc j p n d:Nat} {c bD:List V} {aW cJ:TypeId} {ex Un:Option Nat} (av:h.get i=.cells c aW ex) (lj:h.get j=.cells bD cJ Un)
  {m:Nat} (hm:Nat.min n dl=m) (h0:0<m) (hK:p+m * T.sz≤bD.length) (aq:o+m * T.sz≤c.length) (b5:((bD.drop p).take (m * T.sz)).all (·.one)=true) :
  xD P t (.bc i o dl dc) (.bc j p n d) h=some (.int .i64 m,h.set i (.cells (lay c o ((bD.drop p).take (m * T.sz))) aW ex)):=by
 obtain ⟨he,bK,bf,hG,eX,_⟩:=rZ cN
 have az:((bD.drop p).take (m * T.sz)).length=m * T.sz:=by rw [List.length_take,List.length_drop];omega
 unfold xD
 simp only [he,bf,BK,hm]
 simp only [wc,lj,if_pos hK]
 rw [if_neg (by omega),av]
 simp only
 rw [if_pos ⟨by rw [az];exact aq,b5⟩]
end
structure kp (P:Program) (dI:TypeId) (d:TypeDesc) {κ:Type} [DecidableEq κ] (ke:κ→V):Prop where
 eq:∀ a b,ta P dI d (ke a) (ke b)=some (decide (a=b))
 ok:∀ b a,vB P b dI (ke a)=true
 bits:∀ a,∃ v,mz (ke a)=some v∧Instr.sameBits 10000 v v=true
section
variable {P:Program} {t dI hY:TypeId} {d:TypeDesc} {κ:Type} [DecidableEq κ] {ke:κ→V} {α:Type} {enc:α→V}
def dJ (ke:κ→V) (enc:α→V) (l:List (Nat×κ×α)):List (Nat×V×V):=l.map fun e=>(e.1,ke e.2.1,enc e.2.2)
def b7 (l:List (Nat×κ×α)) (k:κ):Option α :=
 match l with
 | []=>none
 | e::r=>if k=e.2.1 then some e.2.2 else b7 r k
def cC (cl:Nat) (l:List (Nat×κ×α)) (k:κ) (a:α):List (Nat×κ×α) :=
 match l with
 | []=>[(cl,k,a)]
 | e::r=>if k=e.2.1 then (e.1,k,a)::r else e::cC cl r k a
def fT (cl:Nat) (l:List (Nat×κ×α)) (k:κ):Nat:=if (b7 l k).isSome then cl else cl+1
def fD (l:List (Nat×κ×α)) (k:κ):List (Nat×κ×α) :=
 match l with
 | []=>[]
 | e::r=>if k=e.2.1 then r else e::fD r k
theorem Ky (H:kp P dI d ke) (k:κ):∀ (l:List (Nat×κ×α)),
  (b7 l k=none∧oh P dI d (ke k) (dJ ke enc l)=some none∧(∀ cl a,cC cl l k a=l++[(cl,k,a)])∧fD l k=l) ∨
  (∃ j e,oh P dI d (ke k) (dJ ke enc l)=some (some j)∧l[j]?=some e∧e.2.1=k∧b7 l k=some e.2.2 ∧
   (∀ cl a,dJ ke enc (cC cl l k a)=(dJ ke enc l).modify j fun e=>(e.1,ke k,enc a))∧dJ ke enc (fD l k)=(dJ ke enc l).eraseIdx j)
 | []=>.inl ⟨rfl,rfl,fun _ _=>rfl,rfl⟩
 | e::l=>by
  have aq:oh P dI d (ke k) (dJ ke enc (e::l))=if k=e.2.1 then some (some 0) else (oh P dI d (ke k) (dJ ke enc l)).map fun (q:Option Nat)=>q.map (·+1):=by
   show (match ta P dI d (ke k) (ke e.2.1) with | some true=>some (some 0) | some false=>(oh P dI d (ke k) (dJ ke enc l)).map fun (q:Option Nat)=>q.map (·+1) | none=>none)=_
   rw [H.eq]
   by_cases hk:k=e.2.1
   ·simp [hk]
   ·simp [hk]
  by_cases hk:k=e.2.1
  ·refine .inr ⟨0,e,by rw [aq,if_pos hk],rfl,hk.symm,by rw [b7,if_pos hk],fun cl a=>by rw [cC,if_pos hk];rfl,by rw [fD,if_pos hk];rfl⟩
  ·rcases Ky H k l with ⟨h1,aa,aC,bz⟩ | ⟨j,dh,h1,aa,aC,bz,bY,da⟩
   ·refine .inl ⟨by rw [b7,if_neg hk,h1],by rw [aq,if_neg hk,aa];rfl,fun cl a=>by rw [cC,if_neg hk,aC];rfl,by rw [fD,if_neg hk,bz]⟩
   ·refine .inr ⟨j+1,dh,by rw [aq,if_neg hk,h1];rfl,by simpa using aa,aC,by rw [b7,if_neg hk,bz],fun cl a=>?_,?_⟩
    ·rw [cC,if_neg hk]
     show (e.1,ke e.2.1,enc e.2.2)::dJ ke enc (cC cl l k a)=_
     rw [bY]
     rfl
    ·rw [fD,if_neg hk]
     show (e.1,ke e.2.1,enc e.2.2)::dJ ke enc (fD l k)=_
     rw [da]
     rfl
theorem Pj (H:kp P dI d ke) {z:Value} {h:I} {i:Nat} {l:List (Nat×κ×α)} {cl:Nat} {k:κ} {ok:Bool} (hm:e9 P t=some (dI,hY,d)) (bK:lO P hY=some z) (av:h.get i=.map (dJ ke enc l) cl) :
  mD P t (.map i) (ke k) ok h=some (match b7 l k with | some a=>(if ok then .tuple [enc a,.bool true] else enc a) | none=>(if ok then .tuple [fj z,.bool false] else fj z)):=by
 unfold mD
 simp only [hm,bK,av,H.ok,if_true]
 rcases Ky (enc:=enc) H k l with ⟨h1,aa,_⟩ | ⟨j,e,h1,aa,aC,bz,_⟩
 ·rw [aa,h1]
 ·have:(dJ ke enc l)[j]?=some (e.1,ke e.2.1,enc e.2.2):=by simp [dJ,aa]
  rw [h1,bz]
  simp only [this]
  rfl
theorem Pl (H:kp P dI d ke) {h:I} {i:Nat} {l:List (Nat×κ×α)} {cl:Nat} {k:κ} {a:α} {v:V} (hm:e9 P t=some (dI,hY,d)) (av:h.get i=.map (dJ ke enc l) cl) (aD:v=enc a) :
  uk P t (.map i) (ke k) v h=some (h.set i (.map (dJ ke enc (cC cl l k a)) (fT cl l k))):=by
 subst aD
 unfold uk fT
 simp only [hm,av,H.ok,if_true]
 rcases Ky (enc:=enc) H k l with ⟨h1,aa,aC,_⟩ | ⟨j,e,h1,aa,aC,bz,bY,_⟩
 ·rw [aa,h1,aC]
  simp [dJ]
 ·have:(dJ ke enc l)[j]?=some (e.1,ke e.2.1,enc e.2.2):=by simp [dJ,aa]
  obtain ⟨v,aD,U⟩:=H.bits k
  rw [h1,bz]
  simp only [this,Option.bind_some,aC,aD,U,if_true,bY]
  rfl
theorem aha (H:kp P dI d ke) {h:I} {i:Nat} {l:List (Nat×κ×α)} {cl:Nat} {k:κ} (hm:e9 P t=some (dI,hY,d)) (av:h.get i=.map (dJ ke enc l) cl) :
  ip P t (.map i) (ke k) h=some (h.set i (.map (dJ ke enc (fD l k)) cl)):=by
 unfold ip
 simp only [hm,av,H.ok,if_true]
 rcases Ky (enc:=enc) H k l with ⟨h1,aa,_,bz⟩ | ⟨j,e,h1,aa,aC,bz,_,da⟩
 ·rw [aa,bz]
  simp only
  rw [Kb av]
 ·rw [h1,da]
theorem Pm:∀ {l:List (Nat×κ×α)} {k:κ},(b7 l k).isSome=true→∀ (cl:Nat) (a:α),(cC cl l k a).map (fun e=>(e.1,e.2.1))=l.map (fun e=>(e.1,e.2.1))
 | [],k,h,cl,a=>by simp [b7] at h
 | e::l,k,h,cl,a=>by
  unfold cC
  by_cases hk:k=e.2.1
  ·rw [if_pos hk];simp [hk]
  ·rw [b7,if_neg hk] at h
   rw [if_neg hk,List.map_cons,List.map_cons,Pm h]
theorem Pn:∀ {l:List (Nat×κ×α)} {k:κ},b7 l k=none→∀ (cl:Nat) (a:α),cC cl l k a=l++[(cl,k,a)]
 | [],k,h,cl,a=>rfl
 | e::l,k,h,cl,a=>by
  unfold cC
  by_cases hk:k=e.2.1
  ·rw [b7,if_pos hk] at h;cases h
  ·rw [b7,if_neg hk] at h
   rw [if_neg hk,Pn h];rfl
theorem Po:∀ {l:List (Nat×κ×α)} {k:κ},b7 l k=none↔∀ e ∈ l,e.2.1≠k
 | [],k=>by simp [b7]
 | e::l,k=>by
  unfold b7
  by_cases hk:k=e.2.1
  ·simp [hk]
  ·rw [if_neg hk,Po]
   simp [Ne.symm hk]
theorem B6:∀ (l:List (Nat×κ×α)) (cl:Nat) (k:κ) (a:α) (x:κ),b7 (cC cl l k a) x=if x=k then some a else b7 l x
 | [],cl,k,a,x=>by simp [cC,b7]
 | e::l,cl,k,a,x=>by
  unfold cC
  by_cases hk:k=e.2.1
  ·rw [if_pos hk]
   unfold b7
   by_cases ag:x=k
   ·simp [ag]
   ·have:x≠e.2.1:=hk ▸ ag
    simp [ag,this]
  ·rw [if_neg hk]
   unfold b7
   by_cases ag:x=e.2.1
   ·have:x≠k:=fun ab=>hk (ab ▸ ag)
    simp [ag,Ne.symm hk]
   ·rw [if_neg ag,B6 l cl k a x,if_neg ag]
def dD (l:List (Nat×κ×α)):Prop:=(l.map (·.2.1)).Nodup
omit [DecidableEq κ] in
theorem dD.nil:dD ([]:List (Nat×κ×α)):=List.nodup_nil
theorem dD.set {l:List (Nat×κ×α)} (aG:dD l) (cl:Nat) (k:κ) (a:α):dD (cC cl l k a):=by
 unfold dD at *
 cases av:b7 l k with
 | some b=>
  have h:=Pm (l:=l) (k:=k) (by rw [av];rfl) cl a
  have aa:=congrArg (List.map Prod.snd) h
  rw [List.map_map,List.map_map] at aa
  have aC:(cC cl l k a).map (·.2.1)=l.map (·.2.1):=aa
  rw [aC];exact aG
 | none=>
  rw [Pn av,List.map_append,List.nodup_append]
  refine ⟨aG,by simp,fun x ag y bd=>?_⟩
  obtain ⟨e,he,rfl⟩:=List.mem_map.1 ag
  simp at bd
  subst bd
  exact Po.1 av e he
theorem Kz:∀ (l:List (Nat×κ×α)) (k:κ),(fD l k).Sublist l
 | [],k=>List.Sublist.refl _
 | e::l,k=>by
  unfold fD
  split
  ·exact List.sublist_cons_self _ _
  ·exact (Kz l k).cons_cons _
theorem dD.del {l:List (Nat×κ×α)} (aG:dD l) (k:κ):dD (fD l k):=List.Nodup.sublist ((Kz l k).map _) aG
theorem pm:∀ {l:List (Nat×κ×α)},dD l→∀ (k x:κ),b7 (fD l k) x=if x=k then none else b7 l x
 | [],_,k,x=>by simp [fD,b7]
 | e::l,aG,k,x=>by
  have oA:=List.nodup_cons.1 aG
  unfold fD
  by_cases hk:k=e.2.1
  ·rw [if_pos hk]
   by_cases ag:x=k
   ·rw [if_pos ag,Po]
    intro y bd ab
    exact oA.1 (List.mem_map.2 ⟨y,bd,by rw [ab,ag,hk]⟩)
   ·rw [if_neg ag,b7,if_neg fun ab=>ag (ab.trans hk.symm)]
  ·rw [if_neg hk]
   unfold b7
   by_cases ag:x=e.2.1
   ·rw [if_pos ag,if_pos ag,if_neg fun ab=>hk (ab.symm.trans ag)]
   ·rw [if_neg ag,if_neg ag,pm oA.2 k x]
theorem ahb {l:List (Nat×κ×α)} {cl:Nat} {k:κ} {a:α} (aa:List.map (Prod.fst ∘ fun e=>(e.1,e.2.1)) (cC cl l k a)=List.map (Prod.fst ∘ fun e=>(e.1,e.2.1)) l):(dJ ke enc (cC cl l k a)).map (·.1)=(dJ ke enc l).map (·.1):=by
 unfold dJ
 rw [List.map_map,List.map_map]
 exact aa
theorem eP.cC {l:List (Nat×κ×α)} {cl:Nat} (U:eP (dJ ke enc l) cl) (k:κ) (a:α):eP (dJ ke enc (cC cl l k a)) (fT cl l k):=by
 cases av:b7 l k with
 | none=>
  have:fT cl l k=cl+1:=by unfold fT;rw [av];rfl
  rw [this,Pn av]
  have:=U.snoc (ke k) (enc a)
  simpa [dJ] using this
 | some b=>
  have:fT cl l k=cl:=by unfold fT;rw [av];rfl
  rw [this]
  have h:=Pm (l:=l) (k:=k) (by rw [av];rfl) cl a
  have aa:=congrArg (List.map Prod.fst) h
  rw [List.map_map,List.map_map] at aa
  have aC:=ahb (ke:=ke) (enc:=enc) aa
  refine ⟨fun e he=>?_,by rw [aC];exact U.2⟩
  have:e.1 ∈ (dJ ke enc l).map (·.1):=by rw [←aC];exact List.mem_map.2 ⟨e,he,rfl⟩
  obtain ⟨dh,gh,bz⟩:=List.mem_map.1 this
  rw [←bz];exact U.1 dh gh
theorem eP.fD {l:List (Nat×κ×α)} {cl:Nat} (U:eP (dJ ke enc l) cl) (k:κ):eP (dJ ke enc (fD l k)) cl:=by
 have h:=(Kz l k).map fun e:Nat×κ×α=>(e.1,ke e.2.1,enc e.2.2)
 exact ⟨fun e he=>U.1 e (h.subset he),List.Nodup.sublist (h.map _) U.2⟩
theorem GI:∀ {l:List (Nat×κ×α)},dD l→∀ {e:Nat×κ×α},e ∈ l→b7 l e.2.1=some e.2.2
 | [],_,e,he=>by cases he
 | x::l,aG,e,he=>by
  have oA:=List.nodup_cons.1 aG
  unfold b7
  rcases List.mem_cons.1 he with rfl | gh
  ·rw [if_pos rfl]
  ·rw [if_neg fun ab=>oA.1 (List.mem_map.2 ⟨e,gh,ab⟩)]
   exact GI oA.2 gh
end
open Go Go.Sort Go.Proofs
theorem gD.grow {W w':World} (h:gD W.heap.size W w'):∃ q Uo,w'=Sort.grow (W.drewN q) Uo:=by
 refine ⟨w'.drawn - W.drawn,w'.heap.extract W.heap.size w'.heap.size,?_⟩
 obtain ⟨Up,bq,B7,bf,ak,a7⟩:=h
 have e:w'.heap=W.heap++w'.heap.extract W.heap.size w'.heap.size:=by
  apply Array.ext_getElem?
  intro k
  rw [Array.getElem?_append]
  by_cases hk:k<W.heap.size
  ·rw [if_pos hk];exact ak k hk
  ·rw [if_neg hk,Array.getElem?_extract]
   by_cases aa:k<w'.heap.size
   ·rw [if_pos (by omega),show W.heap.size+(k - W.heap.size)=k by omega]
   ·rw [if_neg (by omega),Array.getElem?_eq_none (by omega)]
 have aW:W.drawn+(w'.drawn - W.drawn)=w'.drawn:=by omega
 cases w'
 cases W
 simp only [Sort.grow,World.drewN] at *
 subst Up bq B7
 rw [←e,aW]
section
variable {ρ:Ren} {B:Nat} {aK:World} {h:I} {w:World}
theorem aQ.EJ (R:aQ ρ B aK h w) {i b bw:Nat} {c vs:List V} {e:TypeId} {ex:Option Nat} (av:h.get i=.cells c e ex) (hi:ρ.ren i=some (b,bw)) {d:Array Value} (aD:aT ρ vs d.toList) (aG:vs.length≤c.length) :
  aQ ρ B aK (h.set i (.cells (vs++c.drop vs.length) e ex)) (Sort.putRow id w b 0 d):=by
 have aR:=R.heap.obj i
 rw [av] at aR
 obtain ⟨cF,qP,arr,aH,aq,bM,hw,hlen,eM,ag⟩:=aR
 rw [hi] at aH
 cases aH
 have aN:=(Array.getElem?_eq_some_iff.1 hw).1
 have vf:d.size=vs.length:=by have:=aD.1;simp at this;omega
 have pV:∀ j,(Sort.putRow id w b 0 d).heap[j]?=if b=j then (w.heap[j]?).map (Sort.onCells (Sort.putCells id 0 d)) else w.heap[j]?:=fun j=>by
  show (w.heap.modify b _)[j]?=_
  rw [Array.getElem?_modify]
 refine R.sx hi (by rw [av];simp) (fun j aS=>by rw [pV,if_neg (Ne.symm aS)]) (by rw [Sort.size_putRow];exact Nat.le_refl _) ⟨rfl,rfl,rfl,by rw [Sort.size_putRow];exact Nat.le_refl _,fun j aS=>by rw [pV,if_neg (by omega)],Nat.le_refl _⟩ ?_
 have az:(vs++c.drop vs.length).length=c.length:=by simp;omega
 refine ⟨b,bw,Sort.putCells id 0 d arr,hi,aq,bM,by rw [pV,if_pos rfl,hw];rfl,by rw [az];simpa [Sort.putCells] using hlen,?_,by rw [az];simpa [Sort.putCells] using ag⟩
 rw [az]
 refine ⟨by simp [Sort.putCells];omega,fun j v v' h1 aa=>?_⟩
 rw [List.getElem?_take] at aa
 split at aa
 case isFalse=>cases aa
 rename_i aS
 rw [Array.getElem?_toList] at aa
 unfold Sort.putCells at aa
 rw [Array.getElem?_mapIdx,Option.map_eq_some_iff] at aa
 obtain ⟨x,nF,dX⟩:=aa
 by_cases h7:j<vs.length
 ·rw [if_pos ⟨Nat.zero_le _,by omega⟩] at dX
  subst dX
  rw [List.getElem?_append_left h7] at h1
  refine aD.2 j v _ h1 ?_
  rw [Array.getElem?_toList,Nat.sub_zero,Array.getElem?_eq_getElem (by omega),getElem!_pos d j (by omega)]
  rfl
 ·rw [if_neg (by omega)] at dX
  subst dX
  rw [List.getElem?_append_right (by omega),List.getElem?_drop,show vs.length+(j - vs.length)=j by omega] at h1
  refine eM.2 j v x h1 ?_
  rw [List.getElem?_take,if_pos aS,Array.getElem?_toList]
  exact nF
theorem aQ.GJ (R:aQ ρ B aK h w) {i b bw:Nat} {c vs:List V} {e:TypeId} {ex:Option Nat} (av:h.get i=.cells c e ex) (hi:ρ.ren i=some (b,bw)) (au:c.take vs.length=vs) :
  ∃ d:Array Value,aT ρ vs d.toList∧Sort.Holds id w b 0 d∧b<w.heap.size:=by
 have aR:=R.heap.obj i
 rw [av] at aR
 obtain ⟨cF,qP,arr,aH,aq,bM,hw,hlen,eM,ag⟩:=aR
 rw [hi] at aH
 cases aH
 have cw:vs.length≤c.length:=by
  have:=congrArg List.length au
  rw [List.length_take] at this
  omega
 refine ⟨(arr.toList.take vs.length).toArray,?_,fun j aS=>?_,(Array.getElem?_eq_some_iff.1 hw).1⟩
 ·have:=eM.take vs.length
  rw [au,List.take_take,Nat.min_eq_left cw] at this
  simpa using this
 ·simp only [List.size_toArray,List.length_take,Array.length_toList] at aS
  have Uq:j<arr.size:=by omega
  rw [getElem!_pos _ j (by simp;omega)]
  simp [World.cell?,World.frozen?,hw,Array.getElem?_eq_getElem Uq]
theorem aQ.EK (R:aQ ρ B aK h w) {i b bw:Nat} (az:h.get i≠.dead) (hi:ρ.ren i=some (b,bw)) {α:Type} [Inhabited α] (enc:α→List Value) (k m:Nat) (EL:Array α) (os:Array Obj) :
  ∀ cF a,ρ.frz cF=some a→(iw (sortWorldK enc k w b 0 m EL os)).frz cF=some a:=by
 intro cF a aq
 obtain ⟨e,fl,hw⟩:=R.heap.frz cF a aq
 obtain ⟨bW,iI,aH,aN,_,h8,_⟩:=R.heap.live az
 rw [hi] at aH
 cases aH
 have bO:b≠cF:=fun ab=>by subst ab;rw [h8] at aq;cases aq
 have sA:=(Array.getElem?_eq_some_iff.1 hw).1
 have h1:(sortWorldK enc k w b 0 m EL os).heap[cF]?=w.heap[cF]?:=by
  show ((w.heap.modify b _)++os)[cF]?=_
  rw [Array.getElem?_append,if_pos (by simpa using sA),Array.getElem?_modify,if_neg bO]
 exact Ge (h1.trans hw)
end
theorem ae.GK {P:Program} {bt:FuncId} {args:List V} {v:V} {a:Value} (au:ae P bt args ze fun r _=>r=v) (aD:lN v=some a) {w:World}
  {args':Array Value} (aO:aT (iw w) args args'.toList):Calls P bt args' w fun e w'=>e=.returned a∧gD w.heap.size w w' :=
 (au (iw w) w.heap.size w w args' (pp w) aO).mono fun e w' ab=>by
  rcases ab with ⟨ρ',r,cm,h',he,wk,hw,_,eR⟩ | ⟨_,_,_,_,_,_,_,bF⟩
  ·subst eR
   rw [vW wk aD] at he
   exact ⟨he,hw.below⟩
  ·exact bF.elim
theorem ahc {P:Program} {g:FuncId} {β:Type} {E:β→List V} {cf:β→β→Int} (wK:∀ a b,ae P g [.agg (E a),.agg (E b)] ze fun r _=>r=.int .i64 (cf a b)) (pT:∀ x,bo (E x))
  {ρ:Ren} {B:Nat} {aK:World} {h:I} {w:World} (R:aQ ρ B aK h w) {i b bw:Nat} (az:h.get i≠.dead) (hi:ρ.ren i=some (b,bw))
  {α:Type} [Inhabited α] (rows:α→β) (enc:α→List Value) (sK:∀ x,aT ρ (E (rows x)) (enc x)) (size k:Nat):CmpLays P g #[] enc k (fun x y=>cf (rows x) (rows y)) b 0 size w:=by
 intro m os EL Mj x y
 have aq:=R.EK az hi enc k m EL os
 have Ur:∀ x,aA (iw (sortWorldK enc k w b 0 m EL os)) (.agg (E (rows x))) (.agg (enc x).toArray):=fun x=>.agg (by simpa using (sK x).1) fun j v v' h1 aa=>by
  refine pT (rows x) v (List.mem_of_getElem? h1) ρ _ v' ((sK x).2 j v v' h1 ?_) aq
  simpa using aa
 have au:=(wK (rows x) (rows y)).GK (a:=.int .i64 (cf (rows x) (rows y))) rfl (w:=sortWorldK enc k w b 0 m EL os) (args':=#[.agg (enc x).toArray,.agg (enc y).toArray]) (aT.cons (Ur x) (aT.cons (Ur y) (aT.nil _)))
 rw [Array.append_empty]
 exact au.mono fun e w' ab=>⟨ab.1,ab.2.grow⟩
theorem Us {α:Type} [Inhabited α] (enc:α→List Value) (k:Nat) (hk:∀ x,(enc x).length=k) (d:Array α):(flatK enc k d).toList=d.toList.flatMap enc:=by
 have hlen:∀ l:List α,(l.flatMap enc).length=l.length * k:=fun l=>by
  induction l with
  | nil=>simp
  | cons x l ih=>rw [List.flatMap_cons,List.length_append,hk,ih,List.length_cons,Nat.add_mul];omega
 have me:∀ (l:List α) (t:Nat),t<l.length * k→(l.flatMap enc)[t]! = (enc l[t / k]!)[t % k]!:=fun l=>by
  induction l with
  | nil=>intro t bq;simp at bq
  | cons x l ih=>
   intro t bq
   have DG:0<k:=by
    rcases Nat.eq_zero_or_pos k with h0 | h0
    ·subst h0;simp at bq
    ·exact h0
   rw [List.flatMap_cons]
   by_cases h1:t<k
   ·rw [Nat.div_eq_of_lt h1,Nat.mod_eq_of_lt h1]
    simp [List.getElem!_eq_getElem?_getD,List.getElem?_append_left (show t<(enc x).length by rw [hk];exact h1)]
   ·obtain ⟨u,rfl⟩:∃ u,t=u+k:=⟨t - k,by omega⟩
    rw [List.length_cons,Nat.add_mul,Nat.one_mul] at bq
    have:=ih u (by omega)
    rw [Nat.add_div_right _ DG,Nat.add_mod_right]
    simp only [List.getElem!_eq_getElem?_getD,List.getElem?_cons_succ] at this⊢
    rw [List.getElem?_append_right (by rw [hk];omega),hk,Nat.add_sub_cancel]
    exact this
 apply List.ext_getElem
 ·rw [hlen];simp
 ·intro t h1 aa
  have bq:t<d.size * k:=by simpa using h1
  have aw:=get_flatK enc k d t bq
  have aW:=me d.toList t (by simpa using bq)
  rw [getElem!_pos _ t (by simpa using bq)] at aw
  rw [getElem!_pos _ t aa] at aW
  rw [Array.getElem_toList,aw,aW]
  congr 2
  simp [Array.getElem!_eq_getD,List.getElem!_eq_getElem?_getD,Array.getD_eq_getD_getElem?]
theorem ahd {P:Program} {f:FuncId} {g:FuncId} {e:TypeId} {k:Nat} {β:Type} {E:β→List V} {cf:β→β→Int} (DG:0<k)
  (hk:∀ x,(E x).length=k) (h1:∀ x,(E x).all (·.one)=true) (pT:∀ x,bo (E x)) (o1:SWO (ltOf cf))
  (wK:∀ a b,ae P g [.agg (E a),.agg (E b)] ze fun r _=>r=.int .i64 (cf a b))
  (e0:∀ (n:Nat) (enc:Fin (n+1)→List Value) (hk:∀ x,(enc x).length=k) (h1:∀ x,∀ v ∈ enc x,v.oneCell'=true) (cf:Fin (n+1)→Fin (n+1)→Int) (o1:SWO (ltOf cf)) (hL cap:Nat) (d:Array (Fin (n+1))) (w:World),
   CmpLays P g #[] enc k cf hL 0 d.size w→HoldsK enc k w hL 0 d→hL<w.heap.size→d.size<4611686018427387904 →
   Calls P f #[.slice (some ⟨hL,0,none⟩) d.size cap,.func (.func g) #[] #[]] w fun e w'=>e=.returned (.tuple #[])∧∃ nC n os,PermIn 0 d.size d nC∧SortedIn (ltOf cf) 0 d.size nC∧w'=sortWorldK enc k w hL 0 n nC os)
  {h:I} {v:V} {l:List β} (zm:l=[]→ae P f [v,.func (.func g) [] []] h fun r h'=>r=.tuple []∧h'=h)
  (aR:Own h e k v (l.flatMap E)) (az:l.length<4611686018427387904) :
  ae P f [v,.func (.func g) [] []] h fun r h'=>r=.tuple []∧J h h' (bl v)∧∃ b0:List β,b0.Perm l∧(b0.Pairwise fun a b=>ltOf cf b a=false)∧Own h' e k v (b0.flatMap E):=by
 by_cases dk:l=[]
 ·refine (zm dk).mono fun r h' ⟨aH,ab⟩=>?_
  subst ab
  exact ⟨aH,J.refl _ _,l,List.Perm.refl _,by rw [dk];exact List.Pairwise.nil,aR⟩
 have hlen:=j7 hk l
 rcases aR with ⟨_,cS⟩ | ⟨i,len,cap,c,ex,rfl,wH,av,iL,bJ,dj⟩
 ·rw [cS] at hlen
  have:0<l.length:=List.length_pos_iff.2 dk
  have:=Nat.mul_pos this DG
  simp at hlen
  omega
 rw [hlen] at iL
 have qR:l.length=len:=Nat.eq_of_mul_eq_mul_right DG iL
 subst qR
 obtain ⟨n,aG⟩:∃ n,l.length=n+1:=⟨l.length - 1,by have:=List.length_pos_iff.2 dk;omega⟩
 intro ρ B aK w args' R aO
 obtain ⟨v1,t1,lv,GL,yu⟩:=aO.di
 obtain ⟨v2,t2,Gc,Aj,AB⟩:=yu.di
 have Ut:=AB.eq_nil
 subst Ut
 have aW:v2=.func (.func g) #[] #[]:=by
  cases Aj with
  | func fn U bq _ _=>
   rename_i eV vV _ _
   have aw:=Array.eq_empty_of_size_eq_zero (xs:=eV) U.symm
   have aW:=Array.eq_empty_of_size_eq_zero (xs:=vV) bq.symm
   rw [aw,aW]
 subst aW
 cases GL with
 | bc hi _ _ _ hle=>
 rename_i b bw
 have fB:args'=#[.slice (some ⟨b,0,none⟩) l.length (fk bw cap),.func (.func g) #[] #[]]:=by
  apply Array.toList_inj.1
  rw [lv,Gc]
 subst fB
 obtain ⟨D,KA,hH,aN⟩:=R.GJ av hi (vs:=l.flatMap E) (by rw [hlen];exact bJ)
 have Uu:D.size=l.length * k:=by have:=KA.1;simp only [Array.length_toList] at this;omega
 let rows:Fin (n+1)→β:=fun x=>l[x.1]'(by omega)
 let enc:Fin (n+1)→List Value:=fun x=>(D.toList.drop (x.1 * k)).take k
 have mg:∀ x:Fin (n+1),((l.flatMap E).drop (x.1 * k)).take k=E (rows x):=fun x=>by
  rw [vF hk,List.drop_eq_getElem_cons (show x.1<l.length by omega),List.flatMap_cons,List.take_left' (hk _)]
 have sK:∀ x,aT ρ (E (rows x)) (enc x):=fun x=>by
  have:=(KA.drop (x.1 * k)).take k
  rwa [mg x] at this
 have fU:∀ x,(enc x).length=k:=fun x=>by rw [←(sK x).1,hk]
 have Uv:∀ x,∀ v ∈ enc x,v.oneCell'=true:=fun x=>(sK x).one (h1 _)
 let d:Array (Fin (n+1)):=(List.finRange (n+1)).toArray
 have vf:d.size=l.length:=by simp [d,aG]
 have KB:flatK enc k d=D:=by
  apply Array.toList_inj.1
  rw [Us enc k fU]
  have key:∀ (m:Nat) (hm:m≤n+1),(((List.finRange (n+1)).take m).flatMap enc)=D.toList.take (m * k):=fun m=>by
   induction m with
   | zero=>intro _;simp
   | succ m ih=>
    intro hm
    rw [List.take_add_one,List.flatMap_append,ih (by omega),List.getElem?_eq_getElem (by simp;omega)]
    simp only [Option.toList_some,List.flatMap_cons,List.flatMap_nil,List.append_nil,List.getElem_finRange,enc]
    rw [Nat.add_mul,Nat.one_mul]
    simp [List.take_add]
  have:=key (n+1) (Nat.le_refl _)
  rw [List.take_of_length_le (by simp)] at this
  show (List.finRange (n+1)).flatMap enc=_
  rw [this,List.take_of_length_le (by rw [Array.length_toList,Uu,aG];exact Nat.le_refl _)]
 have yv:SWO (ltOf fun x y=>cf (rows x) (rows y)):=⟨fun x=>o1.irrefl _,fun x y z=>o1.trans _ _ _,fun x y z=>o1.ntrans _ _ _⟩
 have KC:h.get i≠.dead:=by rw [av];simp
 have cw:=ahc wK pT R KC hi rows enc sK d.size k
 have wL:=e0 n enc fU Uv (fun x y=>cf (rows x) (rows y)) yv b (fk bw cap) d w cw (by unfold HoldsK;rw [KB];exact hH) aN (by rw [vf];exact az)
 rw [vf] at wL
 refine wL.mono fun x w' ⟨ag,nC,m,os,aZ,U,bL⟩=>.inl ⟨ρ,.tuple [],.tuple #[],h.set i (.cells ((nC.toList.map rows).flatMap E++c.drop ((nC.toList.map rows).flatMap E).length) e ex),ag,.tuple rfl (by simp),?_,Ren.le.refl ρ,rfl,?_,nC.toList.map rows,?_,?_,?_⟩
 ·subst bL
  have ux:nC.size=l.length:=by rw [aZ.1,vf]
  have tu:((nC.toList.map rows).flatMap E).length=l.length * k:=by rw [j7 hk];simp [ux]
  have GM:l.length * k≤c.length:=by
   have:=congrArg List.length bJ
   rw [List.length_take,hlen] at this
   omega
  have aD:aT ρ ((nC.toList.map rows).flatMap E) (flatK enc k nC).toList:=by
   rw [Us enc k fU]
   have:∀ q:List (Fin (n+1)),aT ρ ((q.map rows).flatMap E) (q.flatMap enc):=fun q=>by
    induction q with
    | nil=>exact aT.nil ρ
    | cons a q ih=>
     rw [List.map_cons,List.flatMap_cons,List.flatMap_cons]
     exact (sK a).append ih
   exact this _
  exact ((R.ahead m).EJ av hi aD (by rw [tu];exact GM)).grow os
 ·exact (J.set h i _).mono fun q ad=>by simp [bl,aV,ad]
 ·have ux:nC.size=l.length:=by rw [aZ.1,vf]
  have aC:=aZ.2.2
  have aw:nC.extract 0 l.length=nC:=by rw [←ux];simp
  have aW:d.extract 0 l.length=d:=by rw [←vf];simp
  rw [aw,aW] at aC
  have bz:=aC.map rows
  have cJ:d.toList.map rows=l:=by
   apply List.ext_getElem
   ·simp [d,aG]
   ·intro j h1 aa
    simp [d,rows]
  rwa [cJ] at bz
 ·have ux:nC.size=l.length:=by rw [aZ.1,vf]
  rw [List.pairwise_map,List.pairwise_iff_getElem]
  intro a cF aO ak nP
  have:=U a cF (Nat.zero_le _) nP (by simp at ak;omega)
  rw [getElem!_pos nC cF (by simpa using ak),getElem!_pos nC a (by simpa using aO)] at this
  simpa [ltOf] using this
 ·have ux:nC.size=l.length:=by rw [aZ.1,vf]
  have tu:((nC.toList.map rows).flatMap E).length=l.length * k:=by rw [j7 hk];simp [ux]
  have GM:l.length * k≤c.length:=by
   have:=congrArg List.length bJ
   rw [List.length_take,hlen] at this
   omega
  refine .inr ⟨i,l.length,cap,_,ex,rfl,wH,aP,by rw [tu],?_,?_⟩
  ·rw [List.take_left' tu]
  ·rcases dj with ⟨aa,aC,bz⟩ | ⟨aa,aC⟩
   ·refine .inl ⟨aa,?_,bz⟩
    rw [List.length_append,List.length_drop,tu]
    omega
   ·exact .inr ⟨aa,aC⟩
open Go
section
variable {κ α:Type} {ke:κ→V} {enc:α→V}
end
theorem Acc.set {h0 h:I} {e:TypeId} {sz:Nat} {v:V} {cs:List V} (a:Acc h0 h e sz v cs) {i:Nat} (hi:h0.n≤i) (aD:aV v≠some i) (o:bb):Acc h0 (h.set i o) e sz v cs :=
 ⟨a.own.al (J.set _ _ _) fun k hk he=>aD (by rw [hk,he]),a.al.iQ hi o,a.new⟩
theorem aM.kD (h:I):aM .an h (.ai 0 []) h:=fun ρ B aK w cm hw aD=>⟨ρ,Ren.le.refl ρ,hw,by cases aD;exact .eU none 0 fun _=>rfl⟩
theorem aM.fi (h:I):aM .fi h (.ai 0 []) h:=fun ρ B aK w cm hw aD=>⟨ρ,Ren.le.refl ρ,hw,by cases aD;exact .eU _ _ fun e=>by cases e⟩
section
variable {P:Program} {t:TypeId} {xo yo:Operand}
end
theorem kp.ofInt {P:Program} {t dI hY:TypeId} {kk:IntKind} (hm:e9 P t=some (dI,hY,.int kk)):kp P dI (.int kk) (V.int kk) where
 eq a b:=by rw [TK rfl];rfl
 ok b a:=OL (y2 hm).2 rfl
 bits a:=⟨_,rfl,by simp [Instr.sameBits]⟩
section
variable {M:Nat→Prop} {bu:Operand→V} {t:TypeId} {m k:Operand} {b:Bool}
theorem GN:l1 M (pv bu (.lookup t m k b))=uw M (bu m):=rfl
end
theorem aM.hj {h h1:I} {e:TypeId} {sz i len cap:Nat} {cs es:List V} {own1:Nat→Prop} (aR:Own h e sz (.bc i 0 len cap) cs) (cw:aB cs h es h1) (jF:J h h1 own1) (bO:¬own1 i) (hle:es.length=cs.length) :
  ∃ aa,aM (.bc i 0 len cap) h (.ai len es) aa∧J h1 aa (·=i):=by
 rcases aR with ⟨q | q,_⟩ | ⟨BL,ahe,ahf,c,ex,q,hi,av,hlen,bJ,dj⟩
 ·cases q
 ·cases q
 simp only [V.bc.injEq] at q
 obtain ⟨rfl,_,rfl,rfl⟩:=q
 have ef:h1.get i=.cells c e ex:=(jF.get i hi bO).trans av
 have fM:len * sz≤c.length:=by
  have:=congrArg List.length bJ
  rw [List.length_take,hlen] at this
  omega
 refine ⟨h1.set i .dead,fun ρ B aK w cm hw aD=>?_,J.set h1 i .dead⟩
 obtain ⟨ρ0,_,Uw,b,bw,arr,aH,aq,au,az⟩:=hw.freeze av
 have GO:aT ρ cs (arr.toList.take (len * sz)):=by
  have jG:=az.1
  refine ⟨by rw [←bJ];simp only [List.length_take] at jG⊢;omega,fun k v v' h1 aa=>?_⟩
  have hk:k<len * sz:=by rw [←hlen];exact (List.getElem?_eq_some_iff.1 h1).1
  rw [←bJ,List.getElem?_take,if_pos hk] at h1
  rw [List.getElem?_take,if_pos hk] at aa
  refine az.2 k v v' h1 ?_
  rw [List.getElem?_take,if_pos (by omega)]
  exact aa
 obtain ⟨ρ1,se,eO,ie⟩:=cw ρ B aK w _ hw GO
 obtain ⟨ρ2,Mk,iN,cF,qP,iq,gj,b4,wi,fO⟩:=eO.freeze ef
 have s8:=se.ren _ _ aH
 rw [s8] at gj
 simp only [Option.some.injEq,Prod.mk.injEq] at gj
 obtain ⟨rfl,rfl⟩:=gj
 obtain ⟨bW,iI,jE,gp,rfl⟩:=aD.fA
 rw [aH] at jE
 simp only [Option.some.injEq,Prod.mk.injEq] at jE
 obtain ⟨rfl,rfl⟩:=jE
 have kM:iq=arr:=by
  obtain ⟨aw,f1,cn⟩:=Uw.heap.frz _ _ aq
  obtain ⟨aW,f2,cO⟩:=iN.heap.frz _ _ b4
  rw [cn] at cO
  simp only [Option.some.injEq,Obj.cells.injEq] at cO
  exact cO.1.symm
 subst kM
 refine ⟨ρ2,se.trans Mk,iN,.ai 0 len _ b4 gp (by rw [hle,hlen];omega) fun k v v' h1 aa=>?_⟩
 have hk:k<len * sz:=by rw [←hlen,←hle];exact (List.getElem?_eq_some_iff.1 h1).1
 refine (ie.2 k v v' h1 ?_).mono Mk
 rw [List.getElem?_take,if_pos hk,Array.getElem?_toList]
 simpa using aa
theorem aM.vR {h h1:I} {X:Nat} {c bD:List V} {e:TypeId} {ex:Option Nat} (av:h.get X=.cells c e ex) (cw:aB c h bD h1) (ef:h1.get X=.cells c e ex) (hle:bD.length=c.length) (r:V) :
  aM r h r (h1.set X (.cells bD e ex)):=fun ρ B aK w cm hw aD=>by
 have aR:=hw.heap.obj X
 rw [av] at aR
 obtain ⟨b,bw,arr,aH,aq,bM,vG,au,az,ag⟩:=aR
 obtain ⟨ρ1,se,eO,ie⟩:=cw ρ B aK w _ hw az
 have qS:=eO.heap.obj X
 rw [ef] at qS
 obtain ⟨ec,Ma,y7,s8,tq,GP,AD,hv,gp,nF⟩:=qS
 have aw:=se.ren _ _ aH
 rw [s8] at aw
 simp only [Option.some.injEq,Prod.mk.injEq] at aw
 obtain ⟨rfl,rfl⟩:=aw
 rw [AD] at vG
 simp only [Option.some.injEq,Obj.cells.injEq] at vG
 obtain ⟨rfl,-,-⟩:=vG
 have sL:∀ j,j≠X→(h1.set X (.cells bD e ex)).get j=h1.get j:=fun j aS=>by simp [I.set,aS]
 have Pp:(h1.set X (.cells bD e ex)).get X=.cells bD e ex:=by simp [I.set]
 have live:∀ j,(h1.set X (.cells bD e ex)).get j≠.dead→h1.get j≠.dead:=fun j aS=>by
  by_cases AE:j=X
  ·subst AE;rw [ef];intro q;cases q
  ·rwa [sL j AE] at aS
 refine ⟨ρ1,se,⟨⟨eO.heap.kg,fun i j b c j6 hi aS aa aC=>eO.heap.inj i j b c j6 (live i hi) (live j aS) aa aC,fun j=>?_,eO.heap.frz,eO.heap.glob,eO.heap.base⟩,eO.below⟩,aD.mono se⟩
 by_cases aS:j=X
 ·subst aS
  rw [Pp]
  rw [←hle] at ie
  exact ⟨_,_,_,s8,tq,GP,AD,by rw [hle];exact hv,ie,by rw [hle];exact nF⟩
 ·rw [sL j aS];exact eO.heap.obj j
theorem Pure.vR {P:Program} {f:FuncId} {args:List V} {h h1:I} {v:V} (aZ:Pure P f args h v) {X:Nat} {c bD:List V} {e:TypeId} {ex:Option Nat} (av:h.get X=.cells c e ex) (cw:aB c h bD h1) (ef:h1.get X=.cells c e ex) (hle:bD.length=c.length) :
  ae P f args h (fun r h'=>r=v∧h'=h1.set X (.cells bD e ex)) :=
 ae.cast (aZ.mono fun r h' ⟨aw,aW⟩=>⟨v,_,by subst aw;subst aW;exact aM.vR av cw ef hle _,rfl,rfl⟩)
section
variable {P:Program} {h:I} {s:TypeId}
end
def kE (v:V) (h:I) (v2:V) (aa:I):Prop :=
 ∀ (ρ:Ren) (B:Nat) (aK w:World),aQ ρ B aK h w→∃ ρ',ρ.le ρ'∧aQ ρ' B aK aa w∧∀ cm,aA ρ v cm→aA ρ' v2 cm
theorem kE.own {h:I} {i n cap sz:Nat} {c z:List V} {e:TypeId} {ex:Option Nat} (av:h.get i=.cells (c++z) e ex) (au:c.length=n * sz):kE (.bc i 0 n cap) h (.ai n c) (h.set i .dead):=fun ρ B aK w hw=>by
 obtain ⟨ρ',hle,bL,b,bw,arr,aH,aq,Ux,az⟩:=hw.freeze av
 refine ⟨ρ',hle,bL,fun cm aD=>?_⟩
 obtain ⟨bW,iI,jE,gp,rfl⟩:=aD.fA
 rw [aH] at jE
 simp only [Option.some.injEq,Prod.mk.injEq] at jE
 obtain ⟨rfl,rfl⟩:=jE
 rw [List.length_append] at Ux
 refine .ai 0 n _ aq gp (by omega) fun k v v' h1 aa=>?_
 have hk:k<c.length:=(List.getElem?_eq_some_iff.1 h1).1
 refine (az.2 k v v' (by rw [List.getElem?_append_left hk];exact h1) ?_).mono hle
 rw [List.getElem?_take,if_pos (by rw [List.length_append];omega),Array.getElem?_toList]
 simpa using aa
theorem kE.cast {v v2:V} {h aa:I} (c:kE v h v2 aa):aM v h v2 aa:=fun ρ B aK w cm hw aD=>
 let ⟨ρ',l,w',f⟩:=c ρ B aK w hw
 ⟨ρ',l,w',f cm aD⟩
theorem kE.agg {v v2:V} {l:List V} {h aa:I} (a:kE v h v2 aa):kE (.agg (v::l)) h (.agg (v2::l)) aa:=fun ρ B aK w hw=>by
 obtain ⟨ρ',le,w',f⟩:=a ρ B aK w hw
 refine ⟨ρ',le,w',fun cm aD=>?_⟩
 cases aD with
 | agg U ag=>
  rename_i xs
  have L:aT ρ (v::l) xs.toList:=⟨by simpa using U,by simpa using ag⟩
  obtain ⟨v',im,e,h1,aa⟩:=L.di
  have ahg:aT ρ' (v2::l) xs.toList:=by rw [e];exact aT.cons (f v' h1) ⟨aa.1,fun k a b aO ak=>(aa.2 k a b aO ak).mono le⟩
  exact ahg.iq.agg
theorem kE.cell {h h1:I} {X:Nat} {v v2:V} {c:List V} {e:TypeId} {ex:Option Nat} (qQ:kE v h v2 h1) (av:h.get X=.cells (v::c) e ex) (ef:h1.get X=.cells (v::c) e ex) :
  kE v h v2 (h1.set X (.cells (v2::c) e ex)):=fun ρ B aK w hw=>by
 have aR:=hw.heap.obj X
 rw [av] at aR
 obtain ⟨b,bw,arr,aH,aq,bM,vG,au,az,ag⟩:=aR
 obtain ⟨ρ1,se,eO,dt⟩:=qQ ρ B aK w hw
 have ie:aT ρ1 (v2::c) (arr.toList.take (v::c).length):=by
  obtain ⟨v',im,dh,hZ,oo⟩:=az.di
  rw [dh]
  exact aT.cons (dt v' hZ) ⟨oo.1,fun k a b aO ak=>(oo.2 k a b aO ak).mono se⟩
 have qS:=eO.heap.obj X
 rw [ef] at qS
 obtain ⟨ec,Ma,y7,s8,tq,GP,AD,hv,gp,nF⟩:=qS
 have aw:=se.ren _ _ aH
 rw [s8] at aw
 simp only [Option.some.injEq,Prod.mk.injEq] at aw
 obtain ⟨rfl,rfl⟩:=aw
 rw [AD] at vG
 simp only [Option.some.injEq,Obj.cells.injEq] at vG
 obtain ⟨rfl,-,-⟩:=vG
 have sL:∀ j,j≠X→(h1.set X (.cells (v2::c) e ex)).get j=h1.get j:=fun j aS=>by simp [I.set,aS]
 have Pp:(h1.set X (.cells (v2::c) e ex)).get X=.cells (v2::c) e ex:=by simp [I.set]
 have live:∀ j,(h1.set X (.cells (v2::c) e ex)).get j≠.dead→h1.get j≠.dead:=fun j aS=>by
  by_cases AE:j=X
  ·subst AE;rw [ef];intro q;cases q
  ·rwa [sL j AE] at aS
 refine ⟨ρ1,se,⟨⟨eO.heap.kg,fun i j b c j6 hi aS aa aC=>eO.heap.inj i j b c j6 (live i hi) (live j aS) aa aC,fun j=>?_,eO.heap.frz,eO.heap.glob,eO.heap.base⟩,eO.below⟩,dt⟩
 by_cases aS:j=X
 ·subst aS
  rw [Pp]
  exact ⟨_,_,_,s8,tq,GP,AD,hv,ie,nF⟩
 ·rw [sL j aS];exact eO.heap.obj j
section
variable {P:Program} {d:Option Tmp} {ty:TypeId} {pos:String} {cd:Array Edge} {g:Option (Nat×Bool)} {f:ah} {h:I} [K:e1] {x y:Operand}
def yw (P:Program) (bi:Builtin) (ts:Array TypeId) (ty:TypeId) (cs:Array Bool) (x:V):Option V :=
 match be [x] with
 | some us=>match cQ P (builtin bi ts ty cs us.toArray) with
  | some (.value v)=>some (fX v)
  | _=>none
 | none=>none
theorem ahh {t t2:TypeId}:@ed P ⟨d,.call ⟨.builtin .complex,#[x,y],#[t,t2]⟩,ty,pos,cd,g⟩ K f h=@ko (po P .complex #[t,t2] ty (td #[x,y]) (f.eval h x) (f.eval h y)) d K f h :=
 q1 (by
  unfold dC jC oi po fY
  simp only [List.map_cons,List.map_nil]
  cases be [f.eval h x,f.eval h y] with
  | none=>rfl
  | some us=>
   simp only
   generalize cQ P _=r
   cases r with
   | none=>rfl
   | some n=>cases n<;>rfl)
theorem ahi {t:TypeId}:@ed P ⟨d,.call ⟨.builtin .real,#[x],#[t]⟩,ty,pos,cd,g⟩ K f h=@ko (yw P .real #[t] ty (td #[x]) (f.eval h x)) d K f h :=
 q1 (by
  unfold dC jC oi yw fY
  simp only [List.map_cons,List.map_nil]
  cases be [f.eval h x] with
  | none=>rfl
  | some us=>
   simp only
   generalize cQ P _=r
   cases r with
   | none=>rfl
   | some n=>cases n<;>rfl)
theorem ahj {t:TypeId}:@ed P ⟨d,.call ⟨.builtin .imag,#[x],#[t]⟩,ty,pos,cd,g⟩ K f h=@ko (yw P .imag #[t] ty (td #[x]) (f.eval h x)) d K f h :=
 q1 (by
  unfold dC jC oi yw fY
  simp only [List.map_cons,List.map_nil]
  cases be [f.eval h x] with
  | none=>rfl
  | some us=>
   simp only
   generalize cQ P _=r
   cases r with
   | none=>rfl
   | some n=>cases n<;>rfl)
end
section
variable {P:Program} {ty:TypeId}
theorem ahk {ts:Array TypeId} {cs:Array Bool} {a b:Nat}:po P .complex ts ty cs (.float .f64 a) (.float .f64 b)=some (.complex .f64 a b):=rfl
theorem ahl {ts:Array TypeId} {cs:Array Bool} {k:FloatKind} {a b:Nat}:yw P .real ts ty cs (.complex k a b)=some (.float k a):=rfl
theorem ahm {ts:Array TypeId} {cs:Array Bool} {k:FloatKind} {a b:Nat}:yw P .imag ts ty cs (.complex k a b)=some (.float k b):=rfl
def GQ (P:Program) (t:TypeId):Option FloatKind:=match P.underlying t with | some (.float k)=>some k | _=>none
theorem Uy {t:TypeId} {k:FloatKind} (h:GQ P t=some k):P.underlying t=some (.float k):=by
 unfold GQ at h;split at h
 ·rename_i hu;simp at h;subst h;exact hu
 ·cases h
theorem Uz {t:TypeId} {k:IntKind} (h:kK P t=some k):P.underlying t=some (.int k):=by
 unfold kK at h;split at h
 ·rename_i hu;simp at h;subst h;exact hu
 ·cases h
theorem Pq {src dst:TypeId} {h:I} {k:IntKind} {k2:FloatKind} {a:Int} (U:kK P src=some k) (a7:GQ P dst=some k2):lQ P src dst (.int k a) h=some (.float k2 (k2.nearest a)):=by
 unfold lQ
 have e:(lN (.int k a)).bind (fun x=>cQ P (convert src dst x))=some (.float k2 (k2.nearest a)):=by
  show cQ P (convert src dst (.int k a))=_
  unfold convert
  rw [gC,xK (Uz U),Option.bind_some,gC,xK (Uy a7)]
  rfl
 rw [e]
 rfl
theorem ahn {src dst:TypeId} {h:I} {k:FloatKind} {k2:IntKind} {b:Nat} {n:Int} (U:GQ P src=some k) (a7:kK P dst=some k2) (aG:(k.decode b).toInt .zero=some n) (h1:k2.min≤n) (aa:n≤k2.max):lQ P src dst (.float k b) h=some (.int k2 n):=by
 unfold lQ
 have e:(lN (.float k b)).bind (fun x=>cQ P (convert src dst x))=some (.int k2 n):=by
  show cQ P (convert src dst (.float k b))=_
  unfold convert
  rw [gC,xK (Uy U),Option.bind_some,gC,xK (Uz a7)]
  show cQ P (Conv.floatToInt k b k2)=_
  unfold Conv.floatToInt
  simp only [aG,if_pos (show k2.min≤n∧n≤k2.max from ⟨h1,aa⟩)]
  rfl
 rw [e]
 rfl
theorem aho {k:FloatKind} {a b:Nat}:(V.complex k a b).cells=some [.complex k a b]:=rfl
theorem ahp {k:FloatKind} {a b:Nat}:(V.complex k a b).one=true:=rfl
theorem bj.complex (k:FloatKind) (a b:Nat):bj (.complex k a b):=bj.flat rfl
end
section
variable {P:Program} {t dI hY:TypeId} {d:TypeDesc} {κ:Type} [DecidableEq κ] {ke:κ→V} {α:Type} {enc:α→V}
end
def mh (P:Program) (n l:Nat) (c:Code) (Q:cq→ah→I→Prop) (f:ah) (h:I):Prop :=
 ∀ (ρ:Ren) (B:Nat) (aK:World) (a:Act) (w:World),aQ ρ B aK h w→dS ρ n f a→c.wpIn (Fence.wide.inRound l) 0 P (lh n B aK ρ Q) a w
section
variable {P:Program} {n l:Nat} {Q:cq→ah→I→Prop} {f:ah} {h:I}
theorem mh.mono {y8:cq→ah→I→Prop} {c:Code} (U:mh P n l c Q f h) (ad:∀ e f h,Q e f h→y8 e f h):mh P n l c y8 f h :=
 fun ρ B aK a w hw aq=>wpIn_mono (U ρ B aK a w hw aq) fun _ _ _ ⟨ρ',x,bI,h',ag,bL,b4,az,cX⟩=>⟨ρ',x,bI,h',ag,bL,b4,az,ad _ _ _ cX⟩
theorem mh.region {id:Nat} {ops:Array Oper} (a1:ops.toList.all (fun o=>sw n o.dst)=true)
  (ad:mb P ops.toList ops.toList (Q .normal) (Q .panic) f h):mh P n l (.region id ops false) Q f h:=by
 intro ρ B aK a w hw aq
 refine wpIn_region ?_
 have:=JW (sb.inRound l) (rm:=0) (P:=P) a1 (ρ0:=ρ) ops.toList 0 (by simp) ρ f h a w (Ren.le.refl ρ) hw aq ad
 rwa [Array.length_toList,←List.range_eq_range'] at this
theorem mh.block {id:Nat} {c:Code} (U:mh P n l c (Ez id Q) f h):mh P n l (.block id c) Q f h:=by
 intro ρ B aK a w hw aq
 refine wpIn_block (wpIn_mono (U ρ B aK a w hw aq) fun e hB w' ⟨ρ',x,bI,h',ag,bL,b4,az,cX⟩=>?_)
 cases x<;>cases e<;>simp only [pR] at ag
 ·exact ⟨ρ',.normal,bI,h',trivial,bL,b4,az,cX⟩
 ·subst ag
  simp only [Ez] at cX
  simp only [Exit.inBlock]
  split
  ·rename_i he
   simp only [he,if_true] at cX
   exact ⟨ρ',.normal,bI,h',trivial,bL,b4,az,cX⟩
  ·rename_i he
   simp only [he,if_false] at cX
   exact ⟨ρ',.exit _,bI,h',rfl,bL,b4,az,cX⟩
 ·exact ⟨ρ',.goto _,bI,h',ag,bL,b4,az,cX⟩
 ·exact ⟨ρ',.ret,bI,h',trivial,bL,b4,az,cX⟩
 ·exact ⟨ρ',.panic,bI,h',ag,bL,b4,az,cX⟩
end
theorem ahq {ρ:Ren} {n:Nat} {f:ah} {a:Act} (aq:dS ρ n f a):aT ρ ((List.range n).map f) a.tmps.toList:=by
 refine ⟨by simp [aq.size],fun k v v' h1 aa=>?_⟩
 have hk:k<n:=by have:=(List.getElem?_eq_some_iff.1 h1).1;simpa using this
 have bq:=aq.tmps k
 simp only [List.getElem?_map,List.getElem?_range hk,Option.map_some,Option.some.injEq] at h1
 have vd:a.tmps[k]?=some v':=by simpa using aa
 rw [Array.getD_eq_getD_getElem?,vd] at bq
 subst h1
 exact bq
theorem ahr {ρ:Ren} {n:Nat} {f:ah} {arr:List Value} (az:aT ρ ((List.range n).map f) arr) (a7:ρ.dfr=[]):dS ρ n (fun t=>if t<n then f t else .top) { tmps:=arr.toArray,defers:=[] }:=by
 have U:arr.length=n:=by have:=az.1;simpa using this.symm
 refine ⟨fun t=>?_,by simpa using U,a7.symm⟩
 simp only
 split
 ·rename_i bq
  obtain ⟨v',h1,aa⟩:=az.get (k:=t) (v:=f t) (by simp [bq])
  have:(arr.toArray).getD t undef=v':=by rw [Array.getD_eq_getD_getElem?];simp [h1]
  rw [this];exact aa
 ·exact .top _
theorem aQ.rh {ρ:Ren} {B:Nat} {aK:World} {h:I} {w:World} (R:aQ ρ B aK h w) {i l:Nat} {mk:List Value→Obj} {vs:List V} (av:h.get i=.jB l mk vs) :
  ∃ arr,w.heap[l]?=some (mk arr)∧aT ρ vs arr∧∀ mk',aQ ρ B aK (h.set i (.jB l mk' vs)) (w.putObj l (mk' arr)):=by
 have aR:=R.heap.obj i
 rw [av] at aR
 obtain ⟨bw,arr,aH,aq,bM,hw,az⟩:=aR
 have aN:=(Array.getElem?_eq_some_iff.1 hw).1
 refine ⟨arr,hw,az,fun mk'=>R.sx aH (by rw [av];simp) (fun k hk=>World.putObj_heap_other hk) (by simp) ⟨rfl,rfl,rfl,by simp,fun k hk=>World.putObj_heap_other (by omega),Nat.le_refl _⟩ ?_⟩
 exact ⟨bw,arr,aH,aq,bM,World.putObj_heap_same aN,az⟩
theorem aQ.AF {ρ:Ren} {B:Nat} {aK:World} {h:I} {w:World} (R:aQ ρ B aK h w) (mk:List Value→Obj) {vs:List V} {arr:List Value} (az:aT ρ vs arr) :
  ∃ ρ',ρ.le ρ'∧aQ ρ' B aK (h.push (.jB w.heap.size mk vs)) (w.alloc (mk arr)):=by
 have hle:=Ren.qO (R.heap.kg _ (Nat.le_refl _)) w.heap.size 0
 have zS:ρ.frz w.heap.size=none:=by
  cases aq:ρ.frz w.heap.size with
  | none=>rfl
  | some a=>
   obtain ⟨e,fl,hw⟩:=R.heap.frz _ _ aq
   have:=(Array.getElem?_eq_some_iff.1 hw).1
   omega
 have hold:∀ k,k<w.heap.size→(w.alloc (mk arr)).heap[k]?=w.heap[k]?:=fun k hk=>Below.heap_alloc _ _ _ hk
 obtain ⟨h1,aa⟩:=R.yT (w':=w.alloc (mk arr)) (o:=.jB w.heap.size mk vs) 0 (by simp) hold ((gD.refl _ _).alloc R.heap.base _) ⟨0,arr,Ren.l8,zS,R.heap.base,World.alloc_heap_new _ _,az.mono hle⟩
 exact ⟨_,h1,aa⟩
def uy (fn:FuncId) (p:Tmp) (assign body:Code) (D:Nat) (st:LoopState):List Value→Obj:=fun arr=>.loop { state:=st,pending:=none,fn,tmps:=arr.toArray,params:=#[p],assign,body,defers:=D }
def Pr (n:Nat) (f:ah) (p:Tmp) (v:V):ah:=ah.put (fun t=>if t<n then f t else .top) (some p) v
theorem kl.of {P:Program} {n l i:Nat} {fn:FuncId} {p:Tmp} {assign body:Code} {D:Nat} {f:ah} {v:V} {h:I} {R:V→I→Prop} (aZ:p<n)
  (av:h.get i=.jB l (uy fn p assign body D .ready) ((List.range n).map f)) (M:ah→I→Prop)
  (aO:mh P n l assign (fun z bI h'=>z=.normal∧h'.get i=.jB l (uy fn p assign body D .ready) ((List.range n).map f)∧M bI h') (Pr n f p v) h)
  (ak:∀ bI h',M bI h'→mh P n l body (fun z _ aa=>z=.normal∧aa.get i=.jB l (uy fn p assign body D .busy) ((List.range n).map f)∧R (.bool true) (aa.set i (.jB l (uy fn p assign body D .ready) ((List.range n).map f)))) bI (h'.set i (.jB l (uy fn p assign body D .busy) ((List.range n).map f)))) :
  kl P l [v] h R:=by
 intro ρ B aK w args' hw nQ
 obtain ⟨arr,hW,wb,_⟩:=hw.rh av
 obtain ⟨v',im,he,aD,bq⟩:=nQ.di
 obtain rfl:=bq.eq_nil
 have oC:args'=#[v']:=by apply Array.ext';simpa using he
 subst oC
 have bd:=run_yield (P:=P) (args:=#[v']) hW rfl
 refine ⟨fn,_,assign,body,bd,roundIn_of_wpIn trivial ?_⟩
 have sc:dS { ρ with dfr:=[] } n (Pr n f p v) { tmps:=((#[p].zip #[v']).foldl (fun tmps (t,a)=>tmps.setIfInBounds t a) arr.toArray),defers:=[] }:=by
  have:=(ahr (ρ:={ ρ with dfr:=[] }) (wb.dfr []) rfl).put (aD.dfr []) (some p) (by simp [sw,aZ])
  simpa [Act.put,Pr] using this
 refine wpIn_mono (aO { ρ with dfr:=[] } B aK _ w (hw.dfr []) sc) fun e cG c2 ⟨ρ1,x,f1,h1,ag,eO,tq,ie,cX⟩=>?_
 obtain ⟨rfl,ef,j8⟩:=cX
 cases e<;>simp only [pR] at ag
 obtain ⟨y7,UA,ahs,db⟩:=eO.rh ef
 refine ⟨_,run_beginRound UA rfl,?_⟩
 have iN:=db (uy fn p assign body D .busy)
 refine wpIn_mono (ak f1 h1 j8 ρ1 B aK cG _ iN tq) fun e a3 k8 ⟨ρ3,x,f3,aC,ag,yt,tr,pw,cX⟩=>?_
 obtain ⟨rfl,UB,eR⟩:=cX
 cases e<;>simp only [pR] at ag
 obtain ⟨aht,UC,ahu,KD⟩:=yt.rh UB
 refine ⟨_,_,run_endRound none UC,?_⟩
 have sd:=KD (uy fn p assign body D .ready)
 have GR:=ie.trans pw
 exact ⟨{ ρ3 with dfr:=ρ.dfr },.bool true,.bool true,_,rfl,.bool _,sd.dfr ρ.dfr,⟨GR.ren,GR.frz,rfl⟩,eR⟩
theorem ae.iP {P:Program} {bt gf:FuncId} {fn:Func} {A A2 assign body:Code} {id:Nat} {g p:Tmp} (nH:P.funcs[bt]?=some fn)
  (ak:fn.body=some (.seq A (.seq A2 (.block id (.rangeFunc (.tmp g) #[p] assign body))))) (gm:bT P gf=true) {args:List V} (hlen:args.length≤fn.ntmps) {h:I} {R:V→I→Prop} {K:ah→I→Prop} {caps:ah→List V}
  (h1:aX P fn.ntmps A (fun z f h=>z=.normal∧aX P fn.ntmps A2 (fun z f h=>z=.normal∧K f h) f h) (iP args) h)
  (av:∀ f h,K f h→f g=.func (.func gf) [] (caps f))
  (e0:∀ f h1,K f h1→∀ (l D:Nat) (q:FuncId) (aa:I),aa=(h1.push (.jB D (fun _=>.deferred (some [])) [])).push (.jB l (uy q p assign body D .ready) ((List.range fn.ntmps).map f)) →
   ae P gf (.func (.yield l) [] []::caps f) aa (fun _ aC=>aC.get (h1.n+1)=.jB l (uy q p assign body D .ready) ((List.range fn.ntmps).map f)∧aC.get h1.n=.jB D (fun _=>.deferred (some [])) [] ∧
    (∃ r,pS P fn.results.toList f ((aC.set (h1.n+1) .dead).set h1.n .dead)=some r∧R r ((aC.set (h1.n+1) .dead).set h1.n .dead)))):ae P bt args h R:=by
 intro ρ B aK w args' hw aO
 refine callsIn_wide.1 (callsIn_of_wp_marks (n:=0) nH ak trivial ?_)
 apply wpIn_seq
 refine wpIn_mono (wpIn_wide.2 (h1 { ρ with dfr:=[] } B aK _ w (hw.dfr []) (OA (aO.dfr []) hlen rfl))) ?_
 rintro e cG c2 ⟨ρ1,z,f1,rf,ag,eO,tq,ie,rfl,aa⟩
 cases e<;>simp only [pR] at ag
 show (Code.seq A2 _).wpIn Fence.wide 0 P _ cG c2
 apply wpIn_seq
 refine wpIn_mono (wpIn_wide.2 (aa ρ1 B aK cG c2 eO tq)) ?_
 rintro e a2 bX ⟨ρ2,z,f2,fN,ag,iN,hK,gp,rfl,bQ⟩
 cases e<;>simp only [pR] at ag
 show (Code.block id _).wpIn Fence.wide 0 P _ a2 bX
 apply wpIn_block
 have Ps:=ie.trans gp
 have jm:a2.defers=[]:=(hK.defers.trans gp.dfr).trans ie.dfr
 refine wpIn_rangeFunc ?_
 intro q ad
 obtain ⟨ρ3,pw,yt⟩:=iN.AF (fun _=>.deferred (some [])) (aT.nil ρ2)
 have j0:aT ρ3 ((List.range fn.ntmps).map f2) a2.tmps.toList:=(ahq hK).mono pw
 obtain ⟨ρ4,nO,sd⟩:=yt.AF (uy q p assign body bX.heap.size .ready) j0
 have bf:(bX.alloc (Obj.deferred (some []))).heap.size=bX.heap.size+1:=by simp
 rw [bf] at sd
 have cw:=e0 f2 fN bQ (bX.heap.size+1) bX.heap.size q _ rfl
 have GS:=hK.tmps g
 rw [av f2 fN bQ] at GS
 obtain ⟨rX,KE,Pt⟩:∃ rX:Array Value,aT ρ4 (caps f2) rX.toList∧a2.eval (.tmp g)=.func (.func gf) #[] rX:=by
  have he:a2.eval (.tmp g)=a2.tmps.getD g undef:=rfl
  rw [he]
  generalize a2.tmps.getD g undef=x at GS
  cases GS with
  | func apv eZ ff ag bd=>
   rename_i eV vV
   have:eV=#[]:=Array.eq_empty_of_size_eq_zero eZ.symm
   subst this
   exact ⟨vV,((dH.list ⟨ff,bd⟩).mono pw).mono nO,rfl⟩
 have oC:aT ρ4 (.func (.yield (bX.heap.size+1)) [] []::caps f2) (#[Value.func (.yield (bX.heap.size+1)) #[] #[]]++rX).toList:=by
  have h0:aA ρ4 (.func (.yield (bX.heap.size+1)) [] []) (.func (.yield (bX.heap.size+1)) #[] #[]):=.func _ rfl rfl (by simp) (by simp)
  simpa using aT.cons h0 KE
 have cv:=run_enterLoop_outer (P:=P) (w:=bX) q a2.tmps #[p] assign body
 have UD:uy q p assign body bX.heap.size .ready a2.tmps.toList=.loop { state:=.ready,pending:=none,fn:=q,tmps:=a2.tmps,params:=#[p],assign,body,defers:=bX.heap.size }:=by simp [uy]
 rw [UD] at sd
 obtain ⟨W,vG⟩:∃ W,W=(bX.alloc (.deferred (some []))).alloc (.loop { state:=.ready,pending:=none,fn:=q,tmps:=a2.tmps,params:=#[p],assign,body,defers:=bX.heap.size }):=⟨_,rfl⟩
 rw [←vG] at sd cv
 obtain ⟨vg, Pu, Ml⟩ : ∃ vg, P.funcs[gf]? = some vg ∧ (vg.body.isSome && vg.name != "runtime.NumGoroutine") = true := by
  unfold bT at gm
  split at gm
  ·rename_i vg wM;exact ⟨vg,wM,gm⟩
  ·cases gm
 simp only [Bool.and_eq_true,bne_iff_ne,ne_eq] at Ml
 have Dt:vg.body.isNone=false:=by cases ak:vg.body<;>simp_all
 refine ⟨bX.heap.size+1,[{ target:=.collected bX.heap.size,args:=#[] }],W,{ target:=.fn (.func gf) rX,args:=#[.func (.yield (bX.heap.size+1)) #[] #[]] },W,gf,
  #[.func (.yield (bX.heap.size+1)) #[] #[]]++rX,W,cv,?_,?_,?_,(fun ab=>by cases ab),?_⟩
 ·simp only [resolve,Pt]
  simp [go_sem]
 ·intro bI b4;trivial
 ·simp only [invoke,callFunc]
  simp [Pu,Ml.2]
  intro ab
  simp [ab] at Dt
 ·refine callsIn_wide.2 ((cw ρ4 B aK _ _ sd oC).mono fun e B8 ab=>?_)
  rcases ab with ⟨ρ5,r,cm,bY,rfl,apw,qo,Mm,tv,Mn,ahv,UE,eR⟩ | ⟨_,_,_,_,_,_,_,bF⟩
  case inr=>exact bF.elim
  obtain ⟨wN,Mo,_,_⟩:=qo.rh tv
  have apx:=(qo.kill (fN.n+1))
  have Mp:=qo.heap.obj fN.n
  rw [Mn] at Mp
  obtain ⟨apy,ahw,apz,apA,apB,UF,_⟩:=Mp
  have GU:=qo.heap.obj (fN.n+1)
  rw [tv] at GU
  obtain ⟨UG,ahx,Mq,Pv,UH,AG,_⟩:=GU
  have Pw:=(Array.getElem?_eq_some_iff.1 Mo).1
  refine ⟨none,_,run_endLoop Mo (by simp [uy]),?_⟩
  have bO:bX.heap.size≠bX.heap.size+1:=by omega
  have Px:(B8.putObj (bX.heap.size+1) (.loop { state:=.exhausted,pending:=none,fn:=q,tmps:=wN.toArray,params:=#[p],assign,body,defers:=bX.heap.size })).heap[bX.heap.size]?=some (.deferred (some [])):=(World.putObj_heap_other bO).trans UF
  have Mr:aQ ρ5 B aK ((bY.set (fN.n+1) .dead).set fN.n .dead) ((B8.putObj (bX.heap.size+1) (.loop { state:=.exhausted,pending:=none,fn:=q,tmps:=wN.toArray,params:=#[p],assign,body,defers:=bX.heap.size })).putObj bX.heap.size (.deferred none)):=by
   have s1:=qo.sx (o:=.jB (bX.heap.size+1) (fun _=>.loop { state:=.exhausted,pending:=none,fn:=q,tmps:=wN.toArray,params:=#[p],assign,body,defers:=bX.heap.size }) []) Mq (by rw [tv];simp) (w':=B8.putObj (bX.heap.size+1) (.loop { state:=.exhausted,pending:=none,fn:=q,tmps:=wN.toArray,params:=#[p],assign,body,defers:=bX.heap.size })) (fun k hk=>World.putObj_heap_other hk) (by simp)
    ⟨rfl,rfl,rfl,by simp,fun k hk=>World.putObj_heap_other (by omega),Nat.le_refl _⟩ ⟨UG,[],Mq,Pv,UH,World.putObj_heap_same Pw,aT.nil _⟩
   have Py:(bY.set (fN.n+1) (.jB (bX.heap.size+1) (fun _=>.loop { state:=.exhausted,pending:=none,fn:=q,tmps:=wN.toArray,params:=#[p],assign,body,defers:=bX.heap.size }) [])).get fN.n=.jB bX.heap.size (fun _=>.deferred (some [])) []:=by
    show (if fN.n=fN.n+1 then _ else bY.get fN.n)=_
    rw [if_neg (by omega),Mn]
   obtain ⟨ahy,_,_,KF⟩:=s1.rh Py
   have s2:=KF fun _=>.deferred none
   have iy:=(s2.kill (fN.n+1)).kill fN.n
   have ahz:∀ x y,((((bY.set (fN.n+1) x).set fN.n y).set (fN.n+1) .dead).set fN.n .dead)=(bY.set (fN.n+1) .dead).set fN.n .dead:=fun x y=>by
    simp only [I.set]
    congr 1
    funext j
    by_cases h1:j=fN.n
    ·simp [h1]
    ·by_cases aa:j=fN.n+1
     ·simp [aa]
     ·simp [h1,aa]
   rw [ahz] at iy
   exact iy
  show LeavesInM _ _ P fn a2.tmps _ ([{ target:=.collected bX.heap.size,args:=#[] }]++a2.defers) .returning _
  rw [jm]
  refine ⟨by simp,.inl ⟨bX.heap.size,_,rfl,run_takeDeferred Px,?_⟩⟩
  show ∃ v,(results fn a2.tmps).run P _=.ok v _∧_
  have GV:Ren.le { ρ with dfr:=[] } ρ5:=((Ps.trans pw).trans nO).trans Mm
  have UI:dS ρ5 fn.ntmps f2 a2:=hK.mono ((pw.trans nO).trans Mm)
  obtain ⟨UJ,cn,cO⟩:=Oz Mr UI UE
  exact ⟨UJ,cn,.inl ⟨{ ρ5 with dfr:=ρ.dfr },ahv,UJ,_,rfl,cO.dfr ρ.dfr,Mr.dfr ρ.dfr,⟨GV.ren,GV.frz,rfl⟩,eR⟩⟩
def EM (P:Program):Nat→List Field→Option (List (List Nat×Bool))
 | _,[]=>some []
 | o, f :: cr => if f.name ≠ "_" ∧ f.offset = o then
   match P.underlying f.type with
   | some (.int _)=>(EM P (o+1) cr).map fun l=>([0],false)::l
   | some (.struct gs)=>if P.stoodInHeld f.type=false then
     (match Ay P 0 gs.toList,P.info? f.type with
     | some aE,some bZ=>if bZ.size=aE.length then (EM P (o+aE.length) cr).map fun l=>(aE,true)::l else none
     | _,_=>none)
    else none
   | _=>none
  else none
def KG (P:Program) (t:TypeId):Option (List (List Nat×Bool)):=match P.underlying t with
 | some (.struct cr)=>if P.stoodInHeld t=false∧P.eqGuardType P.depth t=false then EM P 0 cr.toList else none
 | _=>none
def mi:List (List Nat×Bool)→List V→List V→Option Bool
 | [],[],[]=>some true
 | [],_,_=>none
 | (aE,_)::r,xs,ys=>match e2 aE (xs.take aE.length) (ys.take aE.length),mi r (xs.drop aE.length) (ys.drop aE.length) with
  | some a,some b=>some (a&&b)
  | _,_=>none
section
variable {P:Program}
theorem ahA {t:TypeId} {i:TypeInfo} (h:P.info? t=some i):cQ P (sizeOf t)=some i.size:=by
 have e:cQ P (typeInfo t)=some i:=by
  unfold typeInfo
  rw [gC,EF]
  simp only [Option.bind_some,h]
  rfl
 show cQ P (typeInfo t >>= fun q=>pure q.size)=_
 rw [gC,e]
 rfl
theorem UK {t:TypeId} {cr:Array Field} {i:TypeInfo} {cs:Array Value} {o:Nat} (hu:P.underlying t=some (.struct cr)) (hi:P.info? t=some i):cQ P (part t cs o)=some (.agg (cs.extract o (o+i.size))):=by
 have aO:cQ P (isAgg t)=some true:=by
  unfold isAgg
  rw [gC,B4 hu]
  rfl
 unfold part
 rw [gC,aO]
 simp only [Option.bind_some,if_true,gC,ahA hi,r0]
theorem m5:∀ {xs:List V} {vs:List Value} (n:Nat),be xs=some vs→be (xs.take n)=some (vs.take n)∧be (xs.drop n)=some (vs.drop n)
 | xs,vs,0,h=>⟨rfl,h⟩
 | [],vs,n+1,h=>by
  obtain rfl:[]=vs:=by simpa [be] using h
  exact ⟨rfl,rfl⟩
 | x::xs,vs,n+1,h=>by
  unfold be at h
  split at h
  ·rename_i a l aO az
   obtain rfl:=Option.some.inj h
   obtain ⟨h1,aa⟩:=m5 n az
   refine ⟨?_,aa⟩
   rw [List.take_succ_cons]
   unfold be
   rw [aO,h1]
   rfl
  ·cases h
theorem Pz:∀ {xs ys:List V} {vs ws:List Value},be xs=some vs→be ys=some ws→be (xs++ys)=some (vs++ws)
 | [],ys,vs,ws,h,aa=>by
  obtain rfl:[]=vs:=by simpa [be] using h
  exact aa
 | x::xs,ys,vs,ws,h,aa=>by
  unfold be at h
  split at h
  ·rename_i a l aO az
   obtain rfl:=Option.some.inj h
   rw [List.cons_append]
   unfold be
   rw [aO,Pz az aa]
   rfl
  ·cases h
theorem UL {d:Nat} {t:TypeId} {cr:Array Field} {X Y:Array Value} {b:Bool} (hu:P.underlying t=some (.struct cr)) (cR:P.stoodInHeld t=false) (cv:cQ P (Op.eqFields d X Y cr.toList)=some b) :
  cQ P (Op.equalIn (d+1) t (.agg X) (.agg Y))=some b:=by
 have iv : ∀ cr : List Field, cQ P (forIn cr ((none, ()) : Option Bool × Unit) fun f r => if f.name ≠ "_" then do
   let a ←part f.type X f.offset
   let c ←part f.type Y f.offset
   let q ←Op.equalIn d f.type a c
   if (!q)=true then pure (ForInStep.done (some false,())) else pure (ForInStep.yield (none,()))
   else pure (ForInStep.yield (none,())))=(cQ P (Op.eqFields d X Y cr)).map fun r=>if r then (none,()) else (some false,()):=fun cr=>by
  induction cr with
  | nil=>rfl
  | cons f cr ih=>
   rw [List.forIn_cons]
   unfold Op.eqFields
   by_cases aG : f.name ≠ "_"
   ·rw [if_pos aG,if_pos aG]
    simp only [gC,Option.bind_assoc]
    cases cQ P (part f.type X f.offset) with
    | none=>rfl
    | some a=>
     simp only [Option.bind_some]
     cases cQ P (part f.type Y f.offset) with
     | none=>rfl
     | some c=>
      simp only [Option.bind_some]
      cases cQ P (Op.equalIn d f.type a c) with
      | none=>rfl
      | some q=>
       cases q
       ·rfl
       ·simpa [r0] using ih
   ·rw [if_neg aG,if_neg aG]
    simp only [gC,r0,Option.bind_some]
    exact ih
 unfold Op.equalIn
 simp only [gC,B4 hu,Option.bind_some,EF,cR,Bool.false_eq_true,if_false]
 rw [←Array.forIn_toList]
 have aa:=iv cr.toList
 rw [cv] at aa
 first
  | (simp only [gC] at *;rw [aa];cases b<;>rfl)
  | (erw [aa];cases b<;>rfl)
theorem PA {d:Nat} {X Y:Array Value}:∀ (cr:List Field) (o:Nat) (aE:List (List Nat×Bool)) (xs ys:List V) (dV eC:List Value) (b:Bool),EM P o cr=some aE→mi aE xs ys=some b→be xs=some dV→be ys=some eC →
  X.toList.drop o=dV→Y.toList.drop o=eC→cQ P (Op.eqFields (d+2) X Y cr)=some b
 | [],o,aE,xs,ys,dV,eC,b,hk,he,ag,bd,fC,o0=>by
  simp [EM] at hk
  subst hk
  cases xs<;>cases ys<;>simp [mi] at he
  subst he
  rfl
 | f::cr,o,aE,xs,ys,dV,eC,b,hk,he,ag,bd,fC,o0=>by
  unfold EM at hk
  split at hk
  case isFalse=>cases hk
  rename_i aG
  have AH:∀ (l:List Nat) (q:Bool) (B9:List (List Nat×Bool)),mi ((l,q)::B9) xs ys=some b→∃ a c,e2 l (xs.take l.length) (ys.take l.length)=some a∧mi B9 (xs.drop l.length) (ys.drop l.length)=some c∧b=(a&&c):=fun l q B9 h=>by
   unfold mi at h
   split at h
   ·rename_i a c h1 aa
    exact ⟨a,c,h1,aa,(Option.some.inj h).symm⟩
   ·cases h
  have fin:∀ (a c:Bool) (PB PC:Value),cQ P (part f.type X f.offset)=some PB→cQ P (part f.type Y f.offset)=some PC→cQ P (Op.equalIn (d+2) f.type PB PC)=some a→cQ P (Op.eqFields (d+2) X Y cr)=some c →
    cQ P (Op.eqFields (d+2) X Y (f::cr))=some (a&&c):=fun a c PB PC h1 aa aC bz=>by
   unfold Op.eqFields
   rw [if_pos aG.1,gC,h1]
   simp only [Option.bind_some]
   rw [gC,aa]
   simp only [Option.bind_some]
   rw [gC,aC]
   simp only [Option.bind_some]
   cases a
   ·rfl
   ·simpa using bz
  split at hk
  ·rename_i kk hu
   obtain ⟨B9,DH,rfl⟩:=Option.map_eq_some_iff.1 hk
   obtain ⟨a,c,h1,aa,rfl⟩:=AH _ _ _ he
   simp only [List.length_cons,List.length_nil,Nat.zero_add] at h1 aa
   cases xs with
   | nil=>simp [e2] at h1
   | cons wG cg=>
    cases ys with
    | nil=>cases wG<;>simp [e2] at h1
    | cons B5 cZ=>
     cases wG<;>cases B5<;>first | (simp [e2] at h1;done) | skip
     rename_i bB p k2 q
     simp only [List.take_succ_cons,List.take_zero,List.drop_succ_cons,List.drop_zero] at h1 aa
     have qn:(if bB=k2 then (e2 [] [] []).map (fun x=>(p==q)&&x) else none)=some a:=h1
     split at qn
     case isFalse=>cases qn
     rename_i tp
     subst tp
     have GW:some ((p==q)&&true)=some a:=qn
     rw [Bool.and_true] at GW
     obtain rfl:=Option.some.inj GW
     simp only [be,lN] at ag bd
     cases bY:be cg with
     | none=>rw [bY] at ag;cases ag
     | some c2=>
      cases da:be cZ with
      | none=>rw [da] at bd;cases bd
      | some bX=>
       rw [bY] at ag;rw [da] at bd
       obtain rfl:=Option.some.inj ag
       obtain rfl:=Option.some.inj bd
       obtain ⟨g1,g2⟩:=drop_cons fC
       obtain ⟨g3,g4⟩:=drop_cons o0
       have ih:=PA (d:=d) cr (o+1) B9 cg cZ c2 bX c DH aa bY da g2 g4
       rw [aG.2] at fin
       exact fin _ _ _ _ (Kr hu rfl (by rw [←Array.getElem?_toList];exact g1)) (Kr hu rfl (by rw [←Array.getElem?_toList];exact g3)) (T5 (d:=d+1) hu) ih
  ·rename_i gs hu
   split at hk
   case isFalse=>cases hk
   rename_i cR
   split at hk
   case h_2=>cases hk
   rename_i l bZ az yx
   split at hk
   case isFalse=>cases hk
   rename_i bf
   obtain ⟨B9,DH,rfl⟩:=Option.map_eq_some_iff.1 hk
   obtain ⟨a,c,h1,aa,rfl⟩:=AH _ _ _ he
   obtain ⟨ck,dW⟩:=m5 l.length ag
   obtain ⟨EN,GX⟩:=m5 l.length bd
   have PD:X.toList.drop (o+l.length)=dV.drop l.length:=by rw [←fC,List.drop_drop]
   have ahB:Y.toList.drop (o+l.length)=eC.drop l.length:=by rw [←o0,List.drop_drop]
   have ih:=PA (d:=d) cr (o+l.length) B9 _ _ _ _ c DH aa dW GX PD ahB
   have ahC:(X.extract o (o+bZ.size)).toList=dV.take l.length:=by
    rw [Array.toList_extract,List.extract_eq_take_drop,fC,bf]
    congr 1
    omega
   have ahD:(Y.extract o (o+bZ.size)).toList=eC.take l.length:=by
    rw [Array.toList_extract,List.extract_eq_take_drop,o0,bf]
    congr 1
    omega
   have ch:=O6 (P:=P) (d:=d) (X:=X.extract o (o+bZ.size)) (Y:=Y.extract o (o+bZ.size)) gs.toList 0 l _ _ _ _ a az h1 ck EN (by rw [List.drop_zero];exact ahC) (by rw [List.drop_zero];exact ahD)
   rw [aG.2] at fin
   exact fin _ _ _ _ (UK hu yx) (UK hu yx) (UL hu cR ch) ih
  ·cases hk
theorem UM:∀ {aE:List (List Nat×Bool)} {xs ys:List V} {b:Bool},mi aE xs ys=some b→∃ dV eC,be xs=some dV∧be ys=some eC
 | [],xs,ys,b,h=>by
  cases xs<;>cases ys<;>simp [mi] at h
  exact ⟨[],[],rfl,rfl⟩
 | (l,q)::aE,xs,ys,b,h=>by
  unfold mi at h
  split at h
  ·rename_i a c h1 aa
   obtain ⟨v1,c2,aw,aW⟩:=EG h1
   obtain ⟨v2,bX,cJ,km⟩:=UM aa
   refine ⟨v1++v2,c2++bX,?_,?_⟩
   ·have:=Pz aw cJ;rwa [List.take_append_drop] at this
   ·have:=Pz aW km;rwa [List.take_append_drop] at this
  ·cases h
theorem ahE {t:TypeId} {aE:List (List Nat×Bool)} {xs ys:List V} {dV eC:List Value} {b:Bool} (hk:KG P t=some aE) (he:mi aE xs ys=some b) (ag:be xs=some dV) (bd:be ys=some eC) :
  cQ P (Op.equal t (.agg dV.toArray) (.agg eC.toArray))=some b∧P.eqGuardType P.depth t=false:=by
 unfold KG at hk
 split at hk
 case h_2=>cases hk
 rename_i cr hu
 split at hk
 case isFalse=>cases hk
 rename_i cR
 refine ⟨?_,cR.2⟩
 show cQ P (Op.equalIn (9999+1) t _ _)=some b
 exact UL hu cR.1 (PA (P:=P) (d:=9997) (X:=dV.toArray) (Y:=eC.toArray) cr.toList 0 aE xs ys dV eC b hk he ag bd (by simp) (by simp))
theorem ahF {t:TypeId} {aE:List (List Nat×Bool)} {xs ys:List V} {b:Bool} {xo yo:Operand} (hk:KG P t=some aE) (he:mi aE xs ys=some b):c0 P .neq t xo yo (.agg xs) (.agg ys)=some (.bool (!b)):=by
 obtain ⟨dV,eC,ag,bd⟩:=UM he
 obtain ⟨h1,aa⟩:=ahE hk he ag bd
 unfold c0
 simp only [mz,ag,bd,Option.map_some]
 have av:cQ P (eqGuard .neq t xo yo (.agg dV.toArray) (.agg eC.toArray))=some ():=by
  simp [eqGuard,gC,EF,aa,r0]
 rw [gC,av]
 simp only [Option.bind_some,binOp,gC,h1,r0,Option.map_some]
 rfl
end
def afUp:=PLift.up (And.intro (And.intro (And.intro (And.intro (And.intro (And.intro (And.intro (And.intro @acF @acG) (And.intro @acH @acK)) (And.intro (And.intro @acL @acM) (And.intro @acN @acO))) (And.intro (And.intro (And.intro @acP @acQ) (And.intro @acR @acI)) (And.intro (And.intro @acJ @acS) @acT))) (And.intro (And.intro (And.intro (And.intro @acU @acV) (And.intro @acW @acX)) (And.intro (And.intro @acY @GT) @acZ)) (And.intro (And.intro (And.intro @ac0 @Tu) (And.intro @ac5 @ac6)) (And.intro (And.intro @ac7 @ac8) @ac9)))) (And.intro (And.intro (And.intro (And.intro (And.intro @ac1 @ac2) (And.intro @ac3 @ac4)) (And.intro (And.intro @adf @adg) (And.intro @adh @adi))) (And.intro (And.intro (And.intro @adj @adk) (And.intro @adl @adm)) (And.intro (And.intro @adn @ado) @adp))) (And.intro (And.intro (And.intro (And.intro @ads @adt) (And.intro @adu @adv)) (And.intro (And.intro @adw @adx) @adz)) (And.intro (And.intro (And.intro @adA @adB) (And.intro @adD @adE)) (And.intro (And.intro @adF @adG) @adH))))) (And.intro (And.intro (And.intro (And.intro (And.intro (And.intro @adI @adJ) (And.intro @adK @adL)) (And.intro (And.intro @adM @adN) (And.intro @adO @adP))) (And.intro (And.intro (And.intro @adS @adU) (And.intro @adV @adX)) (And.intro (And.intro @adY @adZ) @ad0))) (And.intro (And.intro (And.intro (And.intro @ad1 @ad2) (And.intro @ad3 @ad4)) (And.intro (And.intro @ad5 @ad8) @ad9)) (And.intro (And.intro (And.intro @aea @aed) (And.intro @adW @adT)) (And.intro (And.intro @ada @adC) @adb)))) (And.intro (And.intro (And.intro (And.intro (And.intro @ade @adq) (And.intro @adr @ady)) (And.intro (And.intro @adQ @adR) @aeh)) (And.intro (And.intro (And.intro @eval_const @eval_func) (And.intro @aef @aeg)) (And.intro (And.intro @aei @aej) @aer))) (And.intro (And.intro (And.intro (And.intro @aes @aet) (And.intro @aeu @aev)) (And.intro (And.intro @aew @aex) @aey)) (And.intro (And.intro (And.intro @aez @aeB) (And.intro @aeC @aeD)) (And.intro (And.intro @aeE @aeF) @aeG)))))) (And.intro (And.intro (And.intro (And.intro (And.intro (And.intro (And.intro @aeJ @lR) (And.intro @ad6 @ad7)) (And.intro (And.intro @aeL @aeM) (And.intro @aeN @aeO))) (And.intro (And.intro (And.intro @aek @ael) (And.intro @aem @aen)) (And.intro (And.intro @aeo @aep) @wd))) (And.intro (And.intro (And.intro (And.intro @aeq @aeP) (And.intro @aeQ @aeR)) (And.intro (And.intro @aeS @aeT) @aeU)) (And.intro (And.intro (And.intro @aeV @aeW) (And.intro @aeX @aeY)) (And.intro (And.intro @J6 @aeZ) @ae0)))) (And.intro (And.intro (And.intro (And.intro (And.intro @ae1 @ae2) (And.intro @ae3 @all_nil)) (And.intro (And.intro @all_cons @ae4) (And.intro @ae5 @ae6))) (And.intro (And.intro (And.intro @Tz @ae7) (And.intro @TA @ae8)) (And.intro (And.intro @ae9 @F7) @afa))) (And.intro (And.intro (And.intro (And.intro @afb @sF) (And.intro @afe @aff)) (And.intro (And.intro @afg @afh) @F9)) (And.intro (And.intro (And.intro @J8 @TB) (And.intro @afi @BU)) (And.intro (And.intro @TD @Am) @BV))))) (And.intro (And.intro (And.intro (And.intro (And.intro (And.intro @afS @afX) (And.intro @afZ @af0)) (And.intro (And.intro @af1 @afY) (And.intro @eI @cA))) (And.intro (And.intro (And.intro @aP @set_set) (And.intro @set_push @d9)) (And.intro (And.intro @wv @afP) @afQ))) (And.intro (And.intro (And.intro (And.intro @agN @agO) (And.intro @agP @agQ)) (And.intro (And.intro @List.getElem?_cons_zero.{0} @List.getElem?_cons_succ.{0}) @bne_self_eq_false.{0})) (And.intro (And.intro (And.intro @beq_self_eq_true.{0} @Option.some.injEq.{0}) (And.intro @Bool.false_eq_true @decide_true)) (And.intro (And.intro @decide_false @List.map_cons.{0,0}) @List.map_nil.{0,0})))) (And.intro (And.intro (And.intro (And.intro (And.intro @Option.map_some.{0,0} @Option.map_none.{0,0}) (And.intro @Nat.add_zero @Nat.zero_add)) (And.intro (And.intro @Nat.zero_le @List.length_cons.{0}) @List.length_nil.{0})) (And.intro (And.intro (And.intro @List.drop_zero.{0} @List.drop_succ_cons.{0}) (And.intro @List.take_succ_cons.{0} @List.take_zero.{0})) (And.intro (And.intro @List.take_nil.{0} @List.set_cons_zero.{0}) @List.set_cons_succ.{0}))) (And.intro (And.intro (And.intro (And.intro @List.nil_append.{0} @List.append_nil.{0}) (And.intro @List.cons_append.{0} @and_true)) (And.intro (And.intro @true_and @and_self) @if_true.{1})) (And.intro (And.intro (And.intro @if_false.{1} @Bool.and_true) (And.intro @Bool.true_and @Bool.and_self)) (And.intro (And.intro @Bool.not_true @Bool.not_false) @Nat.le_refl)))))))
theorem af:type_of% afUp.down:=afUp.down
def bNUp:=PLift.up (And.intro (And.intro (And.intro (And.intro (And.intro (And.intro @false_implies @agw) @agx) (And.intro @agy @agz)) (And.intro (And.intro (And.intro @agA @agB) @agC) (And.intro @agD @agu))) (And.intro (And.intro (And.intro (And.intro @agE @agF) @agG) (And.intro @agH @implies_true.{0})) (And.intro (And.intro (And.intro @afq @afr) @afs) (And.intro @aft @afu)))) (And.intro (And.intro (And.intro (And.intro (And.intro @afv @afw) @afx) (And.intro @afy @afz)) (And.intro (And.intro (And.intro @afA @afB) @afC) (And.intro @afD @afE))) (And.intro (And.intro (And.intro (And.intro @afF @afG) @afH) (And.intro @afI @afJ)) (And.intro (And.intro (And.intro @afK @afL) @afM) (And.intro @afN @afO)))))
theorem bN:type_of% bNUp.down:=bNUp.down
def h3Up:=PLift.up (And.intro (And.intro (And.intro (And.intro (And.intro @agT @agW) @agX) (And.intro (And.intro @agY @agZ) @v6)) (And.intro (And.intro (And.intro @ag0 @ag1) @ag2) (And.intro @ag3 @ag4))) (And.intro (And.intro (And.intro (And.intro @ag5 @ag6) @ag7) (And.intro (And.intro @ag8 @Pe) @Pf)) (And.intro (And.intro (And.intro @Pg @agU) @agV) (And.intro @NE @not_false_eq_true))))
theorem h3:type_of% h3Up.down:=h3Up.down
end Go.Proofs.YtedkjhifbibpmaaGreatDoor.Ab
