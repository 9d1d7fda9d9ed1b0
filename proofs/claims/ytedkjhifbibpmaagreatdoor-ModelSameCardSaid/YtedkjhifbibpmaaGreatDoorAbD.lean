/-
  Rules of the machine on abstract states. Conditions: as each theorem says.
-/
import Derived.Test.YtedkjhifbibpmaaGreatDoorAbC
import Derived.Recover
import Derived.Lib.LaidTab
import Derived.OpenShut
import Derived.Shelf.SlSortCmp.InsertionK
set_option linter.unusedVariables false
set_option linter.unusedSimpArgs false
set_option maxRecDepth 10000
namespace Go.Proofs.YtedkjhifbibpmaaGreatDoor.Ab
open Go Go.RowKit
inductive ko where
 | bool | int (k:IntKind) | str | bp (s:ko) | unit | cat (a b:ko) | ext (n:Nat)
def ko.width:ko→Nat
 | .unit=>0
 | .cat a b=>a.width+b.width
 | .ext n=>n
 | _=>1
def ko.il (Q:List V→Prop):ko→List V→Prop
 | .ext n,l=>Q l∧l.length=n
 | .bool,l=>∃ b,l=[.bool b]
 | .int k,l=>∃ n,l=[.int k n]∧(Lit.int k n).wf=true
 | .str,l=>∃ s,l=[.string s]
 | .bp s,l=>∃ es:List (List V),l=[.ag es.length es.flatten]∧es.length<2 ^ 47∧∀ e ∈ es,s.il Q e
 | .unit,l=>l=[]
 | .cat a b,l=>∃ ff eY,l=ff++eY∧a.il Q ff∧b.il Q eY
theorem ko.ry {Q:List V→Prop}:∀ {s:ko} {l:List V},s.il Q l→l.length=s.width
 | .ext _,_,⟨_,h⟩=>h
 | .bool,_,⟨_,h⟩=>by subst h;rfl
 | .int _,_,⟨_,h,_⟩=>by subst h;rfl
 | .str,_,⟨_,h⟩=>by subst h;rfl
 | .bp _,_,⟨_,h,_⟩=>by subst h;rfl
 | .unit,_,h=>by have:_=[]:=h;subst this;rfl
 | .cat a b,_,⟨ff,eY,h,h1,ae⟩=>by subst h;rw [List.length_append,ko.ry h1,ko.ry ae];rfl
def HX (P:Program) (g:TypeId→Option ko):Nat→List Field→Option ko
 | _,[]=>some .unit
 | o,f::dT=>
  if f.offset=o then
   match g f.type,HX P g (o+P.cellsOf f.type) dT with
   | some s,some r=>if s.width=P.cellsOf f.type then some (.cat s r) else none
   | _,_=>none
  else none
def CA (P:Program) (T0:TypeId):Nat→TypeId→Option ko
 | 0,_=>none
 | n+1,t=>
  if t=T0 then some (.ext (P.cellsOf t)) else
  match P.underlying t with
  | some .bool=>some .bool
  | some (.int k)=>some (.int k)
  | some .string=>some .str
  | some (.slice e)=>match CA P T0 n e with | some s=>if s.width=P.cellsOf e∧0<s.width∧1≤P.bytesOf e then some (.bp s) else none | none=>none
  | some (.struct dT)=>match HX P (CA P T0 n) 0 dT.toList with | some s=>if s.width=P.cellsOf t then some s else none | none=>none
  | _=>none
section
variable {H:Type} {enc:TypeId×Value→H} {P:Program} {w:World} {base:Nat} {spare:Nat→Bool} {held:Bool} {Q:List V→Prop} {T0:TypeId}
theorem abu {g:TypeId→Option ko} {cs:List Value} {fu:Nat} (aB:∀ t s cs x,g t=some s→DataW.trod enc P w base spare held fu t cs=some x→(∀ n ∈ x.1.weights P t,n≤reachBytes)→∃ l,s.il Q l∧bx (l0 w) l cs) :
  ∀ (dT:List Field) (o:Nat) (s:ko) (xs:List (DataW H×List MemPlace)),HX P g o dT=some s→xs.length=dT.length →
   (∀ (i:Nat) (f:Field),dT[i]?=some f→DataW.trod enc P w base spare held fu f.type ((cs.drop f.offset).take (P.cellsOf f.type))=xs[i]?)→(∀ n ∈ DataW.weightsEach P (dT.map (·.type)) (xs.map (·.1)),n≤reachBytes)→∃ l,s.il Q l∧bx (l0 w) l ((cs.drop o).take s.width)
 | [],o,s,xs,ad,_,_,_=>by
  simp [HX] at ad
  subst ad
  exact ⟨[],rfl,by simpa [ko.width] using bx.nil _⟩
 | f::dT,o,s,xs,ad,aM,ak,av=>by
  unfold HX at ad
  split at ad
  case isFalse=>cases ad
  rename_i bc
  split at ad
  case h_2=>cases ad
  rename_i s1 s2 h1 ae
  split at ad
  case isFalse=>cases ad
  rename_i hw
  obtain rfl:=Option.some.inj ad
  cases xs with
  | nil=>simp at aM
  | cons x xs=>
   have Bj:=ak 0 f rfl
   obtain ⟨ff,f1,cA⟩:=aB _ _ _ _ h1 Bj (fun n aG=>av n (by simp only [List.map_cons,DataW.weightsEach,List.mem_append];exact .inl aG))
   obtain ⟨eY,f2,eb⟩:=abu aB dT _ s2 xs ae (by simpa using aM) (fun i cx aC=>ak (i+1) cx (by simpa using aC)) (fun n aG=>av n (by simp only [List.map_cons,DataW.weightsEach,List.mem_append];exact .inr aG))
   refine ⟨ff++eY,⟨ff,eY,rfl,f1,f2⟩,?_⟩
   have:=cA.append eb
   rw [bc,←hw] at this
   have e:((cs.drop o).take s1.width)++((cs.drop (o+s1.width)).take s2.width)=(cs.drop o).take (s1.width+s2.width):=by
    rw [List.take_add,List.drop_drop]
   rw [e] at this
   exact this
theorem YN:∀ (n:Nat) (t:TypeId) (s:ko) (fuel:Nat) (cs:List Value) (x:DataW H×List MemPlace),(∀ k,k≤fuel→∀ cs x,DataW.trod enc P w base spare held k T0 cs=some x→(∀ n ∈ x.1.weights P T0,n≤reachBytes)→∃ l,Q l∧l.length=P.cellsOf T0∧bx (l0 w) l cs)→CA P T0 n t=some s→DataW.trod enc P w base spare held fuel t cs=some x→(∀ n ∈ x.1.weights P t,n≤reachBytes)→∃ l,s.il Q l∧bx (l0 w) l cs
 | 0,_,_,_,_,_,_,ad,_,_=>by simp [CA] at ad
 | n+1,t,s,fuel,cs,x,e0,ad,h,cp=>by
  unfold CA at ad
  by_cases bw:t=T0
  ·rw [if_pos bw] at ad
   obtain rfl:=Option.some.inj ad
   subst bw
   obtain ⟨l,h1,ae,aA⟩:=e0 fuel (Nat.le_refl _) cs x h cp
   exact ⟨l,⟨h1,ae⟩,aA⟩
  rw [if_neg bw] at ad
  split at ad
  ·rename_i hu
   obtain rfl:=Option.some.inj ad
   obtain ⟨b,rfl,_⟩:=DataW.trod_bool hu h
   exact ⟨[.bool b],⟨b,rfl⟩,.cons (.bool b) (.nil _)⟩
  ·rename_i k hu
   obtain rfl:=Option.some.inj ad
   obtain ⟨m,rfl,_,hw⟩:=DataW.trod_int hu h
   exact ⟨[.int k m],⟨m,rfl,hw⟩,.cons (.int k m) (.nil _)⟩
  ·rename_i hu
   obtain rfl:=Option.some.inj ad
   obtain ⟨b,rfl,_⟩:=DataW.trod_string hu h
   exact ⟨[.string b],⟨b,rfl⟩,.cons (.string b) (.nil _)⟩
  ·rename_i e hu
   split at ad
   case h_2=>cases ad
   rename_i s1 gm
   split at ad
   case isFalse=>cases ad
   rename_i hw
   obtain rfl:=Option.some.inj ad
   rcases DataW.trod_slice hu h with ⟨rfl,_⟩ | ⟨a,len,cap,elems,rest,m,ZT,rfl,vq,_,jT,_,xy,oR,_⟩
   ·exact ⟨[.ag 0 []],⟨[],rfl,by decide,by simp⟩,.cons (.jE none 0 (by simp)) (.nil _)⟩
   ·rcases Nat.eq_zero_or_pos len with h0 | eH
    ·subst h0
     exact ⟨[.ag 0 []],⟨[],rfl,by decide,by simp⟩,.cons (.jE (some a) cap (by simp)) (.nil _)⟩
    ·have each:∀ i,i<len→∃ l:List V,s1.il Q l∧∃ ci:List Value,bx (l0 w) l ci∧∀ j,j<s1.width→w.cell? ((a.add (i * s1.width)).add j)=ci[j]?∧j<ci.length:=fun i hi=>by
      have h1:=oR i hi
      have ae:∃ y,elems[i]?=some y:=⟨_,List.getElem?_eq_getElem (by omega)⟩
      obtain ⟨y,bs⟩:=ae
      rw [bs,Option.bind_eq_some_iff] at h1
      obtain ⟨ci,jc,iJ⟩:=h1
      obtain ⟨l,f1,cA⟩:=YN n e s1 m ci y (fun k hk=>e0 k (by omega)) gm iJ (fun n aG=>cp n (by
       rw [vq]
       simp only [DataW.weights,hu]
       exact List.mem_cons_of_mem _ (List.mem_append_left _ (abg (List.mem_map.2 ⟨y,List.mem_of_getElem? bs,rfl⟩) aG))))
      rw [←hw.1] at jc
      obtain ⟨g1,g2⟩:=y4 jc
      exact ⟨l,f1,ci,cA,fun j aX=>⟨g2 j aX,by omega⟩⟩
     obtain ⟨es,ye,rp⟩:=YA len each
     have gh:∀ e ∈ es,s1.il Q e:=fun e he=>by
      obtain ⟨i,hi⟩:=List.getElem?_of_mem he
      exact (rp i e hi).1
     have hlen:∀ e ∈ es,e.length=s1.width:=fun e he=>ko.ry (gh e he)
     obtain ⟨b,off,sp⟩:=a
     have mE:∃ v,w.cell? ⟨b,off,sp⟩=some v:=by
      obtain ⟨_,ci,_,aF⟩:=(rp 0 es[0] (List.getElem?_eq_getElem (by omega)))
      obtain ⟨cq,cP⟩:=aF 0 hw.2.1
      rw [Nat.zero_mul] at cq
      simp only [Addr.add,if_true] at cq
      exact ⟨_,cq.trans (List.getElem?_eq_getElem cP)⟩
     obtain ⟨v0,o5⟩:=mE
     have av:∃ arr nW ky,w.heap[b]?=some (.cells arr nW ky)∧sp=none:=by
      unfold World.cell? at o5
      split at o5
      ·rename_i c nW ky af
       refine ⟨c,nW,ky,af,?_⟩
       cases sp with
       | none=>rfl
       | some _=>simp at o5
      ·cases o5
     obtain ⟨arr,nW,ky,av,rfl⟩:=av
     have A1:∀ m,w.cell? (Addr.add ⟨b,off,none⟩ m)=arr[off+m]?:=fun m=>by
      rw [Addr.add_mid]
      simp [World.cell?,av]
     have sg:∀ i j,j<s1.width→w.cell? ((Addr.add ⟨b,off,none⟩ (i * s1.width)).add j)=arr[off+(i * s1.width+j)]?:=fun i j _=>by
      rw [Addr.add_mid,Addr.add_mid]
      simp [World.cell?,av,Nat.add_assoc]
     have bz:es.length<2 ^ 47:=by
      have h0:=cp ((elems.length+rest.length) * P.bytesOf e) (by rw [vq];simp [DataW.weights,hu])
      have h1:=Nat.le_trans (Nat.le_mul_of_pos_right _ hw.2.2) h0
      have ae:=reachBytes_lt
      omega
     refine ⟨[.ag es.length es.flatten],⟨es,rfl,bz,gh⟩,.cons ?_ (.nil _)⟩
     rw [ye]
     refine .ag off len cap (Rw av) jT ?_ fun k v v' h1 ae=>?_
     ·rw [YC hlen,ye]
      obtain ⟨_,ci,_,aF⟩:=(rp (len - 1) es[len - 1] (List.getElem?_eq_getElem (by omega)))
      obtain ⟨cq,cP⟩:=aF (s1.width - 1) (by omega)
      rw [sg _ _ (by omega),List.getElem?_eq_getElem cP] at cq
      have ey:=(Array.getElem?_eq_some_iff.1 cq).1
      have:(len - 1) * s1.width+s1.width=len * s1.width:=by
       rw [←Nat.succ_mul];congr 1;omega
      omega
     ·obtain ⟨ar,g1,g2⟩:=YB hw.2.1 hlen h1
      obtain ⟨_,ci,aU,aF⟩:=rp _ ar g1
      have aX:k % s1.width<s1.width:=Nat.mod_lt _ hw.2.1
      obtain ⟨cq,cP⟩:=aF _ aX
      rw [sg _ _ aX,show k / s1.width * s1.width+k % s1.width=k by rw [Nat.mul_comm];exact Nat.div_add_mod k s1.width,ae] at cq
      exact aU.2 _ _ _ g2 cq.symm
  ·rename_i dT hu
   split at ad
   case h_2=>cases ad
   rename_i s1 gm
   split at ad
   case isFalse=>cases ad
   rename_i hw
   obtain rfl:=Option.some.inj ad
   obtain ⟨xs,m,ZT,vq,dk,qj,ak⟩:=DataW.trod_struct hu h
   obtain ⟨l,f1,cA⟩:=abu (fu:=m) (fun t s cs x h1 ae aA=>YN n t s m cs x (fun k hk=>e0 k (by omega)) h1 ae aA) dT.toList 0 s1 xs gm (by simpa using qj) (fun i f aC=>ak i f (by simpa using aC)) (fun n aG=>cp n (by rw [vq];simp only [DataW.weights,hu];exact aG))
   rw [List.drop_zero,hw,←dk,List.take_length] at cA
   exact ⟨l,f1,cA⟩
  ·cases ad
theorem ars {n:Nat} {dT:Array Field} {s1:ko} (hu:P.underlying T0=some (.struct dT)) (gm:HX P (CA P T0 n) 0 dT.toList=some s1) (hw:s1.width=P.cellsOf T0) (e0:∀ l,s1.il Q l→Q l) :
  ∀ (fuel:Nat) (cs:List Value) (x:DataW H×List MemPlace),DataW.trod enc P w base spare held fuel T0 cs=some x→(∀ n ∈ x.1.weights P T0,n≤reachBytes)→∃ l,Q l∧l.length=P.cellsOf T0∧bx (l0 w) l cs:=by
 intro fuel
 induction fuel using Nat.strongRecOn with
 | _ fuel ih=>
  intro cs x h cp
  obtain ⟨xs,m,ZT,vq,dk,qj,ak⟩:=DataW.trod_struct hu h
  obtain ⟨l,f1,cA⟩:=abu (Q:=Q) (fu:=m) (fun t s cs x h1 ae aA=>YN (Q:=Q) n t s m cs x (fun k hk=>ih k (by omega)) h1 ae aA) dT.toList 0 s1 xs gm (by simpa using qj) (fun i f aC=>ak i f (by simpa using aC)) (fun n aG=>cp n (by rw [vq];simp only [DataW.weights,hu];exact aG))
  rw [List.drop_zero,hw,←dk,List.take_length] at cA
  exact ⟨l,e0 l f1,by rw [ko.ry f1,hw],cA⟩
theorem ajQ {n n':Nat} {dT:Array Field} {s1:ko} (hu:P.underlying T0=some (.struct dT)) (gm:HX P (CA P T0 n) 0 dT.toList=some s1) (hw:s1.width=P.cellsOf T0) (e0:∀ l,s1.il Q l→Q l)
  {t:TypeId} {s:ko} (ad:CA P T0 n' t=some s) {fuel:Nat} {cs:List Value} {x:DataW H×List MemPlace} (h:DataW.trod enc P w base spare held fuel t cs=some x) (cp:∀ n ∈ x.1.weights P t,n≤reachBytes):∃ l,s.il Q l∧bx (l0 w) l cs :=
 YN n' t s fuel cs x (fun k _ cs x h cp=>ars hu gm hw e0 k cs x h cp) ad h cp
end
def abv (P:Program) (g:FuncId) (args:List V) (h:J) (R:J→Prop):Prop :=
 ∀ (ρ:Ren) (B:Nat) (bg w:World) (args':Array Value),bt ρ B bg h w→bx ρ args args'.toList →
  CallsD P g args' .returning w fun e wT w'=>e=.returned (.tuple #[])∧wT=.returning∧∃ (ρ':Ren) (h':J),bt ρ' B bg h' w'∧ρ.le ρ'∧R h'
def abw (P:Program) (g:FuncId) (args:List V) (h:J) (R:J→Prop):Prop :=
 ∀ (ρ:Ren) (B:Nat) (bg w:World) (args':Array Value) (t:TypeId) (v:Value),bt ρ B bg h w→bx ρ args args'.toList →
  CallsD P g args' (.panicking [{ v:=.iface t v,recovered:=false }]) w fun e wT w'=>e=.returned (.tuple #[])∧wT=.panicking [{ v:=.iface t v,recovered:=true }]∧∃ (ρ':Ren) (h':J),bt ρ' B bg h' w'∧ρ.le ρ'∧R h'
def Eu (P:Program) (fn:Func) (R:V→J→Prop) (f:aE) (h:J):Prop:=match wY P fn.results.toList f h with | some r=>R r h | none=>False
theorem ab.J4 {P:Program} {ca g:FuncId} {fn:Func} {A A2 C:Code} {ZU:Nat} {t x y:Tmp} {ajR ajS:TypeId} {abx aby} {abz abA} {ajT:Array TypeId} (ph:P.funcs[ca]?=some fn)
  (av:fn.body=some (.seq A (.seq A2 (.seq (.region ZU #[⟨some t,.makeFunc (.func g) #[] #[.tmp x,.tmp y],ajR,abx,abz,none⟩,⟨none,.defer ⟨.value (.tmp t),#[],ajT⟩,ajS,aby,abA,none⟩] false) C))))
  (bw:t<fn.ntmps) (jh:bK P g=true) {args:List V} (hlen:args.length≤fn.ntmps) {h:J} {R:V→J→Prop} {M:aE→J→Prop} {KR KP:V→V→aE→J→Prop}
  (h1:aP P fn.ntmps A (fun z f h=>z=.normal∧aP P fn.ntmps A2 (fun z f h=>(z=.ret∧Eu P fn R f h)∨(z=.normal∧M f h)) f h) (nw args) h)
  (aA:∀ f h,M f h→aP P fn.ntmps C (fun z cx h'=>((z=.ret∨z=.normal)∧KR (f x) (f y) cx h')∨(z=.panic∧KP (f x) (f y) cx h')) (f.put (some t) .top) h)
  (e1:∀ fQ hx cx h',KR fQ hx cx h'→abv P g [fQ,hx] h' (Eu P fn R cx))
  (n1:∀ fQ hx cx h',KP fQ hx cx h'→abw P g [fQ,hx] h' (Eu P fn R cx)):ab P ca args h R:=by
 intro ρ B bg w args' hw a6
 refine calls_of_wp_defers ph av ?_
 have fin:∀ (ρ':Ren) (f:aE) (h':J) (mq:Act) (w':World),Ren.le { ρ with dfr:=[] } { ρ' with dfr:=[] }→bt ρ' B bg h' w'→hN ρ' fn.ntmps f mq→Eu P fn R f h' →
   ∃ v,(results fn mq.tmps).run P w'=.ok v w'∧((∃ (ρ':Ren) (r:V) (dY:Value) (h':J),Ending.returned v=.returned dY∧a1 ρ' r dY∧bt ρ' B bg h' w'∧ρ.le ρ'∧R r h') ∨
    (∃ (ρ':Ren) (nv:List PanicEntry) (h':J),Ending.returned v=.panicked nv∧JL nv∧bt ρ' B bg h' w'∧ρ.le ρ'∧False)):=by
  intro ρ' f h' mq w' aM cY dp e0
  unfold Eu at e0
  cases vn:wY P fn.results.toList f h' with
  | none=>simp [vn] at e0
  | some r=>
  simp only [vn] at e0
  obtain ⟨dY,cq,cP⟩:=aaY cY dp vn
  exact ⟨dY,cq,.inl ⟨{ ρ' with dfr:=ρ.dfr },r,dY,h',rfl,cP.dfr ρ.dfr,cY.dfr ρ.dfr,⟨aM.ren,aM.frz,rfl⟩,e0⟩⟩
 apply wp_seq
 refine wp_mono (h1 { ρ with dfr:=[] } B bg _ w (hw.dfr []) (aaZ (a6.dfr []) hlen rfl)) ?_
 rintro e cw c9 ⟨ρ1,z,f1,qk,ak,gD,Bn,lf,rfl,ae⟩
 cases e<;>simp only [wg] at ak
 show (Code.seq A2 _).wp P _ cw c9
 apply wp_seq
 refine wp_mono (ae ρ1 B bg cw c9 gD Bn) ?_
 rintro e a2 b0 ⟨ρ2,z,f2,jn,ak,oG,nu,jr,b4⟩
 have eY:Ren.le { ρ with dfr:=[] } { ρ2 with dfr:=[] }:=⟨(lf.trans jr).ren,(lf.trans jr).frz,rfl⟩
 rcases b4 with ⟨rfl,b4⟩ | ⟨rfl,b4⟩
 ·cases e<;>simp only [wg] at ak
  show Leaves P fn a2.tmps _ a2.defers .returning b0
  rw [show a2.defers=[] from (nu.defers.trans jr.dfr).trans lf.dfr]
  exact fin ρ2 f2 jn a2 b0 eY oG nu b4
 ·cases e<;>simp only [wg] at ak
  show (Code.seq (.region ZU _ false) C).wp P _ a2 b0
  apply wp_seq
  apply wp_region
  have bz:=nu.size
  have ajU:a2.defers=[]:=(nu.defers.trans jr.dfr).trans lf.dfr
  have fT:=aA f2 jn b4
  obtain ⟨fQ,s7⟩:∃ v,v=a2.tmps.getD x undef:=⟨_,rfl⟩
  obtain ⟨hx,RO⟩:∃ v,v=a2.tmps.getD y undef:=⟨_,rfl⟩
  have rx:=nu.tmps x
  have ajV:=nu.tmps y
  rw [←s7] at rx
  rw [←RO] at ajV
  have qM:=nu.put (v:=.top) (v':=.func (.func g) #[] #[fQ,hx]) (.top _) (some t) (by simpa [zC] using bw)
  let d:Deferred:={ target:=.fn (.func g) #[fQ,hx],args:=#[] }
  have kW:C.wp P (bodyPostD P fn fun e w'=>(∃ (ρ':Ren) (r:V) (dY:Value) (h':J),e=.returned dY∧a1 ρ' r dY∧bt ρ' B bg h' w'∧ρ.le ρ'∧R r h') ∨
    (∃ (ρ':Ren) (nv:List PanicEntry) (h':J),e=.panicked nv∧JL nv∧bt ρ' B bg h' w'∧ρ.le ρ'∧False)) { tmps:=(a2.put (some t) (.func (.func g) #[] #[fQ,hx])).tmps,defers:=[d] } b0:=by
   have jY:hN { ρ2 with dfr:=[d] } fn.ntmps (f2.put (some t) .top) { tmps:=(a2.put (some t) (.func (.func g) #[] #[fQ,hx])).tmps,defers:=[d] } :=
    ⟨fun k=>(qM.tmps k).dfr [d],qM.size,rfl⟩
   refine wp_mono (fT { ρ2 with dfr:=[d] } B bg _ b0 (oG.dfr [d]) jY) ?_
   rintro e a3 la ⟨ρ3,z,f3,ZV,ak,Hp,xB,uo,RP⟩
   have Pt:a3.defers=[d]:=xB.defers.trans uo.dfr
   have RQ:ρ2.le { ρ3 with dfr:=ρ2.dfr }:=uo.ub
   have PW:bx { ρ3 with dfr:=ρ2.dfr } [f2 x,f2 y] #[fQ,hx].toList:=bx.cons (rx.mono RQ) (bx.cons (ajV.mono RQ) (bx.nil _))
   have wX:Ren.le { ρ with dfr:=[] } { ρ3 with dfr:=[] }:=⟨fun i q af=>uo.ren i q (eY.ren i q af),fun i q af=>uo.frz i q (eY.frz i q af),rfl⟩
   have hinv:(invoke d.target d.args).run P la=.ok (.enter g #[fQ,hx]) la:=by
    unfold bK at jh
    cases aB:P.funcs[g]? with
    | none=>simp [aB] at jh
    | some aug=>
     simp only [aB,Bool.and_eq_true,bne_iff_ne,ne_eq] at jh
     simp [d,invoke,callFunc,aB,jh.1,jh.2,Option.isSome_iff_ne_none.1 jh.1]
   rcases RP with ⟨RP,hk⟩ | ⟨rfl,hk⟩
   ·have abB:Leaves P fn a3.tmps (fun e w'=>(∃ (ρ':Ren) (r:V) (dY:Value) (h':J),e=.returned dY∧a1 ρ' r dY∧bt ρ' B bg h' w'∧ρ.le ρ'∧R r h') ∨
      (∃ (ρ':Ren) (nv:List PanicEntry) (h':J),e=.panicked nv∧JL nv∧bt ρ' B bg h' w'∧ρ.le ρ'∧False)) a3.defers .returning la:=by
     rw [Pt]
     refine ⟨by simp,_,_,g,#[fQ,hx],rfl,hinv,?_⟩
     refine ((e1 _ _ _ _ hk) { ρ3 with dfr:=ρ2.dfr } B bg la #[fQ,hx] (Hp.dfr ρ2.dfr) PW).mono ?_
     rintro e wT xN ⟨rfl,rfl,ρ4,bk,zv,s8,he⟩
     have RR:hN { ρ4 with dfr:=[d] } fn.ntmps f3 a3:=⟨fun k=>a1.DZ (ρ:=ρ3) (ρ':={ ρ4 with dfr:=[d] }) (fun i q af=>s8.ren i q af) (fun i q af=>s8.frz i q af) (xB.tmps k),xB.size,Pt⟩
     exact fin { ρ4 with dfr:=[d] } f3 bk a3 xN ⟨fun i q af=>s8.ren i q (wX.ren i q af),fun i q af=>s8.frz i q (wX.frz i q af),rfl⟩ (zv.dfr [d]) RR he
    rcases RP with rfl | rfl<;>cases e<;>simp only [wg] at ak<;>exact abB
   ·cases e with
    | panic nv=>
     obtain ⟨abC,bX,rfl⟩:=ak
     show Leaves P fn a3.tmps _ a3.defers (.panicking _) la
     rw [Pt]
     refine ⟨by simp,_,_,g,#[fQ,hx],rfl,hinv,?_⟩
     refine ((n1 _ _ _ _ hk) { ρ3 with dfr:=ρ2.dfr } B bg la #[fQ,hx] abC bX (Hp.dfr ρ2.dfr) PW).mono ?_
     rintro e wT xN ⟨rfl,rfl,ρ4,bk,zv,s8,he⟩
     have RR:hN { ρ4 with dfr:=[d] } fn.ntmps f3 a3:=⟨fun k=>a1.DZ (ρ:=ρ3) (ρ':={ ρ4 with dfr:=[d] }) (fun i q af=>s8.ren i q af) (fun i q af=>s8.frz i q af) (xB.tmps k),xB.size,Pt⟩
     show Leaves P fn a3.tmps _ [] (settle _) xN
     simp only [settle,List.dropWhile_nil]
     exact fin { ρ4 with dfr:=[d] } f3 bk a3 xN ⟨fun i q af=>s8.ren i q (wX.ren i q af),fun i q af=>s8.frz i q (wX.frz i q af),rfl⟩ (zv.dfr [d]) RR he
    | _=>simp only [wg] at ak
  have ar:a2.eval (.tmp x)=fQ:=by simp [Act.eval,s7]
  have aT:a2.eval (.tmp y)=hx:=by simp [Act.eval,RO]
  simp [wpOps,go_sem]
  refine .inl (.inl ?_)
  rw [if_pos (show t<a2.tmps.size from bz.symm ▸ bw)]
  subst s7 RO
  simpa [Act.put,ajU,d,go_sem,Oper.upon] using kW
section
variable {h:J} {a b c d o:aV}
theorem art:(((h.push a).push b).push c).get h.n=a:=by simp [xK,eA];intro U;omega
theorem aru:(((h.push a).push b).push c).get (h.n+1+1)=c:=by simp [xK,eA]
theorem arv:((((h.push a).push b).push c).push d).get (h.n+1+1)=c:=by
 simp only [xK,eA]
 rw [if_neg (by omega),if_pos trivial]
theorem arw:(((h.push a).push b).push c).set (h.n+1+1) o=((h.push a).push b).push o:=by
 rw [show h.n+1+1=((h.push a).push b).n from rfl,set_push]
end
def t8 (g:Nat→Option (List V)):J:={ n:=0,get:=fun _=>.dead,glob:=g }
def Bo (g:Nat→Option (List V)) (w:World):Prop:=∀ k cs,g k=some cs→∃ arr e ky,w.heap[k]?=some (.cells arr e ky)∧hd (l0 w) cs arr
theorem arx {g:Nat→Option (List V)} {w:World} (aB:Bo g w):bt (l0 w) w.heap.size w (t8 g) w:=by
 have h0:=aba w
 refine ⟨⟨h0.heap.qb,fun i j b c lL h=>by simp [t8] at h,fun _=>trivial,h0.heap.frz,fun k cs hk=>?_,Nat.le_refl _⟩,mm.refl _ _⟩
 obtain ⟨arr,e,ky,hw,aU⟩:=aB k cs hk
 exact ⟨arr,Rw hw,aU⟩
theorem ab.yg {P:Program} {ca:FuncId} {args:List V} {v:V} {a:Value} {g:Nat→Option (List V)} (aF:ab P ca args (t8 g) fun r _=>r=v) (aN:r3 v=some a) {w:World} (aB:Bo g w)
  {args':Array Value} (a6:bx (l0 w) args args'.toList):Calls P ca args' w fun e w'=>e=.returned a∧Below w.heap.size w w' :=
 (aF (l0 w) w.heap.size w w args' (arx aB) a6).mono fun e w' U=>by
  rcases U with ⟨ρ',r,dY,h',he,Ed,hw,_,e1⟩ | ⟨_,_,_,_,_,_,_,bC⟩
  ·subst e1
   rw [D1 Ed aN] at he
   exact ⟨he,hw.below.below⟩
  ·exact bC.elim
theorem YO {P:Program} {w:World} {name:String} {k:IntKind} {zs:List Int} {g:Nat} (aB:P.globalNamed name=some g) (h:Lib.TabIs P w name k zs):∃ arr e ky,w.heap[g]?=some (.cells arr e ky)∧hd (l0 w) (zs.map (V.int k)) arr:=by
 unfold Lib.TabIs World.var? at h
 rw [aB] at h
 simp only [Option.bind_some] at h
 split at h
 ·rename_i cs e ky af
  obtain rfl:=Option.some.inj h
  refine ⟨_,e,ky,af,by simp,fun i v v' h1 ae=>?_⟩
  simp only [List.getElem?_map,Option.map_eq_some_iff,List.getElem?_toArray] at h1 ae
  obtain ⟨n,aG,rfl⟩:=h1
  obtain ⟨m,hm,rfl⟩:=ae
  rw [aG] at hm
  cases hm
  exact .int k n
 ·cases h
section
variable {H:Type} {enc:TypeId×Value→H} {P:Program} {w:World} {base:Nat} {spare:Nat→Bool} {held:Bool} {Q:List V→Prop} {T0:TypeId}
theorem abD {n n':Nat} {dT:Array Field} {s1:ko} {t:TypeId} {s:ko} {xs:Array Value} {d:DataW H} {ps:List MemPlace} (hu:P.underlying T0=some (.struct dT)) (gm:HX P (CA P T0 n) 0 dT.toList=some s1) (hw:s1.width=P.cellsOf T0) (e0:∀ l,s1.il Q l→Q l)
  (ad:CA P T0 n' t=some s) (cp:∀ n ∈ d.weights P t,n≤reachBytes) (h:DataW.Trod enc P w base spare held t (.agg xs) d ps):∃ l:List V,s.il Q l∧a1 (l0 w) (.agg l) (.agg xs):=by
 obtain ⟨fuel,aC⟩:=h
 obtain ⟨l,h1,ae⟩:=ajQ (Q:=Q) hu gm hw e0 ad aC cp
 exact ⟨l,h1,ae.nt.agg⟩
theorem ary {n n':Nat} {dT:Array Field} {s1:ko} {t e:TypeId} {s:ko} {a:Option Addr} {len cap:Nat} {d:DataW H} {ps:List MemPlace} (RS:P.underlying t=some (.slice e)) (hu:P.underlying T0=some (.struct dT)) (gm:HX P (CA P T0 n) 0 dT.toList=some s1) (gD:s1.width=P.cellsOf T0) (e0:∀ l,s1.il Q l→Q l)
  (ad:CA P T0 n' e=some s) (hw:s.width=P.cellsOf e∧0<s.width∧1≤P.bytesOf e) (cp:∀ n ∈ d.weights P t,n≤reachBytes) (h:DataW.Trod enc P w base spare held t (.slice a len cap) d ps) :
  ∃ es:List (List V),(∀ x ∈ es,s.il Q x)∧a1 (l0 w) (.ag es.length es.flatten) (.slice a len cap)∧es.length<2 ^ 47:=by
 obtain ⟨fuel,aC⟩:=h
 have bZ:t≠T0:=fun U=>by rw [U,hu] at RS;cases RS
 obtain ⟨l,⟨es,rfl,aG,oI⟩,aU⟩:=ajQ (Q:=Q) (n':=n'+1) (s:=.bp s) hu gm gD e0 (by simp only [CA,if_neg bZ,RS,ad,if_pos hw]) aC cp
 exact ⟨es,oI,aU.2 0 _ _ rfl rfl,aG⟩
end
section
variable {P:Program} {t:TypeId}
end
def po (v v2:V):Prop:=∀ ρ v',a1 ρ v v'→a1 ρ v2 v'
def pq (l eY:List V):Prop:=∀ ρ ck,bx ρ l ck→bx ρ eY ck
theorem po.refl (v:V):po v v:=fun _ _ h=>h
theorem pq.refl (l:List V):pq l l:=fun _ _ h=>h
theorem pq.cons {v v2:V} {l eY:List V} (a:po v v2) (b:pq l eY):pq (v::l) (v2::eY):=fun ρ ck h=>by
 obtain ⟨v',nV,rfl,h1,ae⟩:=h.fh
 exact bx.cons (a ρ v' h1) (b ρ nV ae)
theorem pq.append {a a2 b b1:List V} (a6:pq a a2) (aM:a.length=a2.length) (av:pq b b1):pq (a++b) (a2++b1):=fun ρ ck h=>by
 have h1:=h.take a.length
 have ae:=h.drop a.length
 rw [List.take_left] at h1
 rw [List.drop_left] at ae
 have:=(a6 ρ _ h1).append (av ρ _ ae)
 rwa [List.take_append_drop] at this
theorem po.ah:po .ah (.ag 0 []):=fun ρ v' h=>by cases h;exact .jE none 0 (by simp)
theorem po.ag {n:Nat} {cs Bp:List V} (h:pq cs Bp) (aM:cs.length=Bp.length):po (.ag n cs) (.ag n Bp):=fun ρ v' aN=>by
 cases aN with
 | ag o n cap av aG bc ak=>
  rename_i b arr
  have gw:bx ρ cs ((arr.toList.drop o).take cs.length):=by
   refine ⟨by simp;omega,fun k v v' h1 ae=>?_⟩
   rw [List.getElem?_take] at ae
   split at ae
   ·rw [List.getElem?_drop] at ae
    exact ak k v v' h1 (by simpa using ae)
   ·cases ae
  have ae:=h ρ _ gw
  refine .ag o n cap av aG (by omega) fun k v v' aA bk=>?_
  have hk:k<cs.length:=by rw [aM];exact (List.getElem?_eq_some_iff.1 aA).1
  refine ae.2 k v v' aA ?_
  rw [List.getElem?_take,if_pos hk,List.getElem?_drop]
  simpa using bk
 | jE a c a6=>
  have:Bp=[]:=List.eq_nil_of_length_eq_zero (by simpa using aM.symm)
  subst this
  exact .jE a c a6
theorem po.cast {v v2:V} (a:po v v2) (h:J):aK v h v2 h:=fun ρ B bg w dY hw aN=>⟨ρ,Ren.le.refl ρ,hw,a ρ dY aN⟩
theorem po.agg {l eY:List V} (h:pq l eY):po (.agg l) (.agg eY):=fun ρ v' aN=>by
 cases aN with
 | agg ad ak=>exact (h ρ _ (hd.list ⟨ad,ak⟩)).nt.agg
theorem po.tuple {l eY:List V} (h:pq l eY):po (.tuple l) (.tuple eY):=fun ρ v' aN=>by
 cases aN with
 | tuple ad ak=>exact (h ρ _ (hd.list ⟨ad,ak⟩)).nt.tuple
section
variable {P:Program} {t:TypeId} {T:qi}
theorem w1 {h:J} {e:TypeId} {sz:Nat} {v:V} {cs:List V} (hk:eF P t=some 1) (bc:Own h e sz v cs) {n:Nat} (aG:cs.length=n * sz) (eH:0<sz) (b3:cs.all (·.one)=true):iC P sz t v h=some (n,cs):=by
 obtain ⟨d,hu,bb⟩:=HP hk
 cases d<;>simp [D9] at bb
 rcases bc with ⟨aN,rfl⟩ | ⟨i,len,cap,c,ex,rfl,hi,aB,hlen,cu,fA⟩
 ·have h0:n=0:=by
   have:n * sz=0:=by simpa using aG.symm
   rcases Nat.mul_eq_zero.1 this with h | h<;>omega
  subst h0
  rcases aN with rfl | rfl<;>simp only [iC,hu]
 ·have h1:len=n:=Nat.eq_of_mul_eq_mul_right eH (hlen.symm.trans aG)
  subst h1
  have dk:len * sz≤c.length:=by
   have:=congrArg List.length cu
   rw [List.length_take,hlen] at this
   omega
  simp only [iC,hu,aB,List.drop_zero,Nat.zero_add]
  rw [cu,if_pos ⟨dk,b3⟩]
end
section
variable {H:Type} {enc:TypeId×Value→H} {P:Program} {w:World} {base:Nat} {spare:Nat→Bool} {held:Bool}
theorem auh {r:Reach} {t e:TypeId} {n:Nat} {v:Value} {W:World} (bw:P.underlying t=some (.array n e)) (h:Value.okWide P W r base t v):∃ cs,v=.agg cs∧cs.size=P.cellsOf t:=by
 simp only [Value.okWide,bw] at h
 obtain ⟨cs,h1,ae,_⟩:=h
 exact ⟨cs,h1,ae⟩
end
section
variable {M:Nat→Prop} {bV:Operand→V} {t s:TypeId} {x y z:Operand} {k:Nat}
theorem arz {h:J} {i:Nat} {o:aV}:I h (h.set i o) (fun x=>x=i)=True:=eq_true (I.set h i o)
theorem abE {n:Nat}:(n+1+1=n)=False:=eq_false (by omega)
theorem abF {n:Nat}:(n+1+1+1=n)=False:=eq_false (by omega)
theorem abG {n:Nat}:(n+1+1+1+1=n)=False:=eq_false (by omega)
theorem arA {n:Nat}:(n=n+1)=False:=eq_false (by omega)
theorem arB {n:Nat}:(n=n+1+1)=False:=eq_false (by omega)
theorem arC {n:Nat}:(n=n+1+1+1)=False:=eq_false (by omega)
def zM (M:Nat→Prop) (v:V):Prop:=ru M (oS v)
theorem arD:ru M (vF bV (.move x))=True:=eq_true (by intro i hi;cases hi)
theorem arE:ru M (vF bV (.assign x))=True:=eq_true (by intro i hi;cases hi)
theorem arF:ru M (vF bV (.pick x y z))=True:=eq_true (by intro i hi;cases hi)
theorem arG {ps:Array (Nat×Operand)}:ru M (vF bV (.build t ps))=True:=eq_true (by intro i hi;cases hi)
theorem arH:ru M (vF bV (.nilCheck x))=True:=eq_true (by intro i hi;cases hi)
theorem LT {op:BinOp}:ru M (vF bV (.binOp op t x y s))=True:=eq_true (by intro i hi;cases hi)
theorem arI {op:UnOp}:ru M (vF bV (.unOp op t x))=True:=eq_true (by intro i hi;cases hi)
theorem arJ:ru M (vF bV (.fieldAddr t x k))=True:=eq_true (by intro i hi;cases hi)
theorem arK:ru M (vF bV (.indexAddr t x y))=True:=eq_true (by intro i hi;cases hi)
theorem arL:ru M (vF bV (.extract x k))=True:=eq_true (by intro i hi;cases hi)
theorem arM:ru M (vF bV (.load t x))=zM M (bV x):=rfl
theorem arN {i o:Nat}:zM M (.ptr i o)=¬M i:=propext ⟨fun h=>h i rfl,fun h j aX=>by cases aX;exact h⟩
theorem arO {i:Nat}:zM M (.map i)=¬M i:=propext ⟨fun h=>h i rfl,fun h j aX=>by cases aX;exact h⟩
theorem arP {cs:List V}:zM M (.at cs)=True:=eq_true (by intro i hi;cases hi)
end
section
variable {P:Program} {d:Option Tmp} {K:jo} {f:aE} {h:J}
end
section
variable {P:Program} {t:TypeId} {T:qi}
def qN (h:J) (e:TypeId) (sz:Nat) (i len cap:Nat) (c:List V) (ex:Option Nat) (cs:List V):Prop :=
 i<h.n∧h.get i=.cells c e ex∧cs.length=len * sz∧c.take (len * sz)=cs∧cap<cN∧cap * sz≤c.length∧len≤cap
theorem qN.own {h:J} {e:TypeId} {sz i len cap:Nat} {c cs:List V} {ex:Option Nat} (o:qN h e sz i len cap c ex cs):Own h e sz (.bp i 0 len cap) cs :=
 .inr ⟨i,len,cap,c,ex,rfl,o.1,o.2.1,o.2.2.1,o.2.2.2.1,.inl ⟨o.2.2.2.2.1,o.2.2.2.2.2.1,o.2.2.2.2.2.2⟩⟩
theorem arQ {h:J} {i len sz:Nat} {c:List V} {e:TypeId} (aB:h.get i=.cells c e (some sz)) {ρ:Ren} {B:Nat} {bg w:World} (R:bt ρ B bg h w) {dY:Value} (aU:a1 ρ (.bp i 0 len cN) dY) :
  ∃ C,len≤C∧C<2 ^ 63∧c.length≤C * sz∧bt ρ B bg (h.set i (.cells (c++List.replicate (C * sz - c.length) .top) e none)) w∧a1 ρ (.bp i 0 len C) dY:=by
 obtain ⟨b,cm,hi,aM,rfl⟩:=aU.kT
 have r7:=R.heap.obj i
 rw [aB] at r7
 obtain ⟨c2,xW,arr,q3,aC,cp,hw,aF,jg,bz,wy⟩:=r7
 rw [hi] at q3
 cases q3
 have se:kx cm cN=cm:=by simp [kx,cN]
 rw [se] at aM⊢
 have dk:c.length≤cm * sz:=by omega
 refine ⟨cm,aM,wy,dk,R.zD hi (by rw [aB];simp) (fun k _=>rfl) (Nat.le_refl _) (mm.refl _ _) ?_,?_⟩
 ·have hlen:(c++List.replicate (cm * sz - c.length) V.top).length=arr.size:=by simp;omega
  refine ⟨b,cm,arr,hi,aC,cp,hw,by omega,?_,by rw [hlen];rfl⟩
  rw [hlen,show arr.toList.take arr.size=arr.toList from by rw [List.take_of_length_le (by simp)]]
  refine ⟨by rw [hlen];simp,fun k v v' h1 ae=>?_⟩
  by_cases hk:k<c.length
  ·rw [List.getElem?_append_left hk] at h1
   exact jg.2 k v v' h1 (by rw [List.getElem?_take,if_pos hk];exact ae)
  ·rw [List.getElem?_append_right (by omega)] at h1
   have:=List.mem_of_getElem? h1
   rw [List.mem_replicate] at this
   rw [this.2]
   exact .top _
 ·have fj:kx cm cm=cm:=by unfold kx;rw [if_pos (show cm<cN by unfold cN;omega)]
  have:=a1.bp (ρ:=ρ) hi 0 len cm (by rw [fj];exact aM)
  rw [fj] at this
  exact this
theorem ab.yh {P:Program} {ca:FuncId} {h:J} {e:TypeId} {sz:Nat} {v:V} {cs rest:List V} {R:V→J→Prop} (bc:Own h e sz v cs) (bz:0<sz)
  (h0:(v=.ah∨v=.z0)→cs=[]→ab P ca (v::rest) h R)
  (h1:∀ i len cap c ex h',(v=.bp i 0 len cap∨v=.bp i 0 len cN)→qN h' e sz i len cap c ex cs→cap<2 ^ 63∨v=.bp i 0 len cap→I h h' (·=i)→h'.n=h.n→ab P ca (.bp i 0 len cap::rest) h' R):ab P ca (v::rest) h R:=by
 rcases bc with ⟨aN,dZ⟩ | ⟨i,len,cap,c,ex,rfl,hi,aB,hlen,cu,⟨jc,iJ,o9⟩ | ⟨rfl,rfl⟩⟩
 ·exact h0 aN dZ
 ·exact h1 i len cap c ex h (.inl rfl) ⟨hi,aB,hlen,cu,jc,iJ,o9⟩ (.inr rfl) (I.refl _ _) rfl
 ·intro ρ B bg w args' PU a6
  cases args' with
  | mk l=>
  cases l with
  | nil=>have:=a6.1;simp at this
  | cons a l=>
  have aU:a1 ρ (.bp i 0 len cN) a:=a6.2 0 _ _ rfl rfl
  obtain ⟨C,bo,k2,k3,aaK,eb⟩:=arQ aB PU aU
  have dk:len * sz≤c.length:=by
   have:=congrArg List.length cu
   rw [List.length_take,hlen] at this
   omega
  refine h1 i len C _ none _ (.inr rfl) ⟨by rw [iw];exact hi,aL,hlen,?_,by unfold cN;omega,?_,bo⟩ (.inl k2) (I.set _ _ _) (iw) ρ B bg w _ aaK ?_
  ·rw [List.take_append_of_le_length dk,cu]
  ·simp;omega
  ·refine ⟨by have:=a6.1;simpa using this,fun k v v' cq cP=>?_⟩
   cases k with
   | zero=>cases cq;cases cP;exact eb
   | succ k=>exact a6.2 (k+1) v v' (by simpa using cq) (by simpa using cP)
theorem Qb {sz:Nat} {kk:IntKind} (ad:e5 P t=some sz) (eH:0<sz) {h:J} {e:TypeId} {v:V} {cs:List V} (bc:Own h e sz v cs) {k:Nat} (hk:(k+1) * sz≤cs.length) :
  ∃ i,ir P t v (.int kk (k:Int))=some (.ptr i (k * sz))∧aR v=some i∧i<h.n∧(∀ (h':J) (d:Nat),h'.get i=h.get i→d≤sz→∃ r,da (h'.get i) (k * sz+d)=some (((cs.drop (k * sz)).take sz).drop d++r)) ∧
   ∀ xs:List V,xs.length=sz→xs.all (·.one)=true→∃ ob,bM (some sz) (h.get i) (k * sz) xs=some ob∧Own (h.set i ob) e sz v (lay cs (k * sz) xs)∧I h (h.set i ob) (bn v):=by
 rcases bc with ⟨_,rfl⟩ | ⟨i,len,cap,c,ex,rfl,hi,aB,hlen,cu,fA⟩
 ·have:sz≤(k+1) * sz:=Nat.le_mul_of_pos_left _ (by omega)
  simp at hk;omega
 ·have dk:len * sz≤c.length:=by
   have:=congrArg List.length cu
   rw [List.length_take,hlen] at this
   omega
  have p3:k<len:=by
   rw [hlen] at hk
   have:=Nat.le_of_mul_le_mul_right hk eH
   omega
  have hmul:k * sz+sz=(k+1) * sz:=by rw [Nat.add_mul];omega
  refine ⟨i,?_,rfl,hi,fun h' d U bb=>⟨c.drop (k * sz+sz),?_⟩,fun xs ak bc=>⟨.cells (lay c (k * sz) xs) e ex,?_,.inr ⟨i,len,cap,lay c (k * sz) xs,ex,rfl,by rw [iw];exact hi,aL,?_,?_,?_⟩,(I.set h i _).mono fun k hk=>by subst hk;rfl⟩⟩
  ·rw [Rr,ad,Yt,if_pos ⟨by omega,by omega⟩]
   simp
  ·rw [U,aB,P0,if_pos (by omega),←cu]
   congr 1
   have ar:((c.take (len * sz)).drop (k * sz)).take sz=(c.drop (k * sz)).take sz:=by
    rw [List.drop_take,List.take_take,Nat.min_eq_left]
    have:(k+1) * sz≤len * sz:=Nat.mul_le_mul_right _ p3
    omega
   have aT:=List.take_append_drop (sz - d) (c.drop (k * sz+d))
   rw [List.drop_drop,show k * sz+d+(sz - d)=k * sz+sz by omega] at aT
   rw [ar,List.drop_take,List.drop_drop]
   exact aT.symm
  ·rw [aB]
   unfold bM
   simp only
   rw [if_pos ⟨ak,bc,by omega⟩]
  ·rw [qc _ _ _ (by rw [ak,hlen];omega),hlen]
  ·rw [PL _ _ _ _ (by rw [ak];omega) dk,cu]
  ·rcases fA with ⟨a,b,d⟩ | ⟨a,b⟩
   ·exact .inl ⟨a,by rw [qc _ _ _ (by rw [ak];omega)];exact b,d⟩
   ·exact .inr ⟨a,b⟩
theorem ajW {k:IntKind} {n:Nat}:Cs (.int k (n:Int))=some n:=by simp [Cs]
theorem YP (cS:jq P t=some T) {i o len cap:Nat} (aF:cap<cN):zG P t (.bp i o len cap)=some (.int .i64 cap):=by
 unfold zG
 rw [(wm cS).2.2.2.2.2]
 simp only
 rw [if_pos aF]
theorem YQ {tn:TypeId} {kn kq:IntKind} (cS:jq P t=some T) (aG:nx P tn=some kn) (eH:0<T.sz) {h:J} {i o len cap n:Nat} {c:List V} {aT:TypeId} {ex:Option Nat} (aB:h.get i=.cells c aT ex)
  (h0:0<n) (hu:cap<cN) (aF:cap<len+n) (h1:(len+n) * T.an≤lim) (ae:len+n≤lim) (aC:o+len * T.sz≤c.length) :
  n2 P t tn (.bp i o len cap) (.int kq (n:Int)) h=some (.bp h.n 0 (len+n) cN,h.push (.cells ((c.drop o).take (len * T.sz)++made T.zs n) T.e (some T.sz))):=by
 obtain ⟨he,b4,bz,lz,iP,_⟩:=wm cS
 have vo:∃ k,P.underlying tn=some (.int k):=by
  unfold nx at aG
  split at aG
  ·rename_i k hk;exact ⟨k,hk⟩
  ·cases aG
 obtain ⟨k,vo⟩:=vo
 have eh:iC P T.sz tn (.int kq (n:Int)) h=none:=by unfold iC;rw [vo]
 unfold n2
 simp only [he,b4,bz,lz,if_pos iP,eh]
 unfold aaI
 simp only [vo,aB]
 rw [if_pos ⟨by omega,hu,by simpa using aF,by simpa using h1,by simpa using ae,aC,eH⟩]
 simp
section
variable {sz:Nat} {i o len cap:Nat} {k k2 k3:IntKind}
theorem wz (ad:e5 P t=some sz) (hu:cap<cN) {l:Nat} (aM:l≤len) (aF:len≤cap) :
  kz P t (.bp i o len cap) (some (.int k (l:Int))) none none=some (.bp i (if cap=l then o else o+l * sz) (len - l) (cap - l)):=by
 obtain ⟨e,jU,b4⟩:=Bi ad
 unfold kz
 simp only [jU,b4,Yz,iB,Option.isSome_none,Bool.false_eq_true,false_and,if_false]
 unfold Dz
 rw [if_pos hu,if_pos ⟨aM,aF,Nat.le_refl _⟩]
theorem DG (ad:e5 P t=some sz) (hu:cap<cN) {m:Nat} (hm:m≤cap) :
  kz P t (.bp i o len cap) none (some (.int k (m:Int))) none=some (.bp i o m cap):=by
 obtain ⟨e,jU,b4⟩:=Bi ad
 unfold kz
 simp only [jU,b4,qI,iB,ajW,Option.isSome_none,Bool.false_eq_true,false_and,if_false]
 unfold Dz
 rw [if_pos hu,if_pos ⟨Nat.zero_le _,hm,Nat.le_refl _⟩]
 simp
theorem YR (ad:e5 P t=some sz) (hu:cap<cN) {l m:Nat} (aM:l≤m) (hm:m≤cap) :
  kz P t (.bp i o len cap) (some (.int k (l:Int))) (some (.int k2 (m:Int))) none=some (.bp i (if cap=l then o else o+l * sz) (m - l) (cap - l)):=by
 obtain ⟨e,jU,b4⟩:=Bi ad
 unfold kz
 simp only [jU,b4,Yz,iB,ajW,Option.isSome_none,Bool.false_eq_true,false_and,if_false]
 unfold Dz
 rw [if_pos hu,if_pos ⟨aM,hm,Nat.le_refl _⟩]
theorem YS (ad:e5 P t=some sz) (hu:cap<cN) {l m n:Nat} (aM:l≤m) (hm:m≤n) (aG:n≤cap) :
  ∃ v,kz P t (.bp i o len cap) (some (.int k (l:Int))) (some (.int k2 (m:Int))) (some (.int k3 (n:Int)))=some v:=by
 obtain ⟨e,jU,b4⟩:=Bi ad
 refine ⟨.bp i (if n=l then o else o+l * sz) (m - l) (n - l),?_⟩
 unfold kz
 simp only [jU,b4,Yz,aqM,Option.isSome_some,Option.isNone_some,Bool.false_eq_true,and_false,false_or]
 rw [if_neg (by omega),if_neg (by omega)]
 unfold Dz
 rw [if_pos hu,if_pos ⟨aM,hm,aG⟩]
theorem m4 (ad:e5 P t=some sz) {a:Nat} {l:Nat} (aM:l<len) :
  kz P t (.bp i o len (cN+a)) (some (.int k (l:Int))) none none=some (.bp i (o+l * sz) (len - l) (cN+a+l)):=by
 obtain ⟨e,jU,b4⟩:=Bi ad
 unfold kz
 simp only [jU,b4,Yz,iB,Option.isSome_none,Bool.false_eq_true,false_and,if_false]
 unfold Dz
 rw [if_neg (by omega),if_pos ⟨rfl,by omega,Nat.le_refl _⟩,if_pos (.inr aM)]
end
theorem zi (cS:jq P t=some T) {tx:TypeId} {h:J} {i o dl dc j p n d:Nat} {c bH:List V} {aT cg:TypeId} {ex ajX:Option Nat} (aB:h.get i=.cells c aT ex) (lV:h.get j=.cells bH cg ajX)
  {m:Nat} (hm:Nat.min n dl=m) (h0:0<m) (nu:p+m * T.sz≤bH.length) (aC:o+m * T.sz≤c.length) (b3:((bH.drop p).take (m * T.sz)).all (·.one)=true) :
  GX P t (.bp i o dl dc) (.bp j p n d) h=some (.int .i64 m,h.set i (.cells (lay c o ((bH.drop p).take (m * T.sz))) aT ex)):=by
 obtain ⟨he,b4,bz,lz,iP,_⟩:=wm cS
 have aM:((bH.drop p).take (m * T.sz)).length=m * T.sz:=by rw [List.length_take,List.length_drop];omega
 unfold GX
 simp only [he,bz,Jz,hm]
 simp only [Cu,lV,if_pos nu]
 rw [if_neg (by omega),aB]
 simp only
 rw [if_pos ⟨by rw [aM];exact aC,b3⟩]
end
structure mJ (P:Program) (hg:TypeId) (d:TypeDesc) {κ:Type} [DecidableEq κ] (ke:κ→V):Prop where
 eq:∀ a b,xH P hg d (ke a) (ke b)=some (decide (a=b))
 ok:∀ b a,Ba P b hg (ke a)=true
 bits:∀ a,∃ v,r4 (ke a)=some v∧Instr.sameBits 10000 v v=true
section
variable {P:Program} {t hg nW:TypeId} {d:TypeDesc} {κ:Type} [DecidableEq κ] {ke:κ→V} {α:Type} {enc:α→V}
def fK (ke:κ→V) (enc:α→V) (l:List (Nat×κ×α)):List (Nat×V×V):=l.map fun e=>(e.1,ke e.2.1,enc e.2.2)
def ch (l:List (Nat×κ×α)) (k:κ):Option α :=
 match l with
 | []=>none
 | e::r=>if k=e.2.1 then some e.2.2 else ch r k
def cT (cl:Nat) (l:List (Nat×κ×α)) (k:κ) (a:α):List (Nat×κ×α) :=
 match l with
 | []=>[(cl,k,a)]
 | e::r=>if k=e.2.1 then (e.1,k,a)::r else e::cT cl r k a
def fX (cl:Nat) (l:List (Nat×κ×α)) (k:κ):Nat:=if (ch l k).isSome then cl else cl+1
def hR (l:List (Nat×κ×α)) (k:κ):List (Nat×κ×α) :=
 match l with
 | []=>[]
 | e::r=>if k=e.2.1 then r else e::hR r k
theorem YT (H:mJ P hg d ke) (k:κ):∀ (l:List (Nat×κ×α)),
  (ch l k=none∧va P hg d (ke k) (fK ke enc l)=some none∧(∀ cl a,cT cl l k a=l++[(cl,k,a)])∧hR l k=l) ∨
  (∃ j e,va P hg d (ke k) (fK ke enc l)=some (some j)∧l[j]?=some e∧e.2.1=k∧ch l k=some e.2.2 ∧
   (∀ cl a,fK ke enc (cT cl l k a)=(fK ke enc l).modify j fun e=>(e.1,ke k,enc a))∧fK ke enc (hR l k)=(fK ke enc l).eraseIdx j)
 | []=>.inl ⟨rfl,rfl,fun _ _=>rfl,rfl⟩
 | e::l=>by
  have aC:va P hg d (ke k) (fK ke enc (e::l))=if k=e.2.1 then some (some 0) else (va P hg d (ke k) (fK ke enc l)).map fun (q:Option Nat)=>q.map (·+1):=by
   show (match xH P hg d (ke k) (ke e.2.1) with | some true=>some (some 0) | some false=>(va P hg d (ke k) (fK ke enc l)).map fun (q:Option Nat)=>q.map (·+1) | none=>none)=_
   rw [H.eq]
   by_cases hk:k=e.2.1
   ·simp [hk]
   ·simp [hk]
  by_cases hk:k=e.2.1
  ·refine .inr ⟨0,e,by rw [aC,if_pos hk],rfl,hk.symm,by rw [ch,if_pos hk],fun cl a=>by rw [cT,if_pos hk];rfl,by rw [hR,if_pos hk];rfl⟩
  ·rcases YT H k l with ⟨h1,ae,aA,bk⟩ | ⟨j,fo,h1,ae,aA,bk,bN,dd⟩
   ·refine .inl ⟨by rw [ch,if_neg hk,h1],by rw [aC,if_neg hk,ae];rfl,fun cl a=>by rw [cT,if_neg hk,aA];rfl,by rw [hR,if_neg hk,bk]⟩
   ·refine .inr ⟨j+1,fo,by rw [aC,if_neg hk,h1];rfl,by simpa using ae,aA,by rw [ch,if_neg hk,bk],fun cl a=>?_,?_⟩
    ·rw [cT,if_neg hk]
     show (e.1,ke e.2.1,enc e.2.2)::fK ke enc (cT cl l k a)=_
     rw [bN]
     rfl
    ·rw [hR,if_neg hk]
     show (e.1,ke e.2.1,enc e.2.2)::fK ke enc (hR l k)=_
     rw [dd]
     rfl
theorem Qc (H:mJ P hg d ke) {z:Value} {h:J} {i:Nat} {l:List (Nat×κ×α)} {cl:Nat} {k:κ} {ok:Bool} (hm:gR P t=some (hg,nW,d)) (b4:qH P nW=some z) (aB:h.get i=.map (fK ke enc l) cl) :
  n5 P t (.map i) (ke k) ok h=some (match ch l k with | some a=>(if ok then .tuple [enc a,.bool true] else enc a) | none=>(if ok then .tuple [jQ z,.bool false] else jQ z)):=by
 unfold n5
 simp only [hm,b4,aB,H.ok,if_true]
 rcases YT (enc:=enc) H k l with ⟨h1,ae,_⟩ | ⟨j,e,h1,ae,aA,bk,_⟩
 ·rw [ae,h1]
 ·have:(fK ke enc l)[j]?=some (e.1,ke e.2.1,enc e.2.2):=by simp [fK,ae]
  rw [h1,bk]
  simp only [this]
  rfl
theorem Qd (H:mJ P hg d ke) {h:J} {i:Nat} {l:List (Nat×κ×α)} {cl:Nat} {k:κ} {a:α} {v:V} (hm:gR P t=some (hg,nW,d)) (aB:h.get i=.map (fK ke enc l) cl) (aN:v=enc a) :
  xZ P t (.map i) (ke k) v h=some (h.set i (.map (fK ke enc (cT cl l k a)) (fX cl l k))):=by
 subst aN
 unfold xZ fX
 simp only [hm,aB,H.ok,if_true]
 rcases YT (enc:=enc) H k l with ⟨h1,ae,aA,_⟩ | ⟨j,e,h1,ae,aA,bk,bN,_⟩
 ·rw [ae,h1,aA]
  simp [fK]
 ·have:(fK ke enc l)[j]?=some (e.1,ke e.2.1,enc e.2.2):=by simp [fK,ae]
  obtain ⟨v,aN,ad⟩:=H.bits k
  rw [h1,bk]
  simp only [this,Option.bind_some,aA,aN,ad,if_true,bN]
  rfl
theorem ajY (H:mJ P hg d ke) {h:J} {i:Nat} {l:List (Nat×κ×α)} {cl:Nat} {k:κ} (hm:gR P t=some (hg,nW,d)) (aB:h.get i=.map (fK ke enc l) cl) :
  G0 P t (.map i) (ke k) h=some (h.set i (.map (fK ke enc (hR l k)) cl)):=by
 unfold G0
 simp only [hm,aB,H.ok,if_true]
 rcases YT (enc:=enc) H k l with ⟨h1,ae,_,bk⟩ | ⟨j,e,h1,ae,aA,bk,_,dd⟩
 ·rw [ae,bk]
  simp only
  rw [P3 aB]
 ·rw [h1,dd]
theorem abH:∀ {l:List (Nat×κ×α)} {k:κ},(ch l k).isSome=true→∀ (cl:Nat) (a:α),(cT cl l k a).map (fun e=>(e.1,e.2.1))=l.map (fun e=>(e.1,e.2.1))
 | [],k,h,cl,a=>by simp [ch] at h
 | e::l,k,h,cl,a=>by
  unfold cT
  by_cases hk:k=e.2.1
  ·rw [if_pos hk];simp [hk]
  ·rw [ch,if_neg hk] at h
   rw [if_neg hk,List.map_cons,List.map_cons,abH h]
theorem abI:∀ {l:List (Nat×κ×α)} {k:κ},ch l k=none→∀ (cl:Nat) (a:α),cT cl l k a=l++[(cl,k,a)]
 | [],k,h,cl,a=>rfl
 | e::l,k,h,cl,a=>by
  unfold cT
  by_cases hk:k=e.2.1
  ·rw [ch,if_pos hk] at h;cases h
  ·rw [ch,if_neg hk] at h
   rw [if_neg hk,abI h];rfl
theorem abJ:∀ {l:List (Nat×κ×α)} {k:κ},ch l k=none↔∀ e ∈ l,e.2.1≠k
 | [],k=>by simp [ch]
 | e::l,k=>by
  unfold ch
  by_cases hk:k=e.2.1
  ·simp [hk]
  ·rw [if_neg hk,abJ]
   simp [Ne.symm hk]
theorem CB:∀ (l:List (Nat×κ×α)) (cl:Nat) (k:κ) (a:α) (x:κ),ch (cT cl l k a) x=if x=k then some a else ch l x
 | [],cl,k,a,x=>by simp [cT,ch]
 | e::l,cl,k,a,x=>by
  unfold cT
  by_cases hk:k=e.2.1
  ·rw [if_pos hk]
   unfold ch
   by_cases ak:x=k
   ·simp [ak]
   ·have:x≠e.2.1:=hk ▸ ak
    simp [ak,this]
  ·rw [if_neg hk]
   unfold ch
   by_cases ak:x=e.2.1
   ·have:x≠k:=fun U=>hk (U ▸ ak)
    simp [ak,Ne.symm hk]
   ·rw [if_neg ak,CB l cl k a x,if_neg ak]
def er (l:List (Nat×κ×α)):Prop:=(l.map (·.2.1)).Nodup
omit [DecidableEq κ] in
theorem er.nil:er ([]:List (Nat×κ×α)):=List.nodup_nil
theorem er.set {l:List (Nat×κ×α)} (aG:er l) (cl:Nat) (k:κ) (a:α):er (cT cl l k a):=by
 unfold er at *
 cases aB:ch l k with
 | some b=>
  have h:=abH (l:=l) (k:=k) (by rw [aB];rfl) cl a
  have ae:=congrArg (List.map Prod.snd) h
  rw [List.map_map,List.map_map] at ae
  have aA:(cT cl l k a).map (·.2.1)=l.map (·.2.1):=ae
  rw [aA];exact aG
 | none=>
  rw [abI aB,List.map_append,List.nodup_append]
  refine ⟨aG,by simp,fun x ak y bs=>?_⟩
  obtain ⟨e,he,rfl⟩:=List.mem_map.1 ak
  simp at bs
  subst bs
  exact abJ.1 aB e he
theorem RT:∀ (l:List (Nat×κ×α)) (k:κ),(hR l k).Sublist l
 | [],k=>List.Sublist.refl _
 | e::l,k=>by
  unfold hR
  split
  ·exact List.sublist_cons_self _ _
  ·exact (RT l k).cons_cons _
theorem er.del {l:List (Nat×κ×α)} (aG:er l) (k:κ):er (hR l k):=List.Nodup.sublist ((RT l k).map _) aG
theorem abK:∀ {l:List (Nat×κ×α)},er l→∀ (k x:κ),ch (hR l k) x=if x=k then none else ch l x
 | [],_,k,x=>by simp [hR,ch]
 | e::l,aG,k,x=>by
  have qe:=List.nodup_cons.1 aG
  unfold hR
  by_cases hk:k=e.2.1
  ·rw [if_pos hk]
   by_cases ak:x=k
   ·rw [if_pos ak,abJ]
    intro y bs U
    exact qe.1 (List.mem_map.2 ⟨y,bs,by rw [U,ak,hk]⟩)
   ·rw [if_neg ak,ch,if_neg fun U=>ak (U.trans hk.symm)]
  ·rw [if_neg hk]
   unfold ch
   by_cases ak:x=e.2.1
   ·rw [if_pos ak,if_pos ak,if_neg fun U=>hk (U.symm.trans ak)]
   ·rw [if_neg ak,if_neg ak,abK qe.2 k x]
theorem arR {l:List (Nat×κ×α)} {cl:Nat} {k:κ} {a:α} (ae:List.map (Prod.fst ∘ fun e=>(e.1,e.2.1)) (cT cl l k a)=List.map (Prod.fst ∘ fun e=>(e.1,e.2.1)) l):(fK ke enc (cT cl l k a)).map (·.1)=(fK ke enc l).map (·.1):=by
 unfold fK
 rw [List.map_map,List.map_map]
 exact ae
theorem fH.cT {l:List (Nat×κ×α)} {cl:Nat} (ad:fH (fK ke enc l) cl) (k:κ) (a:α):fH (fK ke enc (cT cl l k a)) (fX cl l k):=by
 cases aB:ch l k with
 | none=>
  have:fX cl l k=cl+1:=by unfold fX;rw [aB];rfl
  rw [this,abI aB]
  have:=ad.snoc (ke k) (enc a)
  simpa [fK] using this
 | some b=>
  have:fX cl l k=cl:=by unfold fX;rw [aB];rfl
  rw [this]
  have h:=abH (l:=l) (k:=k) (by rw [aB];rfl) cl a
  have ae:=congrArg (List.map Prod.fst) h
  rw [List.map_map,List.map_map] at ae
  have aA:=arR (ke:=ke) (enc:=enc) ae
  refine ⟨fun e he=>?_,by rw [aA];exact ad.2⟩
  have:e.1 ∈ (fK ke enc l).map (·.1):=by rw [←aA];exact List.mem_map.2 ⟨e,he,rfl⟩
  obtain ⟨fo,iv,bk⟩:=List.mem_map.1 this
  rw [←bk];exact ad.1 fo iv
theorem fH.hR {l:List (Nat×κ×α)} {cl:Nat} (ad:fH (fK ke enc l) cl) (k:κ):fH (fK ke enc (hR l k)) cl:=by
 have h:=(RT l k).map fun e:Nat×κ×α=>(e.1,ke e.2.1,enc e.2.2)
 exact ⟨fun e he=>ad.1 e (h.subset he),List.Nodup.sublist (h.map _) ad.2⟩
theorem Ml:∀ {l:List (Nat×κ×α)},er l→∀ {e:Nat×κ×α},e ∈ l→ch l e.2.1=some e.2.2
 | [],_,e,he=>by cases he
 | x::l,aG,e,he=>by
  have qe:=List.nodup_cons.1 aG
  unfold ch
  rcases List.mem_cons.1 he with rfl | iv
  ·rw [if_pos rfl]
  ·rw [if_neg fun U=>qe.1 (List.mem_map.2 ⟨e,iv,U⟩)]
   exact Ml qe.2 iv
end
open Go Go.Sort Go.Proofs
theorem mm.grow {W w':World} (h:mm W.heap.size W w'):∃ q ajZ,w'=Sort.grow (W.drewN q) ajZ:=by
 refine ⟨w'.drawn - W.drawn,w'.heap.extract W.heap.size w'.heap.size,?_⟩
 obtain ⟨aj0,bw,Ev,bz,av,bb⟩:=h
 have e:w'.heap=W.heap++w'.heap.extract W.heap.size w'.heap.size:=by
  apply Array.ext_getElem?
  intro k
  rw [Array.getElem?_append]
  by_cases hk:k<W.heap.size
  ·rw [if_pos hk];exact av k hk
  ·rw [if_neg hk,Array.getElem?_extract]
   by_cases ae:k<w'.heap.size
   ·rw [if_pos (by omega),show W.heap.size+(k - W.heap.size)=k by omega]
   ·rw [if_neg (by omega),Array.getElem?_eq_none (by omega)]
 have aT:W.drawn+(w'.drawn - W.drawn)=w'.drawn:=by omega
 cases w'
 cases W
 simp only [Sort.grow,World.drewN] at *
 subst aj0 bw Ev
 rw [←e,aT]
section
variable {ρ:Ren} {B:Nat} {bg:World} {h:J} {w:World}
theorem bt.Qe (R:bt ρ B bg h w) {i b cm:Nat} {c vs:List V} {e:TypeId} {ex:Option Nat} (aB:h.get i=.cells c e ex) (hi:ρ.ren i=some (b,cm)) {d:Array Value} (aN:bx ρ vs d.toList) (aG:vs.length≤c.length) :
  bt ρ B bg (h.set i (.cells (vs++c.drop vs.length) e ex)) (Sort.putRow id w b 0 d):=by
 have bc:=R.heap.obj i
 rw [aB] at bc
 obtain ⟨c2,xW,arr,aU,aC,cp,hw,hlen,jg,ak⟩:=bc
 rw [hi] at aU
 cases aU
 have aH:=(Array.getElem?_eq_some_iff.1 hw).1
 have Dq:d.size=vs.length:=by have:=aN.1;simp at this;omega
 have w0:∀ j,(Sort.putRow id w b 0 d).heap[j]?=if b=j then (w.heap[j]?).map (Sort.onCells (Sort.putCells id 0 d)) else w.heap[j]?:=fun j=>by
  show (w.heap.modify b _)[j]?=_
  rw [Array.getElem?_modify]
 refine R.zD hi (by rw [aB];simp) (fun j aX=>by rw [w0,if_neg (Ne.symm aX)]) (by rw [Sort.size_putRow];exact Nat.le_refl _) ⟨rfl,rfl,rfl,by rw [Sort.size_putRow];exact Nat.le_refl _,fun j aX=>by rw [w0,if_neg (by omega)],Nat.le_refl _⟩ ?_
 have aM:(vs++c.drop vs.length).length=c.length:=by simp;omega
 refine ⟨b,cm,Sort.putCells id 0 d arr,hi,aC,cp,by rw [w0,if_pos rfl,hw];rfl,by rw [aM];simpa [Sort.putCells] using hlen,?_,by rw [aM];simpa [Sort.putCells] using ak⟩
 rw [aM]
 refine ⟨by simp [Sort.putCells];omega,fun j v v' h1 ae=>?_⟩
 rw [List.getElem?_take] at ae
 split at ae
 case isFalse=>cases ae
 rename_i aX
 rw [Array.getElem?_toList] at ae
 unfold Sort.putCells at ae
 rw [Array.getElem?_mapIdx,Option.map_eq_some_iff] at ae
 obtain ⟨x,uh,ic⟩:=ae
 by_cases jS:j<vs.length
 ·rw [if_pos ⟨Nat.zero_le _,by omega⟩] at ic
  subst ic
  rw [List.getElem?_append_left jS] at h1
  refine aN.2 j v _ h1 ?_
  rw [Array.getElem?_toList,Nat.sub_zero,Array.getElem?_eq_getElem (by omega),getElem!_pos d j (by omega)]
  rfl
 ·rw [if_neg (by omega)] at ic
  subst ic
  rw [List.getElem?_append_right (by omega),List.getElem?_drop,show vs.length+(j - vs.length)=j by omega] at h1
  refine jg.2 j v x h1 ?_
  rw [List.getElem?_take,if_pos aX,Array.getElem?_toList]
  exact uh
theorem bt.RU (R:bt ρ B bg h w) {i b cm:Nat} {c vs:List V} {e:TypeId} {ex:Option Nat} (aB:h.get i=.cells c e ex) (hi:ρ.ren i=some (b,cm)) (aF:c.take vs.length=vs) :
  ∃ d:Array Value,bx ρ vs d.toList∧Sort.Holds id w b 0 d∧b<w.heap.size:=by
 have bc:=R.heap.obj i
 rw [aB] at bc
 obtain ⟨c2,xW,arr,aU,aC,cp,hw,hlen,jg,ak⟩:=bc
 rw [hi] at aU
 cases aU
 have dk:vs.length≤c.length:=by
  have:=congrArg List.length aF
  rw [List.length_take] at this
  omega
 refine ⟨(arr.toList.take vs.length).toArray,?_,fun j aX=>?_,(Array.getElem?_eq_some_iff.1 hw).1⟩
 ·have:=jg.take vs.length
  rw [aF,List.take_take,Nat.min_eq_left dk] at this
  simpa using this
 ·simp only [List.size_toArray,List.length_take,Array.length_toList] at aX
  have aj1:j<arr.size:=by omega
  rw [getElem!_pos _ j (by simp;omega)]
  simp [World.cell?,World.frozen?,hw,Array.getElem?_eq_getElem aj1]
theorem bt.Qf (R:bt ρ B bg h w) {i b cm:Nat} (aM:h.get i≠.dead) (hi:ρ.ren i=some (b,cm)) {α:Type} [Inhabited α] (enc:α→List Value) (k m:Nat) (J5:Array α) (os:Array Obj) :
  ∀ c2 a,ρ.frz c2=some a→(l0 (sortWorldK enc k w b 0 m J5 os)).frz c2=some a:=by
 intro c2 a aC
 obtain ⟨e,ky,hw⟩:=R.heap.frz c2 a aC
 obtain ⟨b1,oD,aU,aH,_,kS,_⟩:=R.heap.live aM
 rw [hi] at aU
 cases aU
 have bZ:b≠c2:=fun U=>by subst U;rw [kS] at aC;cases aC
 have zF:=(Array.getElem?_eq_some_iff.1 hw).1
 have h1:(sortWorldK enc k w b 0 m J5 os).heap[c2]?=w.heap[c2]?:=by
  show ((w.heap.modify b _)++os)[c2]?=_
  rw [Array.getElem?_append,if_pos (by simpa using zF),Array.getElem?_modify,if_neg bZ]
 exact Rw (h1.trans hw)
end
theorem ab.RV {P:Program} {ca:FuncId} {args:List V} {v:V} {a:Value} (aF:ab P ca args Eg fun r _=>r=v) (aN:r3 v=some a) {w:World}
  {args':Array Value} (a6:bx (l0 w) args args'.toList):Calls P ca args' w fun e w'=>e=.returned a∧mm w.heap.size w w' :=
 (aF (l0 w) w.heap.size w w args' (aba w) a6).mono fun e w' U=>by
  rcases U with ⟨ρ',r,dY,h',he,Ed,hw,_,e1⟩ | ⟨_,_,_,_,_,_,_,bC⟩
  ·subst e1
   rw [D1 Ed aN] at he
   exact ⟨he,hw.below⟩
  ·exact bC.elim
theorem arS {P:Program} {g:FuncId} {β:Type} {E:β→List V} {cf:β→β→Int} (zN:∀ a b,ab P g [.agg (E a),.agg (E b)] Eg fun r _=>r=.int .i64 (cf a b)) (sq:∀ x,bl (E x))
  {ρ:Ren} {B:Nat} {bg:World} {h:J} {w:World} (R:bt ρ B bg h w) {i b cm:Nat} (aM:h.get i≠.dead) (hi:ρ.ren i=some (b,cm))
  {α:Type} [Inhabited α] (rows:α→β) (enc:α→List Value) (zO:∀ x,bx ρ (E (rows x)) (enc x)) (size k:Nat):CmpLays P g #[] enc k (fun x y=>cf (rows x) (rows y)) b 0 size w:=by
 intro m os J5 Pu x y
 have aC:=R.Qf aM hi enc k m J5 os
 have aj2:∀ x,a1 (l0 (sortWorldK enc k w b 0 m J5 os)) (.agg (E (rows x))) (.agg (enc x).toArray):=fun x=>.agg (by simpa using (zO x).1) fun j v v' h1 ae=>by
  refine sq (rows x) v (List.mem_of_getElem? h1) ρ _ v' ((zO x).2 j v v' h1 ?_) aC
  simpa using ae
 have aF:=(zN (rows x) (rows y)).RV (a:=.int .i64 (cf (rows x) (rows y))) rfl (w:=sortWorldK enc k w b 0 m J5 os) (args':=#[.agg (enc x).toArray,.agg (enc y).toArray]) (bx.cons (aj2 x) (bx.cons (aj2 y) (bx.nil _)))
 rw [Array.append_empty]
 exact aF.mono fun e w' U=>⟨U.1,U.2.grow⟩
theorem aj3 {α:Type} [Inhabited α] (enc:α→List Value) (k:Nat) (hk:∀ x,(enc x).length=k) (d:Array α):(flatK enc k d).toList=d.toList.flatMap enc:=by
 have hlen:∀ l:List α,(l.flatMap enc).length=l.length * k:=fun l=>by
  induction l with
  | nil=>simp
  | cons x l ih=>rw [List.flatMap_cons,List.length_append,hk,ih,List.length_cons,Nat.add_mul];omega
 have oR:∀ (l:List α) (t:Nat),t<l.length * k→(l.flatMap enc)[t]! = (enc l[t / k]!)[t % k]!:=fun l=>by
  induction l with
  | nil=>intro t bw;simp at bw
  | cons x l ih=>
   intro t bw
   have Pv:0<k:=by
    rcases Nat.eq_zero_or_pos k with h0 | h0
    ·subst h0;simp at bw
    ·exact h0
   rw [List.flatMap_cons]
   by_cases h1:t<k
   ·rw [Nat.div_eq_of_lt h1,Nat.mod_eq_of_lt h1]
    simp [List.getElem!_eq_getElem?_getD,List.getElem?_append_left (show t<(enc x).length by rw [hk];exact h1)]
   ·obtain ⟨u,rfl⟩:∃ u,t=u+k:=⟨t - k,by omega⟩
    rw [List.length_cons,Nat.add_mul,Nat.one_mul] at bw
    have:=ih u (by omega)
    rw [Nat.add_div_right _ Pv,Nat.add_mod_right]
    simp only [List.getElem!_eq_getElem?_getD,List.getElem?_cons_succ] at this⊢
    rw [List.getElem?_append_right (by rw [hk];omega),hk,Nat.add_sub_cancel]
    exact this
 apply List.ext_getElem
 ·rw [hlen];simp
 ·intro t h1 ae
  have bw:t<d.size * k:=by simpa using h1
  have ar:=get_flatK enc k d t bw
  have aT:=oR d.toList t (by simpa using bw)
  rw [getElem!_pos _ t (by simpa using bw)] at ar
  rw [getElem!_pos _ t ae] at aT
  rw [Array.getElem_toList,ar,aT]
  congr 2
  simp [Array.getElem!_eq_getD,List.getElem!_eq_getElem?_getD,Array.getD_eq_getD_getElem?]
theorem aj4 {P:Program} {f:FuncId} {g:FuncId} {e:TypeId} {k:Nat} {β:Type} {E:β→List V} {cf:β→β→Int} (Pv:0<k)
  (hk:∀ x,(E x).length=k) (h1:∀ x,(E x).all (·.one)=true) (sq:∀ x,bl (E x)) (mW:SWO (ltOf cf))
  (zN:∀ a b,ab P g [.agg (E a),.agg (E b)] Eg fun r _=>r=.int .i64 (cf a b))
  (jX:∀ (n:Nat) (enc:Fin (n+1)→List Value) (hk:∀ x,(enc x).length=k) (h1:∀ x,∀ v ∈ enc x,v.oneCell'=true) (cf:Fin (n+1)→Fin (n+1)→Int) (mW:SWO (ltOf cf)) (km cap:Nat) (d:Array (Fin (n+1))) (w:World),
   CmpLays P g #[] enc k cf km 0 d.size w→HoldsK enc k w km 0 d→km<w.heap.size→d.size<4611686018427387904 →
   Calls P f #[.slice (some ⟨km,0,none⟩) d.size cap,.func (.func g) #[] #[]] w fun e w'=>e=.returned (.tuple #[])∧∃ uf n os,PermIn 0 d.size d uf∧SortedIn (ltOf cf) 0 d.size uf∧w'=sortWorldK enc k w km 0 n uf os)
  {h:J} {v:V} {l:List β} (HW:l=[]→ab P f [v,.func (.func g) [] []] h fun r h'=>r=.tuple []∧h'=h)
  (bc:Own h e k v (l.flatMap E)) (aM:l.length<4611686018427387904) :
  ab P f [v,.func (.func g) [] []] h fun r h'=>r=.tuple []∧I h h' (bn v)∧∃ ck:List β,ck.Perm l∧(ck.Pairwise fun a b=>ltOf cf b a=false)∧Own h' e k v (ck.flatMap E):=by
 by_cases de:l=[]
 ·refine (HW de).mono fun r h' ⟨aU,U⟩=>?_
  subst U
  exact ⟨aU,I.refl _ _,l,List.Perm.refl _,by rw [de];exact List.Pairwise.nil,bc⟩
 have hlen:=iS hk l
 rcases bc with ⟨_,dZ⟩ | ⟨i,len,cap,c,ex,rfl,zL,aB,jT,cu,fA⟩
 ·rw [dZ] at hlen
  have:0<l.length:=List.length_pos_iff.2 de
  have:=Nat.mul_pos this Pv
  simp at hlen
  omega
 rw [hlen] at jT
 have sV:l.length=len:=Nat.eq_of_mul_eq_mul_right Pv jT
 subst sV
 obtain ⟨n,aG⟩:∃ n,l.length=n+1:=⟨l.length - 1,by have:=List.length_pos_iff.2 de;omega⟩
 intro ρ B bg w args' R a6
 obtain ⟨v1,t1,jK,J6,yi⟩:=a6.fh
 obtain ⟨v2,t2,Rt,JM,Bq⟩:=yi.fh
 have aj5:=Bq.eq_nil
 subst aj5
 have aT:v2=.func (.func g) #[] #[]:=by
  cases JM with
  | func fn ad bw _ _=>
   rename_i jR D0 _ _
   have ar:=Array.eq_empty_of_size_eq_zero (xs:=jR) ad.symm
   have aT:=Array.eq_empty_of_size_eq_zero (xs:=D0) bw.symm
   rw [ar,aT]
 subst aT
 cases J6 with
 | bp hi _ _ _ hle=>
 rename_i b cm
 have ei:args'=#[.slice (some ⟨b,0,none⟩) l.length (kx cm cap),.func (.func g) #[] #[]]:=by
  apply Array.toList_inj.1
  rw [jK,Rt]
 subst ei
 obtain ⟨D,HY,hH,aH⟩:=R.RU aB hi (vs:=l.flatMap E) (by rw [hlen];exact cu)
 have aj6:D.size=l.length * k:=by have:=HY.1;simp only [Array.length_toList] at this;omega
 let rows:Fin (n+1)→β:=fun x=>l[x.1]'(by omega)
 let enc:Fin (n+1)→List Value:=fun x=>(D.toList.drop (x.1 * k)).take k
 have kB:∀ x:Fin (n+1),((l.flatMap E).drop (x.1 * k)).take k=E (rows x):=fun x=>by
  rw [wx hk,List.drop_eq_getElem_cons (show x.1<l.length by omega),List.flatMap_cons,List.take_left' (hk _)]
 have zO:∀ x,bx ρ (E (rows x)) (enc x):=fun x=>by
  have:=(HY.drop (x.1 * k)).take k
  rwa [kB x] at this
 have jl:∀ x,(enc x).length=k:=fun x=>by rw [←(zO x).1,hk]
 have aj7:∀ x,∀ v ∈ enc x,v.oneCell'=true:=fun x=>(zO x).one (h1 _)
 let d:Array (Fin (n+1)):=(List.finRange (n+1)).toArray
 have Dq:d.size=l.length:=by simp [d,aG]
 have YU:flatK enc k d=D:=by
  apply Array.toList_inj.1
  rw [aj3 enc k jl]
  have key:∀ (m:Nat) (hm:m≤n+1),(((List.finRange (n+1)).take m).flatMap enc)=D.toList.take (m * k):=fun m=>by
   induction m with
   | zero=>intro _;simp
   | succ m ih=>
    intro hm
    rw [List.take_add_one,List.flatMap_append,ih (by omega),List.getElem?_eq_getElem (by simp;omega)]
    simp only [Option.toList_some,List.flatMap_cons,List.flatMap_nil,List.append_nil,List.getElem_finRange,enc]
    rw [Nat.add_mul,Nat.one_mul]
    simp [List.take_add]
  have:=key (n+1) (Nat.le_refl _)
  rw [List.take_of_length_le (by simp)] at this
  show (List.finRange (n+1)).flatMap enc=_
  rw [this,List.take_of_length_le (by rw [Array.length_toList,aj6,aG];exact Nat.le_refl _)]
 have yj:SWO (ltOf fun x y=>cf (rows x) (rows y)):=⟨fun x=>mW.irrefl _,fun x y z=>mW.trans _ _ _,fun x y z=>mW.ntrans _ _ _⟩
 have YV:h.get i≠.dead:=by rw [aB];simp
 have dk:=arS zN sq R YV hi rows enc zO d.size k
 have Ew:=jX n enc jl aj7 (fun x y=>cf (rows x) (rows y)) yj b (kx cm cap) d w dk (by unfold HoldsK;rw [YU];exact hH) aH (by rw [Dq];exact aM)
 rw [Dq] at Ew
 refine Ew.mono fun x w' ⟨ak,uf,m,os,aW,ad,cY⟩=>.inl ⟨ρ,.tuple [],.tuple #[],h.set i (.cells ((uf.toList.map rows).flatMap E++c.drop ((uf.toList.map rows).flatMap E).length) e ex),ak,.tuple rfl (by simp),?_,Ren.le.refl ρ,rfl,?_,uf.toList.map rows,?_,?_,?_⟩
 ·subst cY
  have CC:uf.size=l.length:=by rw [aW.1,Dq]
  have Br:((uf.toList.map rows).flatMap E).length=l.length * k:=by rw [iS hk];simp [CC]
  have RW:l.length * k≤c.length:=by
   have:=congrArg List.length cu
   rw [List.length_take,hlen] at this
   omega
  have aN:bx ρ ((uf.toList.map rows).flatMap E) (flatK enc k uf).toList:=by
   rw [aj3 enc k jl]
   have:∀ q:List (Fin (n+1)),bx ρ ((q.map rows).flatMap E) (q.flatMap enc):=fun q=>by
    induction q with
    | nil=>exact bx.nil ρ
    | cons a q ih=>
     rw [List.map_cons,List.flatMap_cons,List.flatMap_cons]
     exact (zO a).append ih
   exact this _
  exact ((R.ahead m).Qe aB hi aN (by rw [Br];exact RW)).grow os
 ·exact (I.set h i _).mono fun q af=>by simp [bn,aR,af]
 ·have CC:uf.size=l.length:=by rw [aW.1,Dq]
  have aA:=aW.2.2
  have ar:uf.extract 0 l.length=uf:=by rw [←CC];simp
  have aT:d.extract 0 l.length=d:=by rw [←Dq];simp
  rw [ar,aT] at aA
  have bk:=aA.map rows
  have cg:d.toList.map rows=l:=by
   apply List.ext_getElem
   ·simp [d,aG]
   ·intro j h1 ae
    simp [d,rows]
  rwa [cg] at bk
 ·have CC:uf.size=l.length:=by rw [aW.1,Dq]
  rw [List.pairwise_map,List.pairwise_iff_getElem]
  intro a c2 a6 av l2
  have:=ad a c2 (Nat.zero_le _) l2 (by simp at av;omega)
  rw [getElem!_pos uf c2 (by simpa using av),getElem!_pos uf a (by simpa using a6)] at this
  simpa [ltOf] using this
 ·have CC:uf.size=l.length:=by rw [aW.1,Dq]
  have Br:((uf.toList.map rows).flatMap E).length=l.length * k:=by rw [iS hk];simp [CC]
  have RW:l.length * k≤c.length:=by
   have:=congrArg List.length cu
   rw [List.length_take,hlen] at this
   omega
  refine .inr ⟨i,l.length,cap,_,ex,rfl,zL,aL,by rw [Br],?_,?_⟩
  ·rw [List.take_left' Br]
  ·rcases fA with ⟨ae,aA,bk⟩ | ⟨ae,aA⟩
   ·refine .inl ⟨ae,?_,bk⟩
    rw [List.length_append,List.length_drop,Br]
    omega
   ·exact .inr ⟨ae,aA⟩
open Go
section
variable {κ α:Type} {ke:κ→V} {enc:α→V}
end
theorem Acc.set {h0 h:J} {e:TypeId} {sz:Nat} {v:V} {cs:List V} (a:Acc h0 h e sz v cs) {i:Nat} (hi:h0.n≤i) (aN:aR v≠some i) (o:aV):Acc h0 (h.set i o) e sz v cs :=
 ⟨a.own.aj (I.set _ _ _) fun k hk he=>aN (by rw [hk,he]),a.aj.iQ hi o,a.new⟩
theorem aK.kN (h:J):aK .ah h (.ag 0 []) h:=fun ρ B bg w dY hw aN=>⟨ρ,Ren.le.refl ρ,hw,by cases aN;exact .jE none 0 fun _=>rfl⟩
theorem aK.eT (h:J):aK .eT h (.ag 0 []) h:=fun ρ B bg w dY hw aN=>⟨ρ,Ren.le.refl ρ,hw,by cases aN;exact .jE _ _ fun e=>by cases e⟩
section
variable {P:Program} {t:TypeId} {xo yo:Operand}
end
theorem mJ.ofInt {P:Program} {t hg nW:TypeId} {kk:IntKind} (hm:gR P t=some (hg,nW,.int kk)):mJ P hg (.int kk) (V.int kk) where
 eq a b:=by rw [ajs rfl];rfl
 ok b a:=aa9 (HJ hm).2 rfl
 bits a:=⟨_,rfl,by simp [Instr.sameBits]⟩
section
variable {M:Nat→Prop} {bV:Operand→V} {t:TypeId} {m k:Operand} {b:Bool}
theorem G8:ru M (vF bV (.lookup t m k b))=zM M (bV m):=rfl
end
theorem aK.eP {h h1:J} {e:TypeId} {sz i len cap:Nat} {cs es:List V} {own1:Nat→Prop} (bc:Own h e sz (.bp i 0 len cap) cs) (dk:az cs h es h1) (mn:I h h1 own1) (bZ:¬own1 i) (hle:es.length=cs.length) :
  ∃ ae,aK (.bp i 0 len cap) h (.ag len es) ae∧I h1 ae (·=i):=by
 rcases bc with ⟨q | q,_⟩ | ⟨Eb,arT,arU,c,ex,q,hi,aB,hlen,cu,fA⟩
 ·cases q
 ·cases q
 simp only [V.bp.injEq] at q
 obtain ⟨rfl,_,rfl,rfl⟩:=q
 have eO:h1.get i=.cells c e ex:=(mn.get i hi bZ).trans aB
 have fj:len * sz≤c.length:=by
  have:=congrArg List.length cu
  rw [List.length_take,hlen] at this
  omega
 refine ⟨h1.set i .dead,fun ρ B bg w dY hw aN=>?_,I.set h1 i .dead⟩
 obtain ⟨ρ0,_,aj8,b,cm,arr,aU,aC,aF,aM⟩:=hw.freeze aB
 have w2:bx ρ cs (arr.toList.take (len * sz)):=by
  have jt:=aM.1
  refine ⟨by rw [←cu];simp only [List.length_take] at jt⊢;omega,fun k v v' h1 ae=>?_⟩
  have hk:k<len * sz:=by rw [←hlen];exact (List.getElem?_eq_some_iff.1 h1).1
  rw [←cu,List.getElem?_take,if_pos hk] at h1
  rw [List.getElem?_take,if_pos hk] at ae
  refine aM.2 k v v' h1 ?_
  rw [List.getElem?_take,if_pos (by omega)]
  exact ae
 obtain ⟨ρ1,zw,gD,lf⟩:=dk ρ B bg w _ hw w2
 obtain ⟨ρ2,ZW,oG,c2,xW,nt,ly,dp,x0,kK⟩:=gD.freeze eO
 have A8:=zw.ren _ _ aU
 rw [A8] at ly
 simp only [Option.some.injEq,Prod.mk.injEq] at ly
 obtain ⟨rfl,rfl⟩:=ly
 obtain ⟨b1,oD,pj,jr,rfl⟩:=aN.kT
 rw [aU] at pj
 simp only [Option.some.injEq,Prod.mk.injEq] at pj
 obtain ⟨rfl,rfl⟩:=pj
 have qL:nt=arr:=by
  obtain ⟨ar,f1,cq⟩:=aj8.heap.frz _ _ aC
  obtain ⟨aT,f2,cP⟩:=oG.heap.frz _ _ dp
  rw [cq] at cP
  simp only [Option.some.injEq,Obj.cells.injEq] at cP
  exact cP.1.symm
 subst qL
 refine ⟨ρ2,zw.trans ZW,oG,.ag 0 len _ dp jr (by rw [hle,hlen];omega) fun k v v' h1 ae=>?_⟩
 have hk:k<len * sz:=by rw [←hlen,←hle];exact (List.getElem?_eq_some_iff.1 h1).1
 refine (lf.2 k v v' h1 ?_).mono ZW
 rw [List.getElem?_take,if_pos hk,Array.getElem?_toList]
 simpa using ae
theorem aK.Bs {h h1:J} {X:Nat} {c bH:List V} {e:TypeId} {ex:Option Nat} (aB:h.get X=.cells c e ex) (dk:az c h bH h1) (eO:h1.get X=.cells c e ex) (hle:bH.length=c.length) (r:V) :
  aK r h r (h1.set X (.cells bH e ex)):=fun ρ B bg w dY hw aN=>by
 have bc:=hw.heap.obj X
 rw [aB] at bc
 obtain ⟨b,cm,arr,aU,aC,cp,tQ,aF,aM,ak⟩:=bc
 obtain ⟨ρ1,zw,gD,lf⟩:=dk ρ B bg w _ hw aM
 have v8:=gD.heap.obj X
 rw [eO] at v8
 obtain ⟨dt,ZM,HL,A8,Bn,RX,J7,jc,jr,uh⟩:=v8
 have ar:=zw.ren _ _ aU
 rw [A8] at ar
 simp only [Option.some.injEq,Prod.mk.injEq] at ar
 obtain ⟨rfl,rfl⟩:=ar
 rw [J7] at tQ
 simp only [Option.some.injEq,Obj.cells.injEq] at tQ
 obtain ⟨rfl,-,-⟩:=tQ
 have zP:∀ j,j≠X→(h1.set X (.cells bH e ex)).get j=h1.get j:=fun j aX=>by simp [J.set,aX]
 have abL:(h1.set X (.cells bH e ex)).get X=.cells bH e ex:=by simp [J.set]
 have live:∀ j,(h1.set X (.cells bH e ex)).get j≠.dead→h1.get j≠.dead:=fun j aX=>by
  by_cases J8:j=X
  ·subst J8;rw [eO];intro q;cases q
  ·rwa [zP j J8] at aX
 refine ⟨ρ1,zw,⟨⟨gD.heap.qb,fun i j b c lL hi aX ae aA=>gD.heap.inj i j b c lL (live i hi) (live j aX) ae aA,fun j=>?_,gD.heap.frz,gD.heap.glob,gD.heap.base⟩,gD.below⟩,aN.mono zw⟩
 by_cases aX:j=X
 ·subst aX
  rw [abL]
  rw [←hle] at lf
  exact ⟨_,_,_,A8,Bn,RX,J7,by rw [hle];exact jc,lf,by rw [hle];exact uh⟩
 ·rw [zP j aX];exact gD.heap.obj j
theorem Pure.Bs {P:Program} {f:FuncId} {args:List V} {h h1:J} {v:V} (aW:Pure P f args h v) {X:Nat} {c bH:List V} {e:TypeId} {ex:Option Nat} (aB:h.get X=.cells c e ex) (dk:az c h bH h1) (eO:h1.get X=.cells c e ex) (hle:bH.length=c.length) :
  ab P f args h (fun r h'=>r=v∧h'=h1.set X (.cells bH e ex)) :=
 ab.cast (aW.mono fun r h' ⟨ar,aT⟩=>⟨v,_,by subst ar;subst aT;exact aK.Bs aB dk eO hle _,rfl,rfl⟩)
section
variable {P:Program} {h:J} {s:TypeId}
end
def qG (v:V) (h:J) (v2:V) (ae:J):Prop :=
 ∀ (ρ:Ren) (B:Nat) (bg w:World),bt ρ B bg h w→∃ ρ',ρ.le ρ'∧bt ρ' B bg ae w∧∀ dY,a1 ρ v dY→a1 ρ' v2 dY
theorem qG.own {h:J} {i n cap sz:Nat} {c z:List V} {e:TypeId} {ex:Option Nat} (aB:h.get i=.cells (c++z) e ex) (aF:c.length=n * sz):qG (.bp i 0 n cap) h (.ag n c) (h.set i .dead):=fun ρ B bg w hw=>by
 obtain ⟨ρ',hle,cY,b,cm,arr,aU,aC,aj9,aM⟩:=hw.freeze aB
 refine ⟨ρ',hle,cY,fun dY aN=>?_⟩
 obtain ⟨b1,oD,pj,jr,rfl⟩:=aN.kT
 rw [aU] at pj
 simp only [Option.some.injEq,Prod.mk.injEq] at pj
 obtain ⟨rfl,rfl⟩:=pj
 rw [List.length_append] at aj9
 refine .ag 0 n _ aC jr (by omega) fun k v v' h1 ae=>?_
 have hk:k<c.length:=(List.getElem?_eq_some_iff.1 h1).1
 refine (aM.2 k v v' (by rw [List.getElem?_append_left hk];exact h1) ?_).mono hle
 rw [List.getElem?_take,if_pos (by rw [List.length_append];omega),Array.getElem?_toList]
 simpa using ae
theorem qG.cast {v v2:V} {h ae:J} (c:qG v h v2 ae):aK v h v2 ae:=fun ρ B bg w dY hw aN=>
 let ⟨ρ',l,w',f⟩:=c ρ B bg w hw
 ⟨ρ',l,w',f dY aN⟩
theorem qG.agg {v v2:V} {l:List V} {h ae:J} (a:qG v h v2 ae):qG (.agg (v::l)) h (.agg (v2::l)) ae:=fun ρ B bg w hw=>by
 obtain ⟨ρ',le,w',f⟩:=a ρ B bg w hw
 refine ⟨ρ',le,w',fun dY aN=>?_⟩
 cases aN with
 | agg ad ak=>
  rename_i xs
  have L:bx ρ (v::l) xs.toList:=⟨by simpa using ad,by simpa using ak⟩
  obtain ⟨v',nV,e,h1,ae⟩:=L.fh
  have arV:bx ρ' (v2::l) xs.toList:=by rw [e];exact bx.cons (f v' h1) ⟨ae.1,fun k a b a6 av=>(ae.2 k a b a6 av).mono le⟩
  exact arV.nt.agg
theorem qG.cell {h h1:J} {X:Nat} {v v2:V} {c:List V} {e:TypeId} {ex:Option Nat} (wV:qG v h v2 h1) (aB:h.get X=.cells (v::c) e ex) (eO:h1.get X=.cells (v::c) e ex) :
  qG v h v2 (h1.set X (.cells (v2::c) e ex)):=fun ρ B bg w hw=>by
 have bc:=hw.heap.obj X
 rw [aB] at bc
 obtain ⟨b,cm,arr,aU,aC,cp,tQ,aF,aM,ak⟩:=bc
 obtain ⟨ρ1,zw,gD,dx⟩:=wV ρ B bg w hw
 have lf:bx ρ1 (v2::c) (arr.toList.take (v::c).length):=by
  obtain ⟨v',nV,fo,gA,kL⟩:=aM.fh
  rw [fo]
  exact bx.cons (dx v' gA) ⟨kL.1,fun k a b a6 av=>(kL.2 k a b a6 av).mono zw⟩
 have v8:=gD.heap.obj X
 rw [eO] at v8
 obtain ⟨dt,ZM,HL,A8,Bn,RX,J7,jc,jr,uh⟩:=v8
 have ar:=zw.ren _ _ aU
 rw [A8] at ar
 simp only [Option.some.injEq,Prod.mk.injEq] at ar
 obtain ⟨rfl,rfl⟩:=ar
 rw [J7] at tQ
 simp only [Option.some.injEq,Obj.cells.injEq] at tQ
 obtain ⟨rfl,-,-⟩:=tQ
 have zP:∀ j,j≠X→(h1.set X (.cells (v2::c) e ex)).get j=h1.get j:=fun j aX=>by simp [J.set,aX]
 have abL:(h1.set X (.cells (v2::c) e ex)).get X=.cells (v2::c) e ex:=by simp [J.set]
 have live:∀ j,(h1.set X (.cells (v2::c) e ex)).get j≠.dead→h1.get j≠.dead:=fun j aX=>by
  by_cases J8:j=X
  ·subst J8;rw [eO];intro q;cases q
  ·rwa [zP j J8] at aX
 refine ⟨ρ1,zw,⟨⟨gD.heap.qb,fun i j b c lL hi aX ae aA=>gD.heap.inj i j b c lL (live i hi) (live j aX) ae aA,fun j=>?_,gD.heap.frz,gD.heap.glob,gD.heap.base⟩,gD.below⟩,dx⟩
 by_cases aX:j=X
 ·subst aX
  rw [abL]
  exact ⟨_,_,_,A8,Bn,RX,J7,jc,lf,uh⟩
 ·rw [zP j aX];exact gD.heap.obj j
section
variable {P:Program} {d:Option Tmp} {ty:TypeId} {pos:String} {dN:Array Edge} {g:Option (Nat×Bool)} {f:aE} {h:J} [K:jo] {x y:Operand}
def Hq (P:Program) (bi:Builtin) (ts:Array TypeId) (ty:TypeId) (cs:Array Bool) (x:V):Option V :=
 match jO [x] with
 | some us=>match e8 P (builtin bi ts ty cs us.toArray) with
  | some (.value v)=>some (kR v)
  | _=>none
 | none=>none
theorem aka {t t2:TypeId}:@ik P ⟨d,.call ⟨.builtin .complex,#[x,y],#[t,t2]⟩,ty,pos,dN,g⟩ K f h=@pZ (wi P .complex #[t,t2] ty (Bc #[x,y]) (f.eval h x) (f.eval h y)) d K f h :=
 x5 (by
  unfold gS pe vb wi lM
  simp only [List.map_cons,List.map_nil]
  cases jO [f.eval h x,f.eval h y] with
  | none=>rfl
  | some us=>
   simp only
   generalize e8 P _=r
   cases r with
   | none=>rfl
   | some n=>cases n<;>rfl)
theorem akb {t:TypeId}:@ik P ⟨d,.call ⟨.builtin .real,#[x],#[t]⟩,ty,pos,dN,g⟩ K f h=@pZ (Hq P .real #[t] ty (Bc #[x]) (f.eval h x)) d K f h :=
 x5 (by
  unfold gS pe vb Hq lM
  simp only [List.map_cons,List.map_nil]
  cases jO [f.eval h x] with
  | none=>rfl
  | some us=>
   simp only
   generalize e8 P _=r
   cases r with
   | none=>rfl
   | some n=>cases n<;>rfl)
theorem akc {t:TypeId}:@ik P ⟨d,.call ⟨.builtin .imag,#[x],#[t]⟩,ty,pos,dN,g⟩ K f h=@pZ (Hq P .imag #[t] ty (Bc #[x]) (f.eval h x)) d K f h :=
 x5 (by
  unfold gS pe vb Hq lM
  simp only [List.map_cons,List.map_nil]
  cases jO [f.eval h x] with
  | none=>rfl
  | some us=>
   simp only
   generalize e8 P _=r
   cases r with
   | none=>rfl
   | some n=>cases n<;>rfl)
end
section
variable {P:Program} {ty:TypeId}
theorem akd {ts:Array TypeId} {cs:Array Bool} {a b:Nat}:wi P .complex ts ty cs (.float .f64 a) (.float .f64 b)=some (.complex .f64 a b):=rfl
theorem ake {ts:Array TypeId} {cs:Array Bool} {k:FloatKind} {a b:Nat}:Hq P .real ts ty cs (.complex k a b)=some (.float k a):=rfl
theorem akf {ts:Array TypeId} {cs:Array Bool} {k:FloatKind} {a b:Nat}:Hq P .imag ts ty cs (.complex k a b)=some (.float k b):=rfl
def Qg (P:Program) (t:TypeId):Option FloatKind:=match P.underlying t with | some (.float k)=>some k | _=>none
theorem akg {t:TypeId} {k:FloatKind} (h:Qg P t=some k):P.underlying t=some (.float k):=by
 unfold Qg at h;split at h
 ·rename_i hu;simp at h;subst h;exact hu
 ·cases h
theorem akh {t:TypeId} {k:IntKind} (h:nx P t=some k):P.underlying t=some (.int k):=by
 unfold nx at h;split at h
 ·rename_i hu;simp at h;subst h;exact hu
 ·cases h
theorem Qh {src dst:TypeId} {h:J} {k:IntKind} {k2:FloatKind} {a:Int} (ad:nx P src=some k) (bb:Qg P dst=some k2):qJ P src dst (.int k a) h=some (.float k2 (k2.nearest a)):=by
 unfold qJ
 have e:(r3 (.int k a)).bind (fun x=>e8 P (convert src dst x))=some (.float k2 (k2.nearest a)):=by
  show e8 P (convert src dst (.int k a))=_
  unfold convert
  rw [mf,G2 (akh ad),Option.bind_some,mf,G2 (akg bb)]
  rfl
 rw [e]
 rfl
theorem aki {src dst:TypeId} {h:J} {k:FloatKind} {k2:IntKind} {b:Nat} {n:Int} (ad:Qg P src=some k) (bb:nx P dst=some k2) (aG:(k.decode b).toInt .zero=some n) (h1:k2.min≤n) (ae:n≤k2.max):qJ P src dst (.float k b) h=some (.int k2 n):=by
 unfold qJ
 have e:(r3 (.float k b)).bind (fun x=>e8 P (convert src dst x))=some (.int k2 n):=by
  show e8 P (convert src dst (.float k b))=_
  unfold convert
  rw [mf,G2 (akg ad),Option.bind_some,mf,G2 (akh bb)]
  show e8 P (Conv.floatToInt k b k2)=_
  unfold Conv.floatToInt
  simp only [aG,if_pos (show k2.min≤n∧n≤k2.max from ⟨h1,ae⟩)]
  rfl
 rw [e]
 rfl
theorem akj {k:FloatKind} {a b:Nat}:(V.complex k a b).cells=some [.complex k a b]:=rfl
theorem akk {k:FloatKind} {a b:Nat}:(V.complex k a b).one=true:=rfl
theorem bh.complex (k:FloatKind) (a b:Nat):bh (.complex k a b):=bh.flat rfl
end
section
variable {P:Program} {t hg nW:TypeId} {d:TypeDesc} {κ:Type} [DecidableEq κ] {ke:κ→V} {α:Type} {enc:α→V}
end
def p7 (P:Program) (n l:Nat) (c:Code) (Q:ed→aE→J→Prop) (f:aE) (h:J):Prop :=
 ∀ (ρ:Ren) (B:Nat) (bg:World) (a:Act) (w:World),bt ρ B bg h w→hN ρ n f a→c.wpIn (Fence.wide.inRound l) 0 P (qF n B bg ρ Q) a w
section
variable {P:Program} {n l:Nat} {Q:ed→aE→J→Prop} {f:aE} {h:J}
theorem p7.mono {HM:ed→aE→J→Prop} {c:Code} (ad:p7 P n l c Q f h) (af:∀ e f h,Q e f h→HM e f h):p7 P n l c HM f h :=
 fun ρ B bg a w hw aC=>wpIn_mono (ad ρ B bg a w hw aC) fun _ _ _ ⟨ρ',x,cx,h',ak,cY,dp,aM,e0⟩=>⟨ρ',x,cx,h',ak,cY,dp,aM,af _ _ _ e0⟩
theorem p7.region {id:Nat} {ops:Array Oper} (ba:ops.toList.all (fun o=>zC n o.dst)=true)
  (af:so P ops.toList ops.toList (Q .normal) (Q .panic) f h):p7 P n l (.region id ops false) Q f h:=by
 intro ρ B bg a w hw aC
 refine wpIn_region ?_
 have:=Yk (zu.inRound l) (rm:=0) (P:=P) ba (ρ0:=ρ) ops.toList 0 (by simp) ρ f h a w (Ren.le.refl ρ) hw aC af
 rwa [Array.length_toList,←List.range_eq_range'] at this
theorem p7.block {id:Nat} {c:Code} (ad:p7 P n l c (PX id Q) f h):p7 P n l (.block id c) Q f h:=by
 intro ρ B bg a w hw aC
 refine wpIn_block (wpIn_mono (ad ρ B bg a w hw aC) fun e mq w' ⟨ρ',x,cx,h',ak,cY,dp,aM,e0⟩=>?_)
 cases x<;>cases e<;>simp only [wg] at ak
 ·exact ⟨ρ',.normal,cx,h',trivial,cY,dp,aM,e0⟩
 ·subst ak
  simp only [PX] at e0
  simp only [Exit.inBlock]
  split
  ·rename_i he
   simp only [he,if_true] at e0
   exact ⟨ρ',.normal,cx,h',trivial,cY,dp,aM,e0⟩
  ·rename_i he
   simp only [he,if_false] at e0
   exact ⟨ρ',.exit _,cx,h',rfl,cY,dp,aM,e0⟩
 ·exact ⟨ρ',.goto _,cx,h',ak,cY,dp,aM,e0⟩
 ·exact ⟨ρ',.ret,cx,h',trivial,cY,dp,aM,e0⟩
 ·exact ⟨ρ',.panic,cx,h',ak,cY,dp,aM,e0⟩
end
theorem arW {ρ:Ren} {n:Nat} {f:aE} {a:Act} (aC:hN ρ n f a):bx ρ ((List.range n).map f) a.tmps.toList:=by
 refine ⟨by simp [aC.size],fun k v v' h1 ae=>?_⟩
 have hk:k<n:=by have:=(List.getElem?_eq_some_iff.1 h1).1;simpa using this
 have bw:=aC.tmps k
 simp only [List.getElem?_map,List.getElem?_range hk,Option.map_some,Option.some.injEq] at h1
 have si:a.tmps[k]?=some v':=by simpa using ae
 rw [Array.getD_eq_getD_getElem?,si] at bw
 subst h1
 exact bw
theorem arX {ρ:Ren} {n:Nat} {f:aE} {arr:List Value} (aM:bx ρ ((List.range n).map f) arr) (bb:ρ.dfr=[]):hN ρ n (fun t=>if t<n then f t else .top) { tmps:=arr.toArray,defers:=[] }:=by
 have ad:arr.length=n:=by have:=aM.1;simpa using this.symm
 refine ⟨fun t=>?_,by simpa using ad,bb.symm⟩
 simp only
 split
 ·rename_i bw
  obtain ⟨v',h1,ae⟩:=aM.get (k:=t) (v:=f t) (by simp [bw])
  have:(arr.toArray).getD t undef=v':=by rw [Array.getD_eq_getD_getElem?];simp [h1]
  rw [this];exact ae
 ·exact .top _
theorem bt.yk {ρ:Ren} {B:Nat} {bg:World} {h:J} {w:World} (R:bt ρ B bg h w) {i l:Nat} {mk:List Value→Obj} {vs:List V} (aB:h.get i=.o3 l mk vs) :
  ∃ arr,w.heap[l]?=some (mk arr)∧bx ρ vs arr∧∀ mk',bt ρ B bg (h.set i (.o3 l mk' vs)) (w.putObj l (mk' arr)):=by
 have bc:=R.heap.obj i
 rw [aB] at bc
 obtain ⟨cm,arr,aU,aC,cp,hw,aM⟩:=bc
 have aH:=(Array.getElem?_eq_some_iff.1 hw).1
 refine ⟨arr,hw,aM,fun mk'=>R.zD aU (by rw [aB];simp) (fun k hk=>World.putObj_heap_other hk) (by simp) ⟨rfl,rfl,rfl,by simp,fun k hk=>World.putObj_heap_other (by omega),Nat.le_refl _⟩ ?_⟩
 exact ⟨cm,arr,aU,aC,cp,World.putObj_heap_same aH,aM⟩
theorem bt.J9 {ρ:Ren} {B:Nat} {bg:World} {h:J} {w:World} (R:bt ρ B bg h w) (mk:List Value→Obj) {vs:List V} {arr:List Value} (aM:bx ρ vs arr) :
  ∃ ρ',ρ.le ρ'∧bt ρ' B bg (h.push (.o3 w.heap.size mk vs)) (w.alloc (mk arr)):=by
 have hle:=Ren.xV (R.heap.qb _ (Nat.le_refl _)) w.heap.size 0
 have Jw:ρ.frz w.heap.size=none:=by
  cases aC:ρ.frz w.heap.size with
  | none=>rfl
  | some a=>
   obtain ⟨e,ky,hw⟩:=R.heap.frz _ _ aC
   have:=(Array.getElem?_eq_some_iff.1 hw).1
   omega
 have hold:∀ k,k<w.heap.size→(w.alloc (mk arr)).heap[k]?=w.heap[k]?:=fun k hk=>Below.heap_alloc _ _ _ hk
 obtain ⟨h1,ae⟩:=R.HD (w':=w.alloc (mk arr)) (o:=.o3 w.heap.size mk vs) 0 (by simp) hold ((mm.refl _ _).alloc R.heap.base _) ⟨0,arr,Ren.sm,Jw,R.heap.base,World.alloc_heap_new _ _,aM.mono hle⟩
 exact ⟨_,h1,ae⟩
def CD (fn:FuncId) (p:Tmp) (assign body:Code) (D:Nat) (st:LoopState):List Value→Obj:=fun arr=>.loop { state:=st,pending:=none,fn,tmps:=arr.toArray,params:=#[p],assign,body,defers:=D }
def abM (n:Nat) (f:aE) (p:Tmp) (v:V):aE:=aE.put (fun t=>if t<n then f t else .top) (some p) v
theorem oH.of {P:Program} {n l i:Nat} {fn:FuncId} {p:Tmp} {assign body:Code} {D:Nat} {f:aE} {v:V} {h:J} {R:V→J→Prop} (aW:p<n)
  (aB:h.get i=.o3 l (CD fn p assign body D .ready) ((List.range n).map f)) (M:aE→J→Prop)
  (a6:p7 P n l assign (fun z cx h'=>z=.normal∧h'.get i=.o3 l (CD fn p assign body D .ready) ((List.range n).map f)∧M cx h') (abM n f p v) h)
  (av:∀ cx h',M cx h'→p7 P n l body (fun z _ ae=>z=.normal∧ae.get i=.o3 l (CD fn p assign body D .busy) ((List.range n).map f)∧R (.bool true) (ae.set i (.o3 l (CD fn p assign body D .ready) ((List.range n).map f)))) cx (h'.set i (.o3 l (CD fn p assign body D .busy) ((List.range n).map f)))) :
  oH P l [v] h R:=by
 intro ρ B bg w args' hw mK
 obtain ⟨arr,gw,D7,_⟩:=hw.yk aB
 obtain ⟨v',nV,he,aN,bw⟩:=mK.fh
 obtain rfl:=bw.eq_nil
 have qE:args'=#[v']:=by apply Array.ext';simpa using he
 subst qE
 have bs:=run_yield (P:=P) (args:=#[v']) gw rfl
 refine ⟨fn,_,assign,body,bs,roundIn_of_wpIn trivial ?_⟩
 have vt:hN { ρ with dfr:=[] } n (abM n f p v) { tmps:=((#[p].zip #[v']).foldl (fun tmps (t,a)=>tmps.setIfInBounds t a) arr.toArray),defers:=[] }:=by
  have:=(arX (ρ:={ ρ with dfr:=[] }) (D7.dfr []) rfl).put (aN.dfr []) (some p) (by simp [zC,aW])
  simpa [Act.put,abM] using this
 refine wpIn_mono (a6 { ρ with dfr:=[] } B bg _ w (hw.dfr []) vt) fun e cw c9 ⟨ρ1,x,f1,h1,ak,gD,Bn,lf,e0⟩=>?_
 obtain ⟨rfl,eO,iT⟩:=e0
 cases e<;>simp only [wg] at ak
 obtain ⟨HL,akl,arY,cK⟩:=gD.yk eO
 refine ⟨_,run_beginRound akl rfl,?_⟩
 have oG:=cK (CD fn p assign body D .busy)
 refine wpIn_mono (av f1 h1 iT ρ1 B bg cw _ oG Bn) fun e a3 la ⟨ρ3,x,f3,aA,ak,Hp,xB,uo,e0⟩=>?_
 obtain ⟨rfl,akm,e1⟩:=e0
 cases e<;>simp only [wg] at ak
 obtain ⟨arZ,akn,ar0,YW⟩:=Hp.yk akm
 refine ⟨_,_,run_endRound none akn,?_⟩
 have zv:=YW (CD fn p assign body D .ready)
 have RY:=lf.trans uo
 exact ⟨{ ρ3 with dfr:=ρ.dfr },.bool true,.bool true,_,rfl,.bool _,zv.dfr ρ.dfr,⟨RY.ren,RY.frz,rfl⟩,e1⟩
theorem ab.nw {P:Program} {ca gf:FuncId} {fn:Func} {A A2 assign body:Code} {id:Nat} {g p:Tmp} (ph:P.funcs[ca]?=some fn)
  (av:fn.body=some (.seq A (.seq A2 (.block id (.rangeFunc (.tmp g) #[p] assign body))))) (jh:bK P gf=true) {args:List V} (hlen:args.length≤fn.ntmps) {h:J} {R:V→J→Prop} {K:aE→J→Prop} {caps:aE→List V}
  (h1:aP P fn.ntmps A (fun z f h=>z=.normal∧aP P fn.ntmps A2 (fun z f h=>z=.normal∧K f h) f h) (nw args) h)
  (aB:∀ f h,K f h→f g=.func (.func gf) [] (caps f))
  (jX:∀ f h1,K f h1→∀ (l D:Nat) (q:FuncId) (ae:J),ae=(h1.push (.o3 D (fun _=>.deferred (some [])) [])).push (.o3 l (CD q p assign body D .ready) ((List.range fn.ntmps).map f)) →
   ab P gf (.func (.yield l) [] []::caps f) ae (fun _ aA=>aA.get (h1.n+1)=.o3 l (CD q p assign body D .ready) ((List.range fn.ntmps).map f)∧aA.get h1.n=.o3 D (fun _=>.deferred (some [])) [] ∧
    (∃ r,wY P fn.results.toList f ((aA.set (h1.n+1) .dead).set h1.n .dead)=some r∧R r ((aA.set (h1.n+1) .dead).set h1.n .dead)))):ab P ca args h R:=by
 intro ρ B bg w args' hw a6
 refine callsIn_wide.1 (callsIn_of_wp_marks (n:=0) ph av trivial ?_)
 apply wpIn_seq
 refine wpIn_mono (wpIn_wide.2 (h1 { ρ with dfr:=[] } B bg _ w (hw.dfr []) (aaZ (a6.dfr []) hlen rfl))) ?_
 rintro e cw c9 ⟨ρ1,z,f1,qk,ak,gD,Bn,lf,rfl,ae⟩
 cases e<;>simp only [wg] at ak
 show (Code.seq A2 _).wpIn Fence.wide 0 P _ cw c9
 apply wpIn_seq
 refine wpIn_mono (wpIn_wide.2 (ae ρ1 B bg cw c9 gD Bn)) ?_
 rintro e a2 b0 ⟨ρ2,z,f2,jn,ak,oG,nu,jr,rfl,bE⟩
 cases e<;>simp only [wg] at ak
 show (Code.block id _).wpIn Fence.wide 0 P _ a2 b0
 apply wpIn_block
 have abN:=lf.trans jr
 have hS:a2.defers=[]:=(nu.defers.trans jr.dfr).trans lf.dfr
 refine wpIn_rangeFunc ?_
 intro q af
 obtain ⟨ρ3,uo,Hp⟩:=oG.J9 (fun _=>.deferred (some [])) (bx.nil ρ2)
 have kg:bx ρ3 ((List.range fn.ntmps).map f2) a2.tmps.toList:=(arW nu).mono uo
 obtain ⟨ρ4,s8,zv⟩:=Hp.J9 (CD q p assign body b0.heap.size .ready) kg
 have bz:(b0.alloc (Obj.deferred (some []))).heap.size=b0.heap.size+1:=by simp
 rw [bz] at zv
 have dk:=jX f2 jn bE (b0.heap.size+1) b0.heap.size q _ rfl
 have RZ:=nu.tmps g
 rw [aB f2 jn bE] at RZ
 obtain ⟨zf,YX,abO⟩:∃ zf:Array Value,bx ρ4 (caps f2) zf.toList∧a2.eval (.tmp g)=.func (.func gf) #[] zf:=by
  have he:a2.eval (.tmp g)=a2.tmps.getD g undef:=rfl
  rw [he]
  generalize a2.tmps.getD g undef=x at RZ
  cases RZ with
  | func atW gm jb ak bs=>
   rename_i jR D0
   have:jR=#[]:=Array.eq_empty_of_size_eq_zero gm.symm
   subst this
   exact ⟨D0,((hd.list ⟨jb,bs⟩).mono uo).mono s8,rfl⟩
 have qE:bx ρ4 (.func (.yield (b0.heap.size+1)) [] []::caps f2) (#[Value.func (.yield (b0.heap.size+1)) #[] #[]]++zf).toList:=by
  have h0:a1 ρ4 (.func (.yield (b0.heap.size+1)) [] []) (.func (.yield (b0.heap.size+1)) #[] #[]):=.func _ rfl rfl (by simp) (by simp)
  simpa using bx.cons h0 YX
 have eg:=run_enterLoop_outer (P:=P) (w:=b0) q a2.tmps #[p] assign body
 have ako:CD q p assign body b0.heap.size .ready a2.tmps.toList=.loop { state:=.ready,pending:=none,fn:=q,tmps:=a2.tmps,params:=#[p],assign,body,defers:=b0.heap.size }:=by simp [CD]
 rw [ako] at zv
 obtain ⟨W,tQ⟩:∃ W,W=(b0.alloc (.deferred (some []))).alloc (.loop { state:=.ready,pending:=none,fn:=q,tmps:=a2.tmps,params:=#[p],assign,body,defers:=b0.heap.size }):=⟨_,rfl⟩
 rw [←tQ] at zv eg
 obtain ⟨Dr, abP, ZX⟩ : ∃ Dr, P.funcs[gf]? = some Dr ∧ (Dr.body.isSome && Dr.name != "runtime.NumGoroutine") = true := by
  unfold bK at jh
  split at jh
  ·rename_i Dr wA;exact ⟨Dr,wA,jh⟩
  ·cases jh
 simp only [Bool.and_eq_true,bne_iff_ne,ne_eq] at ZX
 have Pm:Dr.body.isNone=false:=by cases av:Dr.body<;>simp_all
 refine ⟨b0.heap.size+1,[{ target:=.collected b0.heap.size,args:=#[] }],W,{ target:=.fn (.func gf) zf,args:=#[.func (.yield (b0.heap.size+1)) #[] #[]] },W,gf,
  #[.func (.yield (b0.heap.size+1)) #[] #[]]++zf,W,eg,?_,?_,?_,(fun U=>by cases U),?_⟩
 ·simp only [resolve,abO]
  simp [go_sem]
 ·intro cx dp;trivial
 ·simp only [invoke,callFunc]
  simp [abP,ZX.2]
  intro U
  simp [U] at Pm
 ·refine callsIn_wide.2 ((dk ρ4 B bg _ _ zv qE).mono fun e Ex U=>?_)
  rcases U with ⟨ρ5,r,dY,bN,rfl,atX,rz,ZY,uq,ZZ,ar1,akp,e1⟩ | ⟨_,_,_,_,_,_,_,bC⟩
  case inr=>exact bC.elim
  obtain ⟨Ey,Z0,_,_⟩:=rz.yk uq
  have atY:=(rz.kill (jn.n+1))
  have Z1:=rz.heap.obj jn.n
  rw [ZZ] at Z1
  obtain ⟨atZ,ar2,at0,at1,at2,akq,_⟩:=Z1
  have R0:=rz.heap.obj (jn.n+1)
  rw [uq] at R0
  obtain ⟨akr,ar3,Z2,abQ,aks,zx,_⟩:=R0
  have abR:=(Array.getElem?_eq_some_iff.1 Z0).1
  refine ⟨none,_,run_endLoop Z0 (by simp [CD]),?_⟩
  have bZ:b0.heap.size≠b0.heap.size+1:=by omega
  have abS:(Ex.putObj (b0.heap.size+1) (.loop { state:=.exhausted,pending:=none,fn:=q,tmps:=Ey.toArray,params:=#[p],assign,body,defers:=b0.heap.size })).heap[b0.heap.size]?=some (.deferred (some [])):=(World.putObj_heap_other bZ).trans akq
  have Z3:bt ρ5 B bg ((bN.set (jn.n+1) .dead).set jn.n .dead) ((Ex.putObj (b0.heap.size+1) (.loop { state:=.exhausted,pending:=none,fn:=q,tmps:=Ey.toArray,params:=#[p],assign,body,defers:=b0.heap.size })).putObj b0.heap.size (.deferred none)):=by
   have s1:=rz.zD (o:=.o3 (b0.heap.size+1) (fun _=>.loop { state:=.exhausted,pending:=none,fn:=q,tmps:=Ey.toArray,params:=#[p],assign,body,defers:=b0.heap.size }) []) Z2 (by rw [uq];simp) (w':=Ex.putObj (b0.heap.size+1) (.loop { state:=.exhausted,pending:=none,fn:=q,tmps:=Ey.toArray,params:=#[p],assign,body,defers:=b0.heap.size })) (fun k hk=>World.putObj_heap_other hk) (by simp)
    ⟨rfl,rfl,rfl,by simp,fun k hk=>World.putObj_heap_other (by omega),Nat.le_refl _⟩ ⟨akr,[],Z2,abQ,aks,World.putObj_heap_same abR,bx.nil _⟩
   have abT:(bN.set (jn.n+1) (.o3 (b0.heap.size+1) (fun _=>.loop { state:=.exhausted,pending:=none,fn:=q,tmps:=Ey.toArray,params:=#[p],assign,body,defers:=b0.heap.size }) [])).get jn.n=.o3 b0.heap.size (fun _=>.deferred (some [])) []:=by
    show (if jn.n=jn.n+1 then _ else bN.get jn.n)=_
    rw [if_neg (by omega),ZZ]
   obtain ⟨ar4,_,_,YY⟩:=s1.yk abT
   have s2:=YY fun _=>.deferred none
   have im:=(s2.kill (jn.n+1)).kill jn.n
   have ar5:∀ x y,((((bN.set (jn.n+1) x).set jn.n y).set (jn.n+1) .dead).set jn.n .dead)=(bN.set (jn.n+1) .dead).set jn.n .dead:=fun x y=>by
    simp only [J.set]
    congr 1
    funext j
    by_cases h1:j=jn.n
    ·simp [h1]
    ·by_cases ae:j=jn.n+1
     ·simp [ae]
     ·simp [h1,ae]
   rw [ar5] at im
   exact im
  show LeavesInM _ _ P fn a2.tmps _ ([{ target:=.collected b0.heap.size,args:=#[] }]++a2.defers) .returning _
  rw [hS]
  refine ⟨by simp,.inl ⟨b0.heap.size,_,rfl,run_takeDeferred abS,?_⟩⟩
  show ∃ v,(results fn a2.tmps).run P _=.ok v _∧_
  have R1:Ren.le { ρ with dfr:=[] } ρ5:=((abN.trans uo).trans s8).trans ZY
  have akt:hN ρ5 fn.ntmps f2 a2:=nu.mono ((uo.trans s8).trans ZY)
  obtain ⟨aku,cq,cP⟩:=aaY Z3 akt akp
  exact ⟨aku,cq,.inl ⟨{ ρ5 with dfr:=ρ.dfr },ar1,aku,_,rfl,cP.dfr ρ.dfr,Z3.dfr ρ.dfr,⟨R1.ren,R1.frz,rfl⟩,e1⟩⟩
def Qi (P:Program):Nat→List Field→Option (List (List Nat×Bool))
 | _,[]=>some []
 | o, f :: dT => if f.name ≠ "_" ∧ f.offset = o then
   match P.underlying f.type with
   | some (.int _)=>(Qi P (o+1) dT).map fun l=>([0],false)::l
   | some (.struct gs)=>if P.stoodInHeld f.type=false then
     (match J1 P 0 gs.toList,P.info? f.type with
     | some ax,some dy=>if dy.size=ax.length then (Qi P (o+ax.length) dT).map fun l=>(ax,true)::l else none
     | _,_=>none)
    else none
   | _=>none
  else none
def Qj (P:Program) (t:TypeId):Option (List (List Nat×Bool)):=match P.underlying t with
 | some (.struct dT)=>if P.stoodInHeld t=false∧P.eqGuardType P.depth t=false then Qi P 0 dT.toList else none
 | _=>none
def pr:List (List Nat×Bool)→List V→List V→Option Bool
 | [],[],[]=>some true
 | [],_,_=>none
 | (ax,_)::r,xs,ys=>match hv ax (xs.take ax.length) (ys.take ax.length),pr r (xs.drop ax.length) (ys.drop ax.length) with
  | some a,some b=>some (a&&b)
  | _,_=>none
section
variable {P:Program}
theorem ar6 {t:TypeId} {i:TypeInfo} (h:P.info? t=some i):e8 P (sizeOf t)=some i.size:=by
 have e:e8 P (typeInfo t)=some i:=by
  unfold typeInfo
  rw [mf,P8]
  simp only [Option.bind_some,h]
  rfl
 show e8 P (typeInfo t >>= fun q=>pure q.size)=_
 rw [mf,e]
 rfl
theorem akv {t:TypeId} {dT:Array Field} {i:TypeInfo} {cs:Array Value} {o:Nat} (hu:P.underlying t=some (.struct dT)) (hi:P.info? t=some i):e8 P (part t cs o)=some (.agg (cs.extract o (o+i.size))):=by
 have a6:e8 P (isAgg t)=some true:=by
  unfold isAgg
  rw [mf,Mj hu]
  rfl
 unfold part
 rw [mf,a6]
 simp only [Option.bind_some,if_true,mf,ar6 hi,zh]
theorem abU:∀ {xs:List V} {vs:List Value} (n:Nat),jO xs=some vs→jO (xs.take n)=some (vs.take n)∧jO (xs.drop n)=some (vs.drop n)
 | xs,vs,0,h=>⟨rfl,h⟩
 | [],vs,n+1,h=>by
  obtain rfl:[]=vs:=by simpa [jO] using h
  exact ⟨rfl,rfl⟩
 | x::xs,vs,n+1,h=>by
  unfold jO at h
  split at h
  ·rename_i a l a6 aM
   obtain rfl:=Option.some.inj h
   obtain ⟨h1,ae⟩:=abU n aM
   refine ⟨?_,ae⟩
   rw [List.take_succ_cons]
   unfold jO
   rw [a6,h1]
   rfl
  ·cases h
theorem abV:∀ {xs ys:List V} {vs ws:List Value},jO xs=some vs→jO ys=some ws→jO (xs++ys)=some (vs++ws)
 | [],ys,vs,ws,h,ae=>by
  obtain rfl:[]=vs:=by simpa [jO] using h
  exact ae
 | x::xs,ys,vs,ws,h,ae=>by
  unfold jO at h
  split at h
  ·rename_i a l a6 aM
   obtain rfl:=Option.some.inj h
   rw [List.cons_append]
   unfold jO
   rw [a6,abV aM ae]
   rfl
  ·cases h
theorem akw {d:Nat} {t:TypeId} {dT:Array Field} {X Y:Array Value} {b:Bool} (hu:P.underlying t=some (.struct dT)) (cR:P.stoodInHeld t=false) (eg:e8 P (Op.eqFields d X Y dT.toList)=some b) :
  e8 P (Op.equalIn (d+1) t (.agg X) (.agg Y))=some b:=by
 have jY : ∀ dT : List Field, e8 P (forIn dT ((none, ()) : Option Bool × Unit) fun f r => if f.name ≠ "_" then do
   let a ←part f.type X f.offset
   let c ←part f.type Y f.offset
   let q ←Op.equalIn d f.type a c
   if (!q)=true then pure (ForInStep.done (some false,())) else pure (ForInStep.yield (none,()))
   else pure (ForInStep.yield (none,())))=(e8 P (Op.eqFields d X Y dT)).map fun r=>if r then (none,()) else (some false,()):=fun dT=>by
  induction dT with
  | nil=>rfl
  | cons f dT ih=>
   rw [List.forIn_cons]
   unfold Op.eqFields
   by_cases aG : f.name ≠ "_"
   ·rw [if_pos aG,if_pos aG]
    simp only [mf,Option.bind_assoc]
    cases e8 P (part f.type X f.offset) with
    | none=>rfl
    | some a=>
     simp only [Option.bind_some]
     cases e8 P (part f.type Y f.offset) with
     | none=>rfl
     | some c=>
      simp only [Option.bind_some]
      cases e8 P (Op.equalIn d f.type a c) with
      | none=>rfl
      | some q=>
       cases q
       ·rfl
       ·simpa [zh] using ih
   ·rw [if_neg aG,if_neg aG]
    simp only [mf,zh,Option.bind_some]
    exact ih
 unfold Op.equalIn
 simp only [mf,Mj hu,Option.bind_some,P8,cR,Bool.false_eq_true,if_false]
 rw [←Array.forIn_toList]
 have ae:=jY dT.toList
 rw [eg] at ae
 first
  | (simp only [mf] at *;rw [ae];cases b<;>rfl)
  | (erw [ae];cases b<;>rfl)
theorem abW {d:Nat} {X Y:Array Value}:∀ (dT:List Field) (o:Nat) (ax:List (List Nat×Bool)) (xs ys:List V) (fQ hx:List Value) (b:Bool),Qi P o dT=some ax→pr ax xs ys=some b→jO xs=some fQ→jO ys=some hx →
  X.toList.drop o=fQ→Y.toList.drop o=hx→e8 P (Op.eqFields (d+2) X Y dT)=some b
 | [],o,ax,xs,ys,fQ,hx,b,hk,he,ak,bs,fp,gF=>by
  simp [Qi] at hk
  subst hk
  cases xs<;>cases ys<;>simp [pr] at he
  subst he
  rfl
 | f::dT,o,ax,xs,ys,fQ,hx,b,hk,he,ak,bs,fp,gF=>by
  unfold Qi at hk
  split at hk
  case isFalse=>cases hk
  rename_i aG
  have Ka:∀ (l:List Nat) (q:Bool) (Mm:List (List Nat×Bool)),pr ((l,q)::Mm) xs ys=some b→∃ a c,hv l (xs.take l.length) (ys.take l.length)=some a∧pr Mm (xs.drop l.length) (ys.drop l.length)=some c∧b=(a&&c):=fun l q Mm h=>by
   unfold pr at h
   split at h
   ·rename_i a c h1 ae
    exact ⟨a,c,h1,ae,(Option.some.inj h).symm⟩
   ·cases h
  have fin:∀ (a c:Bool) (abX abY:Value),e8 P (part f.type X f.offset)=some abX→e8 P (part f.type Y f.offset)=some abY→e8 P (Op.equalIn (d+2) f.type abX abY)=some a→e8 P (Op.eqFields (d+2) X Y dT)=some c →
    e8 P (Op.eqFields (d+2) X Y (f::dT))=some (a&&c):=fun a c abX abY h1 ae aA bk=>by
   unfold Op.eqFields
   rw [if_pos aG.1,mf,h1]
   simp only [Option.bind_some]
   rw [mf,ae]
   simp only [Option.bind_some]
   rw [mf,aA]
   simp only [Option.bind_some]
   cases a
   ·rfl
   ·simpa using bk
  split at hk
  ·rename_i kk hu
   obtain ⟨Mm,Kb,rfl⟩:=Option.map_eq_some_iff.1 hk
   obtain ⟨a,c,h1,ae,rfl⟩:=Ka _ _ _ he
   simp only [List.length_cons,List.length_nil,Nat.zero_add] at h1 ae
   cases xs with
   | nil=>simp [hv] at h1
   | cons rv cA=>
    cases ys with
    | nil=>cases rv<;>simp [hv] at h1
    | cons Mk eb=>
     cases rv<;>cases Mk<;>first | (simp [hv] at h1;done) | skip
     rename_i bo p k2 q
     simp only [List.take_succ_cons,List.take_zero,List.drop_succ_cons,List.drop_zero] at h1 ae
     have ri:(if bo=k2 then (hv [] [] []).map (fun x=>(p==q)&&x) else none)=some a:=h1
     split at ri
     case isFalse=>cases ri
     rename_i wu
     subst wu
     have R2:some ((p==q)&&true)=some a:=ri
     rw [Bool.and_true] at R2
     obtain rfl:=Option.some.inj R2
     simp only [jO,r3] at ak bs
     cases bN:jO cA with
     | none=>rw [bN] at ak;cases ak
     | some c9=>
      cases dd:jO eb with
      | none=>rw [dd] at bs;cases bs
      | some b0=>
       rw [bN] at ak;rw [dd] at bs
       obtain rfl:=Option.some.inj ak
       obtain rfl:=Option.some.inj bs
       obtain ⟨g1,g2⟩:=drop_cons fp
       obtain ⟨g3,g4⟩:=drop_cons gF
       have ih:=abW (d:=d) dT (o+1) Mm cA eb c9 b0 c Kb ae bN dd g2 g4
       rw [aG.2] at fin
       exact fin _ _ _ _ (YM hu rfl (by rw [←Array.getElem?_toList];exact g1)) (YM hu rfl (by rw [←Array.getElem?_toList];exact g3)) (ajM (d:=d+1) hu) ih
  ·rename_i gs hu
   split at hk
   case isFalse=>cases hk
   rename_i cR
   split at hk
   case h_2=>cases hk
   rename_i l dy aM zy
   split at hk
   case isFalse=>cases hk
   rename_i bz
   obtain ⟨Mm,Kb,rfl⟩:=Option.map_eq_some_iff.1 hk
   obtain ⟨a,c,h1,ae,rfl⟩:=Ka _ _ _ he
   obtain ⟨bR,dn⟩:=abU l.length ak
   obtain ⟨Ez,HZ⟩:=abU l.length bs
   have R3:X.toList.drop (o+l.length)=fQ.drop l.length:=by rw [←fp,List.drop_drop]
   have ar7:Y.toList.drop (o+l.length)=hx.drop l.length:=by rw [←gF,List.drop_drop]
   have ih:=abW (d:=d) dT (o+l.length) Mm _ _ _ _ c Kb ae dn HZ R3 ar7
   have ar8:(X.extract o (o+dy.size)).toList=fQ.take l.length:=by
    rw [Array.toList_extract,List.extract_eq_take_drop,fp,bz]
    congr 1
    omega
   have ar9:(Y.extract o (o+dy.size)).toList=hx.take l.length:=by
    rw [Array.toList_extract,List.extract_eq_take_drop,gF,bz]
    congr 1
    omega
   have bS:=abq (P:=P) (d:=d) (X:=X.extract o (o+dy.size)) (Y:=Y.extract o (o+dy.size)) gs.toList 0 l _ _ _ _ a aM h1 bR Ez (by rw [List.drop_zero];exact ar8) (by rw [List.drop_zero];exact ar9)
   rw [aG.2] at fin
   exact fin _ _ _ _ (akv hu zy) (akv hu zy) (akw hu cR bS) ih
  ·cases hk
theorem akx:∀ {ax:List (List Nat×Bool)} {xs ys:List V} {b:Bool},pr ax xs ys=some b→∃ fQ hx,jO xs=some fQ∧jO ys=some hx
 | [],xs,ys,b,h=>by
  cases xs<;>cases ys<;>simp [pr] at h
  exact ⟨[],[],rfl,rfl⟩
 | (l,q)::ax,xs,ys,b,h=>by
  unfold pr at h
  split at h
  ·rename_i a c h1 ae
   obtain ⟨v1,c9,ar,aT⟩:=m8 h1
   obtain ⟨v2,b0,cg,h8⟩:=akx ae
   refine ⟨v1++v2,c9++b0,?_,?_⟩
   ·have:=abV ar cg;rwa [List.take_append_drop] at this
   ·have:=abV aT h8;rwa [List.take_append_drop] at this
  ·cases h
theorem asa {t:TypeId} {ax:List (List Nat×Bool)} {xs ys:List V} {fQ hx:List Value} {b:Bool} (hk:Qj P t=some ax) (he:pr ax xs ys=some b) (ak:jO xs=some fQ) (bs:jO ys=some hx) :
  e8 P (Op.equal t (.agg fQ.toArray) (.agg hx.toArray))=some b∧P.eqGuardType P.depth t=false:=by
 unfold Qj at hk
 split at hk
 case h_2=>cases hk
 rename_i dT hu
 split at hk
 case isFalse=>cases hk
 rename_i cR
 refine ⟨?_,cR.2⟩
 show e8 P (Op.equalIn (9999+1) t _ _)=some b
 exact akw hu cR.1 (abW (P:=P) (d:=9997) (X:=fQ.toArray) (Y:=hx.toArray) dT.toList 0 ax xs ys fQ hx b hk he ak bs (by simp) (by simp))
theorem abZ {t:TypeId} {ax:List (List Nat×Bool)} {xs ys:List V} {b:Bool} {xo yo:Operand} (hk:Qj P t=some ax) (he:pr ax xs ys=some b):ev P .neq t xo yo (.agg xs) (.agg ys)=some (.bool (!b)):=by
 obtain ⟨fQ,hx,ak,bs⟩:=akx he
 obtain ⟨h1,ae⟩:=asa hk he ak bs
 unfold ev
 simp only [r4,ak,bs,Option.map_some]
 have aB:e8 P (eqGuard .neq t xo yo (.agg fQ.toArray) (.agg hx.toArray))=some ():=by
  simp [eqGuard,mf,P8,ae,zh]
 rw [mf,aB]
 simp only [Option.bind_some,binOp,mf,h1,zh,Option.map_some]
 rfl
end
def aaUp:=PLift.up (And.intro (And.intro (And.intro (And.intro (And.intro (And.intro (And.intro (And.intro @ant @anu) (And.intro @anv @anz)) (And.intro (And.intro @anA @anB) (And.intro @anC @anD))) (And.intro (And.intro (And.intro @anE @anF) (And.intro @anG @anw)) (And.intro (And.intro @anx @anH) @anI))) (And.intro (And.intro (And.intro (And.intro @anJ @anK) (And.intro @anL @anM)) (And.intro (And.intro @anN @anO) @anP)) (And.intro (And.intro (And.intro @anQ @ajc) (And.intro @anV @anW)) (And.intro (And.intro @anX @anY) @anZ)))) (And.intro (And.intro (And.intro (And.intro (And.intro @anR @anS) (And.intro @anT @anU)) (And.intro (And.intro @an3 @an4) (And.intro @an5 @an6))) (And.intro (And.intro (And.intro @an7 @an8) (And.intro @an9 @aoa)) (And.intro (And.intro @aob @aoc) @aod))) (And.intro (And.intro (And.intro (And.intro @aog @aoh) (And.intro @aoi @aoj)) (And.intro (And.intro @aok @aol) @aon)) (And.intro (And.intro (And.intro @aoo @aop) (And.intro @aor @aos)) (And.intro (And.intro @aot @aou) @aov))))) (And.intro (And.intro (And.intro (And.intro (And.intro (And.intro @aow @aox) (And.intro @aoy @aoz)) (And.intro (And.intro @aoA @aoB) (And.intro @aoC @aoD))) (And.intro (And.intro (And.intro @aoG @aoI) (And.intro @aoJ @aoL)) (And.intro (And.intro @aoM @aoN) @aoO))) (And.intro (And.intro (And.intro (And.intro @aoP @aoQ) (And.intro @aoR @aoS)) (And.intro (And.intro @aoT @aoW) @GT)) (And.intro (And.intro (And.intro @LE @aoX) (And.intro @aoK @aoH)) (And.intro (And.intro @an0 @aoq) @an1)))) (And.intro (And.intro (And.intro (And.intro (And.intro @an2 @aoe) (And.intro @aof @aom)) (And.intro (And.intro @aoE @aoF) @ao0)) (And.intro (And.intro (And.intro @eval_const @eval_func) (And.intro @aoY @aoZ)) (And.intro (And.intro @ao1 @ao2) @apb))) (And.intro (And.intro (And.intro (And.intro @apc @apd) (And.intro @ape @apf)) (And.intro (And.intro @apg @aph) @api)) (And.intro (And.intro (And.intro @apj @apk) (And.intro @apl @apm)) (And.intro (And.intro @apn @apo) @apq)))))) (And.intro (And.intro (And.intro (And.intro (And.intro (And.intro (And.intro @apt @iZ) (And.intro @aoU @aoV)) (And.intro (And.intro @apw @apx) (And.intro @apy @apz))) (And.intro (And.intro (And.intro @ao3 @ao4) (And.intro @ao5 @ao6)) (And.intro (And.intro @ao7 @ao8) @ao9))) (And.intro (And.intro (And.intro (And.intro @apa @apA) (And.intro @apB @apC)) (And.intro (And.intro @apD @apE) @apF)) (And.intro (And.intro (And.intro @apG @apH) (And.intro @apI @apJ)) (And.intro (And.intro @L9 @apK) @apL)))) (And.intro (And.intro (And.intro (And.intro (And.intro @apM @apN) (And.intro @Ok @all_nil)) (And.intro (And.intro @all_cons @apO) (And.intro @apP @apQ))) (And.intro (And.intro (And.intro @aji @apR) (And.intro @ajj @apS)) (And.intro (And.intro @apT @P0) @apU))) (And.intro (And.intro (And.intro (And.intro @apV @rl) (And.intro @apY @apZ)) (And.intro (And.intro @ap0 @ap1) @Rr)) (And.intro (And.intro (And.intro @Yt @ajk) (And.intro @ap2 @DD)) (And.intro (And.intro @aa5 @Bf) @DE))))) (And.intro (And.intro (And.intro (And.intro (And.intro (And.intro @aqB @aqG) (And.intro @aqI @aqJ)) (And.intro (And.intro @aqK @aqH) (And.intro @eA @b6))) (And.intro (And.intro (And.intro @aL @set_set) (And.intro @set_push @wq)) (And.intro (And.intro @ve @aqy) @aqz))) (And.intro (And.intro (And.intro (And.intro @art @aru) (And.intro @arv @arw)) (And.intro (And.intro @List.getElem?_cons_zero.{0} @List.getElem?_cons_succ.{0}) @bne_self_eq_false.{0})) (And.intro (And.intro (And.intro @beq_self_eq_true.{0} @Option.some.injEq.{0}) (And.intro @Bool.false_eq_true @decide_true)) (And.intro (And.intro @decide_false @List.map_cons.{0,0}) @List.map_nil.{0,0})))) (And.intro (And.intro (And.intro (And.intro (And.intro @Option.map_some.{0,0} @Option.map_none.{0,0}) (And.intro @Nat.add_zero @Nat.zero_add)) (And.intro (And.intro @Nat.zero_le @List.length_cons.{0}) @List.length_nil.{0})) (And.intro (And.intro (And.intro @List.drop_zero.{0} @List.drop_succ_cons.{0}) (And.intro @List.take_succ_cons.{0} @List.take_zero.{0})) (And.intro (And.intro @List.take_nil.{0} @List.set_cons_zero.{0}) @List.set_cons_succ.{0}))) (And.intro (And.intro (And.intro (And.intro @List.nil_append.{0} @List.append_nil.{0}) (And.intro @List.cons_append.{0} @and_true)) (And.intro (And.intro @true_and @and_self) @if_true.{1})) (And.intro (And.intro (And.intro @if_false.{1} @Bool.and_true) (And.intro @Bool.true_and @Bool.and_self)) (And.intro (And.intro @Bool.not_true @Bool.not_false) @Nat.le_refl)))))))
theorem aa:type_of% aaUp.down:=aaUp.down
def bDUp:=PLift.up (And.intro (And.intro (And.intro (And.intro (And.intro (And.intro @false_implies @aq8) @aq9) (And.intro @ara @arb)) (And.intro (And.intro (And.intro @arc @ard) @arf) (And.intro @arh @aq6))) (And.intro (And.intro (And.intro (And.intro @ari @arj) @ark) (And.intro @arl @implies_true.{0})) (And.intro (And.intro (And.intro @ap9 @aqa) @aqb) (And.intro @aqc @aqd)))) (And.intro (And.intro (And.intro (And.intro (And.intro @aqe @aqf) @aqg) (And.intro @aqh @aqi)) (And.intro (And.intro (And.intro @aqj @aqk) @aql) (And.intro @aqm @aqn))) (And.intro (And.intro (And.intro (And.intro @aqo @aqp) @aqq) (And.intro @aqr @aqs)) (And.intro (And.intro (And.intro @aqt @aqu) @aqv) (And.intro @aqw @aqx)))))
theorem bD:type_of% bDUp.down:=bDUp.down
def fgUp:=PLift.up (And.intro (And.intro (And.intro (And.intro (And.intro @arz @arD) @arE) (And.intro (And.intro @arF @arG) @arH)) (And.intro (And.intro (And.intro @LT @arI) @arJ) (And.intro @arK @arL))) (And.intro (And.intro (And.intro (And.intro @arM @arN) @arO) (And.intro (And.intro @arP @abE) @abF)) (And.intro (And.intro (And.intro @abG @arA) @arB) (And.intro @arC @not_false_eq_true))))
theorem fg:type_of% fgUp.down:=fgUp.down
end Go.Proofs.YtedkjhifbibpmaaGreatDoor.Ab
