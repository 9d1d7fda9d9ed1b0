/-
  Rules of the machine on abstract states. Conditions: as each theorem says.
-/
import Derived.Test.YtemdgidnhgcafaaGreatDoorAbC
import Derived.Recover
import Derived.Lib.LaidTab
import Derived.OpenShut
import Derived.Shelf.SlSortCmp.InsertionK
open Bool renaming and_eq_true->VW,false_eq_true->avO
open Option renaming bind_some->avQ,map_eq_some_iff->avL,isSome_none->axB,map_some->avI
open List renaming getElem?_map->aw9,take_append_drop->awe,getElem?_take->avg,getElem?_drop->avC,getElem?_eq_some_iff->VX,length->avu,length_take->VV,drop_zero->avW,replicate->avr,take_of_length_le->are,getElem?_append_left->av8,getElem?_append_right->av9,mem_of_getElem?->avK,drop_take->ayw,take_take->awx,drop_drop->awA,length_drop->avJ,map_cons->au9,map->axS,map_map->avU,map_append->avz,nodup_append->axN,mem_map->MF,nodup_cons->av5,mem_cons->IN,flatMap_cons->avj,length_append->IS,length_cons->ave,getElem!_eq_getElem?_getD->ayz,getElem?_cons_succ->axH,ext_getElem->axD,length_pos_iff->aAL,take_left'->awV,finRange->ayB,append_nil->avq,pairwise_map->awf,mem_filter->afP,range->VT
open Nat renaming eq_of_mul_eq_mul_right->awk,zero_add->avm,le_refl->BY,add_mul->atY,min_eq_left->avD,zero_le->Dc,one_mul->awB
open Prod renaming fst->awl,mk->avp
open Array renaming getElem?_append->ayv,getElem?_eq_some_iff->avl,getElem?_modify->avP,getElem?_toList->avF,getElem?_eq_getElem->avd,length_toList->av3,getD_eq_getD_getElem?->axJ,eq_empty_of_size_eq_zero->awK,toList_inj->axI
open And renaming intro->AT
set_option linter.unusedVariables false
set_option linter.unusedSimpArgs false
set_option maxRecDepth 10000
namespace Go.Proofs.YtemdgidnhgcafaaGreatDoor.Ab
open Go Go.RowKit
inductive E3 where
 | bool | int (k:IntKind) | str | bj (s:E3) | unit | cat (a b:E3) | ext (n:Nat)
def E3.width:E3→Nat
 | .unit=>0
 | .cat a b=>a.width+b.width
 | .ext n=>n
 | _=>1
section
variable {H:Type} {enc:TypeId×Value→H} {P:Program} {w:World} {base:Nat} {spare:Nat→Bool} {held:Bool} {Q:List V→Prop} {akB:TypeId}
end
def Xf (P:Program) (g:FuncId) (args:List V) (h:I) (R:I→Prop):Prop :=
 ∀ (ρ:Ren) (B:Nat) (aJ w:World) (args':Array Value),aR ρ B aJ h w→aX ρ args args'.toList →
  CallsD P g args' .returning w fun e tz w'=>e=.returned (.tuple #[])∧tz=.returning∧∃ (ρ':Ren) (h':I),aR ρ' B aJ h' w'∧ρ.le ρ'∧R h'
def Xg (P:Program) (g:FuncId) (args:List V) (h:I) (R:I→Prop):Prop :=
 ∀ (ρ:Ren) (B:Nat) (aJ w:World) (args':Array Value) (t:TypeId) (v:Value),aR ρ B aJ h w→aX ρ args args'.toList →
  CallsD P g args' (.panicking [{ v:=.iface t v,recovered:=false }]) w fun e tz w'=>e=.returned (.tuple #[])∧tz=.panicking [{ v:=.iface t v,recovered:=true }]∧∃ (ρ':Ren) (h':I),aR ρ' B aJ h' w'∧ρ.le ρ'∧R h'
def BV (P:Program) (fn:Func) (R:V→I→Prop) (f:ak) (h:I):Prop:=match qn P fn.results.toList f h with | some r=>R r h | none=>False
theorem af.IH {P:Program} {bG g:FuncId} {fn:Func} {A A2 C:Code} {Pv:Nat} {t x y:Tmp} {Xh Xi:TypeId} {RY RZ} {R0 R1} {Xj:Array TypeId} (mN:P.funcs[bG]?=some fn)
  (al:fn.body=some (.seq A (.seq A2 (.seq (.region Pv #[⟨some t,.makeFunc (.func g) #[] #[.tmp x,.tmp y],Xh,RY,R0,none⟩,⟨none,.defer ⟨.value (.tmp t),#[],Xj⟩,Xi,RZ,R1,none⟩] false) C))))
  (bE:t<fn.ntmps) (hI:bT P g=true) {args:List V} (hlen:args.length≤fn.ntmps) {h:I} {R:V→I→Prop} {M:ak→I→Prop} {KR KP:V→V→ak→I→Prop}
  (h1:aZ P fn.ntmps A (fun z f h=>z=.normal∧aZ P fn.ntmps A2 (fun z f h=>(z=.ret∧BV P fn R f h)∨(z=.normal∧M f h)) f h) (iK args) h)
  (aD:∀ f h,M f h→aZ P fn.ntmps C (fun z bO h'=>((z=.ret∨z=.normal)∧KR (f x) (f y) bO h')∨(z=.panic∧KP (f x) (f y) bO h')) (f.put (some t) .top) h)
  (eC:∀ gq gU bO h',KR gq gU bO h'→Xf P g [gq,gU] h' (BV P fn R bO))
  (lV:∀ gq gU bO h',KP gq gU bO h'→Xg P g [gq,gU] h' (BV P fn R bO)):af P bG args h R:=by
 intro ρ B aJ w args' hw aP;refine calls_of_wp_defers mN al ?_;have fin:∀ (ρ':Ren) (f:ak) (h':I) (ig:Act) (w':World),Ren.le { ρ with dfr:=[] } { ρ' with dfr:=[] }→aR ρ' B aJ h' w'→eg ρ' fn.ntmps f ig→BV P fn R f h' →
   ∃ v,(results fn ig.tmps).run P w'=.ok v w'∧((∃ (ρ':Ren) (r:V) (c0:Value) (h':I),Ending.returned v=.returned c0∧aB ρ' r c0∧aR ρ' B aJ h' w'∧ρ.le ρ'∧R r h') ∨
    (∃ (ρ':Ren) (iv:List PanicEntry) (h':I),Ending.returned v=.panicked iv∧ii iv∧aR ρ' B aJ h' w'∧ρ.le ρ'∧False)):=by
  intro ρ' f h' ig w' aw bX b8 dz;unfold BV at dz;cases o2:qn P fn.results.toList f h' with
  | none=>simp [o2] at dz
  | some r=>
  simp only [o2] at dz;obtain ⟨c0,cX,dT⟩:=Rt bX b8 o2;exact ⟨c0,cX,.inl ⟨{ ρ' with dfr:=ρ.dfr },r,c0,h',rfl,dT.dfr ρ.dfr,bX.dfr ρ.dfr,⟨aw.ren,aw.frz,rfl⟩,dz⟩⟩
 apply wp_seq;refine wp_mono (h1 { ρ with dfr:=[] } B aJ _ w (hw.dfr []) (Ru (aP.dfr []) hlen rfl)) ?_
 rintro e cb cV ⟨ρ1,z,f1,Xk,aj,gX,xP,h5,rfl,ad⟩
 cases e<;>simp only [ql] at aj;show (Code.seq A2 _).wp P _ cb cV;apply wp_seq;refine wp_mono (ad ρ1 B aJ cb cV gX xP) ?_
 rintro e a2 bS ⟨ρ2,z,f2,eR,aj,iI,h4,ht,bR⟩
 have ez:Ren.le { ρ with dfr:=[] } { ρ2 with dfr:=[] }:=⟨(h5.trans ht).ren,(h5.trans ht).frz,rfl⟩;rcases bR with ⟨rfl,bR⟩ | ⟨rfl,bR⟩
 ·cases e<;>simp only [ql] at aj;show Leaves P fn a2.tmps _ a2.defers .returning bS;rw [show a2.defers=[] from (h4.defers.trans ht.dfr).trans h5.dfr]
  exact fin ρ2 f2 eR a2 bS ez iI h4 bR
 ·cases e<;>simp only [ql] at aj;show (Code.seq (.region Pv _ false) C).wp P _ a2 bS;apply wp_seq;apply wp_region;have bo:=h4.size;have Xl:a2.defers=[]:=(h4.defers.trans ht.dfr).trans h5.dfr;have gI:=aD f2 eR bR;obtain ⟨gq,wD⟩:∃ v,v=a2.tmps.getD x undef:=⟨_,rfl⟩;obtain ⟨gU,II⟩:∃ v,v=a2.tmps.getD y undef:=⟨_,rfl⟩;have rx:=h4.tmps x;have Xm:=h4.tmps y;rw [←wD] at rx;rw [←II] at Xm;have pv:=h4.put (v:=.top) (v':=.func (.func g) #[] #[gq,gU]) (.top _) (some t) (by simpa [sQ] using bE)
  let d:Deferred:={ target:=.fn (.func g) #[gq,gU],args:=#[] }
  have og:C.wp P (bodyPostD P fn fun e w'=>(∃ (ρ':Ren) (r:V) (c0:Value) (h':I),e=.returned c0∧aB ρ' r c0∧aR ρ' B aJ h' w'∧ρ.le ρ'∧R r h') ∨
    (∃ (ρ':Ren) (iv:List PanicEntry) (h':I),e=.panicked iv∧ii iv∧aR ρ' B aJ h' w'∧ρ.le ρ'∧False)) { tmps:=(a2.put (some t) (.func (.func g) #[] #[gq,gU])).tmps,defers:=[d] } bS:=by
   have hW:eg { ρ2 with dfr:=[d] } fn.ntmps (f2.put (some t) .top) { tmps:=(a2.put (some t) (.func (.func g) #[] #[gq,gU])).tmps,defers:=[d] } :=
    ⟨fun k=>(pv.tmps k).dfr [d],pv.size,rfl⟩
   refine wp_mono (gI { ρ2 with dfr:=[d] } B aJ _ bS (iI.dfr [d]) hW) ?_
   rintro e a3 j7 ⟨ρ3,z,f3,xQ,aj,zC,uD,mP,IJ⟩
   have E4:a3.defers=[d]:=uD.defers.trans mP.dfr;have IK:ρ2.le { ρ3 with dfr:=ρ2.dfr }:=mP.qi;have Gl:aX { ρ3 with dfr:=ρ2.dfr } [f2 x,f2 y] #[gq,gU].toList:=aX.cons (rx.mono IK) (aX.cons (Xm.mono IK) (aX.nil _));have xA:Ren.le { ρ with dfr:=[] } { ρ3 with dfr:=[] }:=⟨fun i q ab=>mP.ren i q (ez.ren i q ab),fun i q ab=>mP.frz i q (ez.frz i q ab),rfl⟩;have hinv:(invoke d.target d.args).run P j7=.ok (.enter g #[gq,gU]) j7:=by
    unfold bT at hI;cases az:P.funcs[g]? with
    | none=>simp [az] at hI
    | some auL=>
     simp only [az,VW,bne_iff_ne,ne_eq] at hI;simp [d,invoke,callFunc,az,hI.1,hI.2,Option.isSome_iff_ne_none.1 hI.1]
   rcases IJ with ⟨IJ,hk⟩ | ⟨rfl,hk⟩
   ·have R2:Leaves P fn a3.tmps (fun e w'=>(∃ (ρ':Ren) (r:V) (c0:Value) (h':I),e=.returned c0∧aB ρ' r c0∧aR ρ' B aJ h' w'∧ρ.le ρ'∧R r h') ∨
      (∃ (ρ':Ren) (iv:List PanicEntry) (h':I),e=.panicked iv∧ii iv∧aR ρ' B aJ h' w'∧ρ.le ρ'∧False)) a3.defers .returning j7:=by
     rw [E4];refine ⟨by simp,_,_,g,#[gq,gU],rfl,hinv,?_⟩
     refine ((eC _ _ _ _ hk) { ρ3 with dfr:=ρ2.dfr } B aJ j7 #[gq,gU] (zC.dfr ρ2.dfr) Gl).mono ?_
     rintro e tz wW ⟨rfl,rfl,ρ4,bn,ti,oh,he⟩
     have IL:eg { ρ4 with dfr:=[d] } fn.ntmps f3 a3:=⟨fun k=>aB.xa (ρ:=ρ3) (ρ':={ ρ4 with dfr:=[d] }) (fun i q ab=>oh.ren i q ab) (fun i q ab=>oh.frz i q ab) (uD.tmps k),uD.size,E4⟩;exact fin { ρ4 with dfr:=[d] } f3 bn a3 wW ⟨fun i q ab=>oh.ren i q (xA.ren i q ab),fun i q ab=>oh.frz i q (xA.frz i q ab),rfl⟩ (ti.dfr [d]) IL he
    rcases IJ with rfl | rfl<;>cases e<;>simp only [ql] at aj<;>exact R2
   ·cases e with
    | panic iv=>
     obtain ⟨xR,cv,rfl⟩:=aj;show Leaves P fn a3.tmps _ a3.defers (.panicking _) j7;rw [E4];refine ⟨by simp,_,_,g,#[gq,gU],rfl,hinv,?_⟩
     refine ((lV _ _ _ _ hk) { ρ3 with dfr:=ρ2.dfr } B aJ j7 #[gq,gU] xR cv (zC.dfr ρ2.dfr) Gl).mono ?_
     rintro e tz wW ⟨rfl,rfl,ρ4,bn,ti,oh,he⟩
     have IL:eg { ρ4 with dfr:=[d] } fn.ntmps f3 a3:=⟨fun k=>aB.xa (ρ:=ρ3) (ρ':={ ρ4 with dfr:=[d] }) (fun i q ab=>oh.ren i q ab) (fun i q ab=>oh.frz i q ab) (uD.tmps k),uD.size,E4⟩;show Leaves P fn a3.tmps _ [] (settle _) wW;simp only [settle,List.dropWhile_nil];exact fin { ρ4 with dfr:=[d] } f3 bn a3 wW ⟨fun i q ab=>oh.ren i q (xA.ren i q ab),fun i q ab=>oh.frz i q (xA.frz i q ab),rfl⟩ (ti.dfr [d]) IL he
    | _=>simp only [ql] at aj
  have aC:a2.eval (.tmp x)=gq:=by simp [Act.eval,wD]
  have bd:a2.eval (.tmp y)=gU:=by simp [Act.eval,II]
  simp [wpOps,go_sem];refine .inl (.inl ?_);rw [if_pos (show t<a2.tmps.size from bo.symm ▸ bE)]
  subst wD II;simpa [Act.put,Xl,d,go_sem,Oper.upon] using og
section
variable {h:I} {a b c d o:aO}
theorem akC:(((h.push a).push b).push c).get h.n=a:=by simp [y2,dq];intro U;omega
theorem akD:(((h.push a).push b).push c).get (h.n+1)=b:=by simp [y2,dq]
theorem akE:(((h.push a).push b).push c).get (h.n+1+1)=c:=by simp [y2,dq]
theorem akF:((((h.push a).push b).push c).push d).get h.n=a:=by
 simp only [y2,dq];rw [if_neg (by omega),if_neg (by omega),if_neg (by omega),if_pos trivial]
theorem akG:((((h.push a).push b).push c).push d).get (h.n+1+1)=c:=by
 simp only [y2,dq];rw [if_neg (by omega),if_pos trivial]
theorem akH:((((h.push a).push b).push c).push d).get (h.n+1+1+1)=d:=by
 simp only [y2,dq];rw [if_pos trivial]
theorem akI:(((h.push a).push b).push c).set (h.n+1+1) o=((h.push a).push b).push o:=by
 rw [show h.n+1+1=((h.push a).push b).n from rfl,set_push]
theorem akJ:((((h.push a).push b).push c).push d).set (h.n+1+1+1) o=(((h.push a).push b).push c).push o:=by
 rw [show h.n+1+1+1=(((h.push a).push b).push c).n from rfl,set_push]
end
def Xn (g:Nat→Option (List V)):I:={ n:=0,get:=fun _=>.dead,glob:=g }
def IM (g:Nat→Option (List V)) (w:World):Prop:=∀ k cs,g k=some cs→∃ arr e ho,w.heap[k]?=some (.cells arr e ho)∧dQ (sT w) cs arr
theorem R3 {P:Program} {w:World} {name:String} {k:IntKind} {zs:List Int} {g:Nat} (az:P.globalNamed name=some g) (h:Lib.TabIs P w name k zs):∃ arr e ho,w.heap[g]?=some (.cells arr e ho)∧dQ (sT w) (zs.map (V.int k)) arr:=by
 unfold Lib.TabIs World.var? at h;rw [az] at h;simp only [avQ] at h;split at h
 ·rename_i cs e ho ab;obtain rfl:=Option.some.inj h;refine ⟨_,e,ho,ab,by simp,fun i v v' h1 ad=>?_⟩
  simp only [aw9,avL,List.getElem?_toArray] at h1 ad;obtain ⟨n,aG,rfl⟩:=h1;obtain ⟨m,hm,rfl⟩:=ad;rw [aG] at hm;cases hm;exact .int k n
 ·cases h
section
variable {H:Type} {enc:TypeId×Value→H} {P:Program} {w:World} {base:Nat} {spare:Nat→Bool} {held:Bool} {Q:List V→Prop} {akB:TypeId}
end
section
variable {P:Program} {t:TypeId}
def DJ (P:Program) (t:TypeId):Option (Nat×Nat×Bool):=match P.underlying t with
 | some (.array n e)=>match mj P e,cC P e with
  | some r,some sz=>some (n,sz,r)
  | _,_=>none
 | _=>none
def IP (q:Option (Nat×Nat×Bool)) (cs:List V) (i:Int):Option V:=match q with
 | some (n,sz,r)=>if 0≤i∧i<n then (if r then some (.agg ((cs.drop (i.toNat * sz)).take sz)) else cs[i.toNat * sz]?) else none
 | none=>none
theorem akK {q:Nat×Nat×Bool} (h:DJ P t=some q) {cs:List V} {kk:IntKind} {i:Int}:Dp P t (.agg cs) (.int kk i)=IP (some q) cs i:=by
 unfold DJ at h;cases hu:P.underlying t with
 | none=>simp [hu] at h
 | some d=>
  cases d<;>simp only [hu] at h<;>try (exact absurd h (by simp))
  rename_i n e;unfold Dp Dn IP;simp only [hu];cases aL:mj P e with
  | none=>simp [aL] at h
  | some r=>
   cases bR:cC P e with
   | none=>simp [aL,bR] at h
   | some sz=>
    simp only [aL,bR,Option.some.injEq] at h;subst h;simp only [];cases r<;>simp
end
def jG (v v2:V):Prop:=∀ ρ v',aB ρ v v'→aB ρ v2 v'
def jH (l ez:List V):Prop:=∀ ρ bU,aX ρ l bU→aX ρ ez bU
theorem jG.refl (v:V):jG v v:=fun _ _ h=>h
theorem jH.refl (l:List V):jH l l:=fun _ _ h=>h
theorem jH.cons {v v2:V} {l ez:List V} (a:jG v v2) (b:jH l ez):jH (v::l) (v2::ez):=fun ρ bU h=>by
 obtain ⟨v',iW,rfl,h1,ad⟩:=h.dB;exact aX.cons (a ρ v' h1) (b ρ iW ad)
theorem jH.append {a a2 b b7:List V} (aP:jH a a2) (aw:a.length=a2.length) (al:jH b b7):jH (a++b) (a2++b7):=fun ρ bU h=>by
 have h1:=h.take a.length;have ad:=h.drop a.length;rw [List.take_left] at h1;rw [List.drop_left] at ad;have:=(aP ρ _ h1).append (al ρ _ ad);rwa [awe] at this
theorem jG.ag:jG .ag (.ah 0 []):=fun ρ v' h=>by cases h;exact .gg none 0 (by simp)
theorem jG.ah {n:Nat} {cs uE:List V} (h:jH cs uE) (aw:cs.length=uE.length):jG (.ah n cs) (.ah n uE):=fun ρ v' aH=>by
 cases aH with
 | ah o n cap al aG aN aj=>
  rename_i b arr;have gH:aX ρ cs ((arr.toList.drop o).take cs.length):=by
   refine ⟨by simp;omega,fun k v v' h1 ad=>?_⟩
   rw [avg] at ad;split at ad
   ·rw [avC] at ad;exact aj k v v' h1 (by simpa using ad)
   ·cases ad
  have ad:=h ρ _ gH;refine .ah o n cap al aG (by omega) fun k v v' aD bn=>?_
  have hk:k<cs.length:=by rw [aw];exact (VX.1 aD).1
  refine ad.2 k v v' aD ?_;rw [avg,if_pos hk,avC];simpa using bn
 | gg a c aP=>
  have:uE=[]:=List.eq_nil_of_length_eq_zero (by simpa using aw.symm)
  subst this;exact .gg a c aP
theorem jG.cast {v v2:V} (a:jG v v2) (h:I):aA v h v2 h:=fun ρ B aJ w c0 hw aH=>⟨ρ,Ren.le.refl ρ,hw,a ρ c0 aH⟩
theorem jG.agg {l ez:List V} (h:jH l ez):jG (.agg l) (.agg ez):=fun ρ v' aH=>by
 cases aH with
 | agg aa aj=>exact (h ρ _ (dQ.list ⟨aa,aj⟩)).jz.agg
theorem jG.tuple {l ez:List V} (h:jH l ez):jG (.tuple l) (.tuple ez):=fun ρ v' aH=>by
 cases aH with
 | tuple aa aj=>exact (h ρ _ (dQ.list ⟨aa,aj⟩)).jz.tuple
section
variable {P:Program} {t:TypeId} {T:kx}
theorem vJ {h:I} {e:TypeId} {sz:Nat} {v:V} {cs:List V} (hk:ef P t=some 1) (aN:Own h e sz v cs) {n:Nat} (aG:cs.length=n * sz) (dg:0<sz) (cm:cs.all (·.one)=true):fI P sz t v h=some (n,cs):=by
 obtain ⟨d,hu,bf⟩:=BI hk;cases d<;>simp [vy] at bf;rcases aN with ⟨aH,rfl⟩ | ⟨i,len,cap,c,ex,rfl,hi,az,hlen,bY,dp⟩
 ·have aK:n=0:=by
   have:n * sz=0:=by simpa using aG.symm
   rcases Nat.mul_eq_zero.1 this with h | h<;>omega
  subst aK;rcases aH with rfl | rfl<;>simp only [fI,hu]
 ·have h1:len=n:=awk dg (hlen.symm.trans aG);subst h1;have cI:len * sz≤c.length:=by
   have:=congrArg avu bY;rw [VV,hlen] at this;omega
  simp only [fI,hu,az,avW,avm];rw [bY,if_pos ⟨cI,cm⟩]
end
section
variable {H:Type} {enc:TypeId×Value→H} {P:Program} {w:World} {base:Nat} {spare:Nat→Bool} {held:Bool}
end
section
variable {M:Nat→Prop} {bz:Operand→V} {t s:TypeId} {x y z:Operand} {k:Nat}
theorem akL {h:I} {i:Nat} {o:aO}:J h (h.set i o) (fun x=>x=i)=True:=eq_true (J.set h i o)
theorem R4 {n:Nat}:(n+1+1=n)=False:=eq_false (by omega)
theorem R5 {n:Nat}:(n+1+1+1=n)=False:=eq_false (by omega)
theorem R6 {n:Nat}:(n+1+1+1+1=n)=False:=eq_false (by omega)
theorem akM {n:Nat}:(n=n+1)=False:=eq_false (by omega)
theorem akN {n:Nat}:(n=n+1+1)=False:=eq_false (by omega)
theorem akO {n:Nat}:(n=n+1+1+1)=False:=eq_false (by omega)
def vK (M:Nat→Prop) (v:V):Prop:=l9 M (iY v)
theorem akP:l9 M (pW bz (.move x))=True:=eq_true (by intro i hi;cases hi)
theorem akQ:l9 M (pW bz (.assign x))=True:=eq_true (by intro i hi;cases hi)
theorem akR:l9 M (pW bz (.pick x y z))=True:=eq_true (by intro i hi;cases hi)
theorem akS {ps:Array (Nat×Operand)}:l9 M (pW bz (.build t ps))=True:=eq_true (by intro i hi;cases hi)
theorem akT:l9 M (pW bz (.nilCheck x))=True:=eq_true (by intro i hi;cases hi)
theorem akU {op:BinOp}:l9 M (pW bz (.binOp op t x y s))=True:=eq_true (by intro i hi;cases hi)
theorem akV {op:UnOp}:l9 M (pW bz (.unOp op t x))=True:=eq_true (by intro i hi;cases hi)
theorem akW:l9 M (pW bz (.fieldAddr t x k))=True:=eq_true (by intro i hi;cases hi)
theorem akX:l9 M (pW bz (.indexAddr t x y))=True:=eq_true (by intro i hi;cases hi)
theorem akY:l9 M (pW bz (.extract x k))=True:=eq_true (by intro i hi;cases hi)
theorem akZ:l9 M (pW bz (.load t x))=vK M (bz x):=rfl
theorem ak0 {i o:Nat}:vK M (.ptr i o)=¬M i:=propext ⟨fun h=>h i rfl,fun h j aV=>by cases aV;exact h⟩
theorem ak1 {i:Nat}:vK M (.map i)=¬M i:=propext ⟨fun h=>h i rfl,fun h j aV=>by cases aV;exact h⟩
theorem ak2 {cs:List V}:vK M (.at cs)=True:=eq_true (by intro i hi;cases hi)
end
section
variable {P:Program} {d:Option Tmp} {K:e7} {f:ak} {h:I}
end
section
variable {P:Program} {t:TypeId} {T:kx}
def AD (h:I) (e:TypeId) (sz:Nat) (i len cap:Nat) (c:List V) (ex:Option Nat) (cs:List V):Prop :=
 i<h.n∧h.get i=.cells c e ex∧cs.length=len * sz∧c.take (len * sz)=cs∧cap<cj∧cap * sz≤c.length∧len≤cap
theorem AD.own {h:I} {e:TypeId} {sz i len cap:Nat} {c cs:List V} {ex:Option Nat} (o:AD h e sz i len cap c ex cs):Own h e sz (.bj i 0 len cap) cs :=
 .inr ⟨i,len,cap,c,ex,rfl,o.1,o.2.1,o.2.2.1,o.2.2.2.1,.inl ⟨o.2.2.2.2.1,o.2.2.2.2.2.1,o.2.2.2.2.2.2⟩⟩
theorem ak3 {h:I} {i len sz:Nat} {c:List V} {e:TypeId} (az:h.get i=.cells c e (some sz)) {ρ:Ren} {B:Nat} {aJ w:World} (R:aR ρ B aJ h w) {c0:Value} (aL:aB ρ (.bj i 0 len cj) c0) :
  ∃ C,len≤C∧C<2 ^ 63∧c.length≤C * sz∧aR ρ B aJ (h.set i (.cells (c++avr (C * sz - c.length) .top) e none)) w∧aB ρ (.bj i 0 len C) c0:=by
 obtain ⟨b,bA,hi,aw,rfl⟩:=aL.gm;have lX:=R.heap.obj i;rw [az] at lX;obtain ⟨cN,rB,arr,k0,av,cr,hw,ay,eK,bo,xS⟩:=lX;rw [hi] at k0;cases k0;have l3:fz bA cj=bA:=by simp [fz,cj]
 rw [l3] at aw⊢;have cI:c.length≤bA * sz:=by omega
 refine ⟨bA,aw,xS,cI,R.qh hi (by rw [az];simp) (fun k _=>rfl) (BY _) (hn.refl _ _) ?_,?_⟩
 ·have hlen:(c++avr (bA * sz - c.length) V.top).length=arr.size:=by simp;omega
  refine ⟨b,bA,arr,hi,av,cr,hw,by omega,?_,by rw [hlen];rfl⟩
  rw [hlen,show arr.toList.take arr.size=arr.toList from by rw [are (by simp)]]
  refine ⟨by rw [hlen];simp,fun k v v' h1 ad=>?_⟩
  by_cases hk:k<c.length
  ·rw [av8 hk] at h1;exact eK.2 k v v' h1 (by rw [avg,if_pos hk];exact ad)
  ·rw [av9 (by omega)] at h1
   have:=avK h1;rw [List.mem_replicate] at this;rw [this.2];exact .top _
 ·have kt:fz bA bA=bA:=by unfold fz;rw [if_pos (show bA<cj by unfold cj;omega)]
  have:=aB.bj (ρ:=ρ) hi 0 len bA (by rw [kt];exact aw)
  rw [kt] at this;exact this
theorem af.R7 {P:Program} {bG:FuncId} {h:I} {e:TypeId} {sz:Nat} {v:V} {cs rest:List V} {R:V→I→Prop} (aN:Own h e sz v cs) (bo:0<sz)
  (aK:(v=.ag∨v=.z0)→cs=[]→af P bG (v::rest) h R)
  (h1:∀ i len cap c ex h',(v=.bj i 0 len cap∨v=.bj i 0 len cj)→AD h' e sz i len cap c ex cs→cap<2 ^ 63∨v=.bj i 0 len cap→J h h' (·=i)→h'.n=h.n→af P bG (.bj i 0 len cap::rest) h' R):af P bG (v::rest) h R:=by
 rcases aN with ⟨aH,dX⟩ | ⟨i,len,cap,c,ex,rfl,hi,az,hlen,bY,⟨wB,tg,IQ⟩ | ⟨rfl,rfl⟩⟩
 ·exact aK aH dX
 ·exact h1 i len cap c ex h (.inl rfl) ⟨hi,az,hlen,bY,wB,tg,IQ⟩ (.inr rfl) (J.refl _ _) rfl
 ·intro ρ B aJ w args' Gi aP;cases args' with
  | mk l=>
  cases l with
  | nil=>have:=aP.1;simp at this
  | cons a l=>
  have aL:aB ρ (.bj i 0 len cj) a:=aP.2 0 _ _ rfl rfl;obtain ⟨C,bJ,ba,b2,Rg,dI⟩:=ak3 az Gi aL;have cI:len * sz≤c.length:=by
   have:=congrArg avu bY;rw [VV,hlen] at this;omega
  refine h1 i len C _ none _ (.inr rfl) ⟨by rw [lW];exact hi,aT,hlen,?_,by unfold cj;omega,?_,bJ⟩ (.inl ba) (J.set _ _ _) (lW) ρ B aJ w _ Rg ?_
  ·rw [List.take_append_of_le_length cI,bY]
  ·simp;omega
  ·refine ⟨by have:=aP.1;simpa using this,fun k v v' cX dT=>?_⟩
   cases k with
   | zero=>cases cX;cases dT;exact dI
   | succ k=>exact aP.2 (k+1) v v' (by simpa using cX) (by simpa using dT)
theorem Xo {sz:Nat} {kk:IntKind} (aa:dF P t=some sz) (dg:0<sz) {h:I} {e:TypeId} {v:V} {cs:List V} (aN:Own h e sz v cs) {k:Nat} (hk:(k+1) * sz≤cs.length) :
  ∃ i,hG P t v (.int kk (k:Int))=some (.ptr i (k * sz))∧a8 v=some i∧i<h.n∧(∀ (h':I) (d:Nat),h'.get i=h.get i→d≤sz→∃ r,cP (h'.get i) (k * sz+d)=some (((cs.drop (k * sz)).take sz).drop d++r)) ∧
   ∀ xs:List V,xs.length=sz→xs.all (·.one)=true→∃ ob,bF (some sz) (h.get i) (k * sz) xs=some ob∧Own (h.set i ob) e sz v (lay cs (k * sz) xs)∧J h (h.set i ob) (a6 v):=by
 rcases aN with ⟨_,rfl⟩ | ⟨i,len,cap,c,ex,rfl,hi,az,hlen,bY,dp⟩
 ·have:sz≤(k+1) * sz:=Nat.le_mul_of_pos_left _ (by omega)
  simp at hk;omega
 ·have cI:len * sz≤c.length:=by
   have:=congrArg avu bY;rw [VV,hlen] at this;omega
  have td:k<len:=by
   rw [hlen] at hk;have:=Nat.le_of_mul_le_mul_right hk dg;omega
  have hmul:k * sz+sz=(k+1) * sz:=by rw [atY];omega
  refine ⟨i,?_,rfl,hi,fun h' d U bf=>⟨c.drop (k * sz+sz),?_⟩,fun xs aj aN=>⟨.cells (lay c (k * sz) xs) e ex,?_,.inr ⟨i,len,cap,lay c (k * sz) xs,ex,rfl,by rw [lW];exact hi,aT,?_,?_,?_⟩,(J.set h i _).mono fun k hk=>by subst hk;rfl⟩⟩
  ·rw [Gr,aa,Rz,if_pos ⟨by omega,by omega⟩]
   simp
  ·rw [U,az,H7,if_pos (by omega),←bY]
   congr 1
   have aC:((c.take (len * sz)).drop (k * sz)).take sz=(c.drop (k * sz)).take sz:=by
    rw [ayw,awx,avD];have:(k+1) * sz≤len * sz:=Nat.mul_le_mul_right _ td;omega
   have bd:=awe (sz - d) (c.drop (k * sz+d));rw [awA,show k * sz+d+(sz - d)=k * sz+sz by omega] at bd
   rw [aC,ayw,awA];exact bd.symm
  ·rw [az];unfold bF;simp only;rw [if_pos ⟨aj,aN,by omega⟩]
  ·rw [vv _ _ _ (by rw [aj,hlen];omega),hlen]
  ·rw [V2 _ _ _ _ (by rw [aj];omega) cI,bY]
  ·rcases dp with ⟨a,b,d⟩ | ⟨a,b⟩
   ·exact .inl ⟨a,by rw [vv _ _ _ (by rw [aj];omega)];exact b,d⟩
   ·exact .inr ⟨a,b⟩
theorem ak4 {k:IntKind} {n:Nat}:lw (.int k (n:Int))=some n:=by simp [lw]
theorem ak5 (cd:fL P t=some T) {i o len cap:Nat} (ay:cap<cj):tD P t (.bj i o len cap)=some (.int .i64 cap):=by
 unfold tD;rw [(uw cd).2.2.2.2.2];simp only;rw [if_pos ay]
theorem ak6 {tn:TypeId} {kn kq:IntKind} (cd:fL P t=some T) (aG:nn P tn=some kn) (dg:0<T.sz) {h:I} {i o len cap n:Nat} {c:List V} {bd:TypeId} {ex:Option Nat} (az:h.get i=.cells c bd ex)
  (aK:0<n) (hu:cap<cj) (ay:cap<len+n) (h1:(len+n) * T.ao≤lim) (ad:len+n≤lim) (av:o+len * T.sz≤c.length) :
  kO P t tn (.bj i o len cap) (.int kq (n:Int)) h=some (.bj h.n 0 (len+n) cj,h.push (.cells ((c.drop o).take (len * T.sz)++made T.zs n) T.e (some T.sz))):=by
 obtain ⟨he,bR,bo,jC,fb,_⟩:=uw cd;have o3:∃ k,P.underlying tn=some (.int k):=by
  unfold nn at aG;split at aG
  ·rename_i k hk;exact ⟨k,hk⟩
  ·cases aG
 obtain ⟨k,o3⟩:=o3;have dR:fI P T.sz tn (.int kq (n:Int)) h=none:=by unfold fI;rw [o3]
 unfold kO;simp only [he,bR,bo,jC,if_pos fb,dR];unfold Re;simp only [o3,az];rw [if_pos ⟨by omega,hu,by simpa using ay,by simpa using h1,by simpa using ad,av,dg⟩]
 simp
section
variable {sz:Nat} {i o len cap:Nat} {k ba b2:IntKind}
theorem Nt (aa:dF P t=some sz) (hu:cap<cj) {l:Nat} (aw:l≤len) (ay:len≤cap) :
  nT P t (.bj i o len cap) (some (.int k (l:Int))) none none=some (.bj i (if cap=l then o else o+l * sz) (len - l) (cap - l)):=by
 obtain ⟨e,k2,bR⟩:=Il aa;unfold nT;simp only [k2,bR,WT,eO,axB,avO,false_and,if_false];unfold yQ;rw [if_pos hu,if_pos ⟨aw,ay,BY _⟩]
theorem Xp (aa:dF P t=some sz) (hu:cap<cj) {m:Nat} (hm:m≤cap) :
  nT P t (.bj i o len cap) none (some (.int k (m:Int))) none=some (.bj i o m cap):=by
 obtain ⟨e,k2,bR⟩:=Il aa;unfold nT;simp only [k2,bR,kM,eO,ak4,axB,avO,false_and,if_false];unfold yQ;rw [if_pos hu,if_pos ⟨Dc _,hm,BY _⟩];simp
theorem Xq (aa:dF P t=some sz) {a:Nat} {l:Nat} (aw:l<len) :
  nT P t (.bj i o len (cj+a)) (some (.int k (l:Int))) none none=some (.bj i (o+l * sz) (len - l) (cj+a+l)):=by
 obtain ⟨e,k2,bR⟩:=Il aa;unfold nT;simp only [k2,bR,WT,eO,axB,avO,false_and,if_false];unfold yQ;rw [if_neg (by omega),if_pos ⟨rfl,by omega,BY _⟩,if_pos (.inr aw)]
end
theorem Nu (cd:fL P t=some T) {tx:TypeId} {h:I} {i o dl dc j p n d:Nat} {c bt:List V} {bd ev:TypeId} {ex Xr:Option Nat} (az:h.get i=.cells c bd ex) (q0:h.get j=.cells bt ev Xr)
  {m:Nat} (hm:Nat.min n dl=m) (aK:0<m) (h4:p+m * T.sz≤bt.length) (av:o+m * T.sz≤c.length) (cm:((bt.drop p).take (m * T.sz)).all (·.one)=true) :
  vx P t (.bj i o dl dc) (.bj j p n d) h=some (.int .i64 m,h.set i (.cells (lay c o ((bt.drop p).take (m * T.sz))) bd ex)):=by
 obtain ⟨he,bR,bo,jC,fb,_⟩:=uw cd;have aw:((bt.drop p).take (m * T.sz)).length=m * T.sz:=by rw [VV,avJ];omega
 unfold vx;simp only [he,bo,i4,hm];simp only [tA,q0,if_pos h4];rw [if_neg (by omega),az]
 simp only;rw [if_pos ⟨by rw [aw];exact av,cm⟩]
end
structure iN (P:Program) (c4:TypeId) (d:TypeDesc) {κ:Type} [DecidableEq κ] (ke:κ→V):Prop where
 eq:∀ a b,wU P c4 d (ke a) (ke b)=some (decide (a=b))
 ok:∀ b a,xr P b c4 (ke a)=true
 bits:∀ a,∃ v,pk (ke a)=some v∧Instr.sameBits 10000 v v=true
section
variable {P:Program} {t c4 h3:TypeId} {d:TypeDesc} {κ:Type} [DecidableEq κ] {ke:κ→V} {α:Type} {enc:α→V}
def ec (ke:κ→V) (enc:α→V) (l:List (Nat×κ×α)):List (Nat×V×V):=l.map fun e=>(e.1,ke e.2.1,enc e.2.2)
def bZ (l:List (Nat×κ×α)) (k:κ):Option α :=
 match l with
 | []=>none
 | e::r=>if k=e.2.1 then some e.2.2 else bZ r k
def cW (cl:Nat) (l:List (Nat×κ×α)) (k:κ) (a:α):List (Nat×κ×α) :=
 match l with
 | []=>[(cl,k,a)]
 | e::r=>if k=e.2.1 then (e.1,k,a)::r else e::cW cl r k a
def gj (cl:Nat) (l:List (Nat×κ×α)) (k:κ):Nat:=if (bZ l k).isSome then cl else cl+1
def lA (l:List (Nat×κ×α)) (k:κ):List (Nat×κ×α) :=
 match l with
 | []=>[]
 | e::r=>if k=e.2.1 then r else e::lA r k
theorem R8 (H:iN P c4 d ke) (k:κ):∀ (l:List (Nat×κ×α)),
  (bZ l k=none∧oQ P c4 d (ke k) (ec ke enc l)=some none∧(∀ cl a,cW cl l k a=l++[(cl,k,a)])∧lA l k=l) ∨
  (∃ j e,oQ P c4 d (ke k) (ec ke enc l)=some (some j)∧l[j]?=some e∧e.2.1=k∧bZ l k=some e.2.2 ∧
   (∀ cl a,ec ke enc (cW cl l k a)=(ec ke enc l).modify j fun e=>(e.1,ke k,enc a))∧ec ke enc (lA l k)=(ec ke enc l).eraseIdx j)
 | []=>.inl ⟨rfl,rfl,fun _ _=>rfl,rfl⟩
 | e::l=>by
  have av:oQ P c4 d (ke k) (ec ke enc (e::l))=if k=e.2.1 then some (some 0) else (oQ P c4 d (ke k) (ec ke enc l)).map fun (q:Option Nat)=>q.map (·+1):=by
   show (match wU P c4 d (ke k) (ke e.2.1) with | some true=>some (some 0) | some false=>(oQ P c4 d (ke k) (ec ke enc l)).map fun (q:Option Nat)=>q.map (·+1) | none=>none)=_
   rw [H.eq];by_cases hk:k=e.2.1
   ·simp [hk]
   ·simp [hk]
  by_cases hk:k=e.2.1
  ·refine .inr ⟨0,e,by rw [av,if_pos hk],rfl,hk.symm,by rw [bZ,if_pos hk],fun cl a=>by rw [cW,if_pos hk];rfl,by rw [lA,if_pos hk];rfl⟩
  ·rcases R8 H k l with ⟨h1,ad,aD,bn⟩ | ⟨j,ed,h1,ad,aD,bn,bN,c6⟩
   ·refine .inl ⟨by rw [bZ,if_neg hk,h1],by rw [av,if_neg hk,ad];rfl,fun cl a=>by rw [cW,if_neg hk,aD];rfl,by rw [lA,if_neg hk,bn]⟩
   ·refine .inr ⟨j+1,ed,by rw [av,if_neg hk,h1];rfl,by simpa using ad,aD,by rw [bZ,if_neg hk,bn],fun cl a=>?_,?_⟩
    ·rw [cW,if_neg hk];show (e.1,ke e.2.1,enc e.2.2)::ec ke enc (cW cl l k a)=_;rw [bN];rfl
    ·rw [lA,if_neg hk];show (e.1,ke e.2.1,enc e.2.2)::ec ke enc (lA l k)=_;rw [c6];rfl
theorem Nv (H:iN P c4 d ke) {z:Value} {h:I} {i:Nat} {l:List (Nat×κ×α)} {cl:Nat} {k:κ} {ok:Bool} (hm:eL P t=some (c4,h3,d)) (bR:la P h3=some z) (az:h.get i=.map (ec ke enc l) cl) :
  nj P t (.map i) (ke k) ok h=some (match bZ l k with | some a=>(if ok then .tuple [enc a,.bool true] else enc a) | none=>(if ok then .tuple [fg z,.bool false] else fg z)):=by
 unfold nj;simp only [hm,bR,az,H.ok,if_true];rcases R8 (enc:=enc) H k l with ⟨h1,ad,_⟩ | ⟨j,e,h1,ad,aD,bn,_⟩
 ·rw [ad,h1]
 ·have:(ec ke enc l)[j]?=some (e.1,ke e.2.1,enc e.2.2):=by simp [ec,ad]
  rw [h1,bn];simp only [this];rfl
theorem Nw (H:iN P c4 d ke) {h:I} {i:Nat} {l:List (Nat×κ×α)} {cl:Nat} {k:κ} {a:α} {v:V} (hm:eL P t=some (c4,h3,d)) (az:h.get i=.map (ec ke enc l) cl) (aH:v=enc a) :
  vB P t (.map i) (ke k) v h=some (h.set i (.map (ec ke enc (cW cl l k a)) (gj cl l k))):=by
 subst aH;unfold vB gj;simp only [hm,az,H.ok,if_true];rcases R8 (enc:=enc) H k l with ⟨h1,ad,aD,_⟩ | ⟨j,e,h1,ad,aD,bn,bN,_⟩
 ·rw [ad,h1,aD];simp [ec]
 ·have:(ec ke enc l)[j]?=some (e.1,ke e.2.1,enc e.2.2):=by simp [ec,ad]
  obtain ⟨v,aH,aa⟩:=H.bits k;rw [h1,bn];simp only [this,avQ,aD,aH,aa,if_true,bN];rfl
theorem R9:∀ {l:List (Nat×κ×α)} {k:κ},(bZ l k).isSome=true→∀ (cl:Nat) (a:α),(cW cl l k a).map (fun e=>(e.1,e.2.1))=l.map (fun e=>(e.1,e.2.1))
 | [],k,h,cl,a=>by simp [bZ] at h
 | e::l,k,h,cl,a=>by
  unfold cW;by_cases hk:k=e.2.1
  ·rw [if_pos hk];simp [hk]
  ·rw [bZ,if_neg hk] at h;rw [if_neg hk,au9,au9,R9 h]
theorem Sa:∀ {l:List (Nat×κ×α)} {k:κ},bZ l k=none→∀ (cl:Nat) (a:α),cW cl l k a=l++[(cl,k,a)]
 | [],k,h,cl,a=>rfl
 | e::l,k,h,cl,a=>by
  unfold cW;by_cases hk:k=e.2.1
  ·rw [bZ,if_pos hk] at h;cases h
  ·rw [bZ,if_neg hk] at h;rw [if_neg hk,Sa h];rfl
theorem Sb:∀ {l:List (Nat×κ×α)} {k:κ},bZ l k=none↔∀ e ∈ l,e.2.1≠k
 | [],k=>by simp [bZ]
 | e::l,k=>by
  unfold bZ;by_cases hk:k=e.2.1
  ·simp [hk]
  ·rw [if_neg hk,Sb];simp [Ne.symm hk]
theorem wX:∀ (l:List (Nat×κ×α)) (cl:Nat) (k:κ) (a:α) (x:κ),bZ (cW cl l k a) x=if x=k then some a else bZ l x
 | [],cl,k,a,x=>by simp [cW,bZ]
 | e::l,cl,k,a,x=>by
  unfold cW;by_cases hk:k=e.2.1
  ·rw [if_pos hk];unfold bZ;by_cases aj:x=k
   ·simp [aj]
   ·have:x≠e.2.1:=hk ▸ aj;simp [aj,this]
  ·rw [if_neg hk];unfold bZ;by_cases aj:x=e.2.1
   ·have:x≠k:=fun U=>hk (U ▸ aj);simp [aj,Ne.symm hk]
   ·rw [if_neg aj,wX l cl k a x,if_neg aj]
def dt (l:List (Nat×κ×α)):Prop:=(l.map (·.2.1)).Nodup
omit [DecidableEq κ] in
theorem dt.nil:dt ([]:List (Nat×κ×α)):=List.nodup_nil
theorem dt.set {l:List (Nat×κ×α)} (aG:dt l) (cl:Nat) (k:κ) (a:α):dt (cW cl l k a):=by
 unfold dt at *;cases az:bZ l k with
 | some b=>
  have h:=R9 (l:=l) (k:=k) (by rw [az];rfl) cl a
  have ad:=congrArg (axS Prod.snd) h;rw [avU,avU] at ad;have aD:(cW cl l k a).map (·.2.1)=l.map (·.2.1):=ad;rw [aD];exact aG
 | none=>
  rw [Sa az,avz,axN];refine ⟨aG,by simp,fun x aj y bp=>?_⟩
  obtain ⟨e,he,rfl⟩:=MF.1 aj;simp at bp;subst bp;exact Sb.1 az e he
theorem Xs:∀ (l:List (Nat×κ×α)) (k:κ),(lA l k).Sublist l
 | [],k=>List.Sublist.refl _
 | e::l,k=>by
  unfold lA;split
  ·exact List.sublist_cons_self _ _
  ·exact (Xs l k).cons_cons _
theorem dt.del {l:List (Nat×κ×α)} (aG:dt l) (k:κ):dt (lA l k):=List.Nodup.sublist ((Xs l k).map _) aG
theorem Sc:∀ {l:List (Nat×κ×α)},dt l→∀ (k x:κ),bZ (lA l k) x=if x=k then none else bZ l x
 | [],_,k,x=>by simp [lA,bZ]
 | e::l,aG,k,x=>by
  have mL:=av5.1 aG;unfold lA;by_cases hk:k=e.2.1
  ·rw [if_pos hk];by_cases aj:x=k
   ·rw [if_pos aj,Sb];intro y bp U;exact mL.1 (MF.2 ⟨y,bp,by rw [U,aj,hk]⟩)
   ·rw [if_neg aj,bZ,if_neg fun U=>aj (U.trans hk.symm)]
  ·rw [if_neg hk];unfold bZ;by_cases aj:x=e.2.1
   ·rw [if_pos aj,if_pos aj,if_neg fun U=>hk (U.symm.trans aj)]
   ·rw [if_neg aj,if_neg aj,Sc mL.2 k x]
theorem ak7 {l:List (Nat×κ×α)} {cl:Nat} {k:κ} {a:α} (ad:axS (awl ∘ fun e=>(e.1,e.2.1)) (cW cl l k a)=axS (awl ∘ fun e=>(e.1,e.2.1)) l):(ec ke enc (cW cl l k a)).map (·.1)=(ec ke enc l).map (·.1):=by
 unfold ec;rw [avU,avU];exact ad
theorem eA.cW {l:List (Nat×κ×α)} {cl:Nat} (aa:eA (ec ke enc l) cl) (k:κ) (a:α):eA (ec ke enc (cW cl l k a)) (gj cl l k):=by
 cases az:bZ l k with
 | none=>
  have:gj cl l k=cl+1:=by unfold gj;rw [az];rfl
  rw [this,Sa az];have:=aa.snoc (ke k) (enc a);simpa [ec] using this
 | some b=>
  have:gj cl l k=cl:=by unfold gj;rw [az];rfl
  rw [this];have h:=R9 (l:=l) (k:=k) (by rw [az];rfl) cl a
  have ad:=congrArg (axS awl) h;rw [avU,avU] at ad;have aD:=ak7 (ke:=ke) (enc:=enc) ad;refine ⟨fun e he=>?_,by rw [aD];exact aa.2⟩
  have:e.1 ∈ (ec ke enc l).map (·.1):=by rw [←aD];exact MF.2 ⟨e,he,rfl⟩
  obtain ⟨ed,gG,bn⟩:=MF.1 this;rw [←bn];exact aa.1 ed gG
theorem px:∀ {l:List (Nat×κ×α)},dt l→∀ {e:Nat×κ×α},e ∈ l→bZ l e.2.1=some e.2.2
 | [],_,e,he=>by cases he
 | x::l,aG,e,he=>by
  have mL:=av5.1 aG;unfold bZ;rcases IN.1 he with rfl | gG
  ·rw [if_pos rfl]
  ·rw [if_neg fun U=>mL.1 (MF.2 ⟨e,gG,U⟩)];exact px mL.2 gG
end
open Go Go.Sort Go.Proofs
theorem hn.grow {W w':World} (h:hn W.heap.size W w'):∃ q Xt,w'=Sort.grow (W.drewN q) Xt:=by
 refine ⟨w'.drawn - W.drawn,w'.heap.extract W.heap.size w'.heap.size,?_⟩;obtain ⟨Xu,bE,DK,bo,al,bf⟩:=h;have e:w'.heap=W.heap++w'.heap.extract W.heap.size w'.heap.size:=by
  apply Array.ext_getElem?;intro k;rw [ayv];by_cases hk:k<W.heap.size
  ·rw [if_pos hk];exact al k hk
  ·rw [if_neg hk,Array.getElem?_extract];by_cases ad:k<w'.heap.size
   ·rw [if_pos (by omega),show W.heap.size+(k - W.heap.size)=k by omega]
   ·rw [if_neg (by omega),Array.getElem?_eq_none (by omega)]
 have bd:W.drawn+(w'.drawn - W.drawn)=w'.drawn:=by omega
 cases w';cases W;simp only [Sort.grow,World.drewN] at *;subst Xu bE DK;rw [←e,bd]
section
variable {ρ:Ren} {B:Nat} {aJ:World} {h:I} {w:World}
theorem aR.Gx (R:aR ρ B aJ h w) {i b bA:Nat} {c vs:List V} {e:TypeId} {ex:Option Nat} (az:h.get i=.cells c e ex) (hi:ρ.ren i=some (b,bA)) {d:Array Value} (aH:aX ρ vs d.toList) (aG:vs.length≤c.length) :
  aR ρ B aJ (h.set i (.cells (vs++c.drop vs.length) e ex)) (Sort.putRow id w b 0 d):=by
 have aN:=R.heap.obj i;rw [az] at aN;obtain ⟨cN,rB,arr,aL,av,cr,hw,hlen,eK,aj⟩:=aN;rw [hi] at aL;cases aL;have aM:=(avl.1 hw).1;have wE:d.size=vs.length:=by have:=aH.1;simp at this;omega
 have qt:∀ j,(Sort.putRow id w b 0 d).heap[j]?=if b=j then (w.heap[j]?).map (Sort.onCells (Sort.putCells id 0 d)) else w.heap[j]?:=fun j=>by
  show (w.heap.modify b _)[j]?=_;rw [avP]
 refine R.qh hi (by rw [az];simp) (fun j aV=>by rw [qt,if_neg (Ne.symm aV)]) (by rw [Sort.size_putRow];exact BY _) ⟨rfl,rfl,rfl,by rw [Sort.size_putRow];exact BY _,fun j aV=>by rw [qt,if_neg (by omega)],BY _⟩ ?_
 have aw:(vs++c.drop vs.length).length=c.length:=by simp;omega
 refine ⟨b,bA,Sort.putCells id 0 d arr,hi,av,cr,by rw [qt,if_pos rfl,hw];rfl,by rw [aw];simpa [Sort.putCells] using hlen,?_,by rw [aw];simpa [Sort.putCells] using aj⟩
 rw [aw];refine ⟨by simp [Sort.putCells];omega,fun j v v' h1 ad=>?_⟩
 rw [avg] at ad;split at ad
 case isFalse=>cases ad
 rename_i aV;rw [avF] at ad;unfold Sort.putCells at ad;rw [Array.getElem?_mapIdx,avL] at ad;obtain ⟨x,ln,dC⟩:=ad;by_cases kZ:j<vs.length
 ·rw [if_pos ⟨Dc _,by omega⟩] at dC
  subst dC;rw [av8 kZ] at h1;refine aH.2 j v _ h1 ?_;rw [avF,Nat.sub_zero,avd (by omega),getElem!_pos d j (by omega)]
  rfl
 ·rw [if_neg (by omega)] at dC
  subst dC;rw [av9 (by omega),avC,show vs.length+(j - vs.length)=j by omega] at h1
  refine eK.2 j v x h1 ?_;rw [avg,if_pos aV,avF];exact ln
theorem aR.IU (R:aR ρ B aJ h w) {i b bA:Nat} {c vs:List V} {e:TypeId} {ex:Option Nat} (az:h.get i=.cells c e ex) (hi:ρ.ren i=some (b,bA)) (ay:c.take vs.length=vs) :
  ∃ d:Array Value,aX ρ vs d.toList∧Sort.Holds id w b 0 d∧b<w.heap.size:=by
 have aN:=R.heap.obj i;rw [az] at aN;obtain ⟨cN,rB,arr,aL,av,cr,hw,hlen,eK,aj⟩:=aN;rw [hi] at aL;cases aL;have cI:vs.length≤c.length:=by
  have:=congrArg avu ay;rw [VV] at this;omega
 refine ⟨(arr.toList.take vs.length).toArray,?_,fun j aV=>?_,(avl.1 hw).1⟩
 ·have:=eK.take vs.length;rw [ay,awx,avD cI] at this;simpa using this
 ·simp only [List.size_toArray,VV,av3] at aV;have Xv:j<arr.size:=by omega
  rw [getElem!_pos _ j (by simp;omega)]
  simp [World.cell?,World.frozen?,hw,avd Xv]
theorem aR.Gy (R:aR ρ B aJ h w) {i b bA:Nat} (aw:h.get i≠.dead) (hi:ρ.ren i=some (b,bA)) {α:Type} [Inhabited α] (enc:α→List Value) (k m:Nat) (AE:Array α) (os:Array Obj) :
  ∀ cN a,ρ.frz cN=some a→(sT (sortWorldK enc k w b 0 m AE os)).frz cN=some a:=by
 intro cN a av;obtain ⟨e,ho,hw⟩:=R.heap.frz cN a av;obtain ⟨b7,ji,aL,aM,_,mH,_⟩:=R.heap.live aw;rw [hi] at aL;cases aL;have bI:b≠cN:=fun U=>by subst U;rw [mH] at av;cases av
 have tC:=(avl.1 hw).1;have h1:(sortWorldK enc k w b 0 m AE os).heap[cN]?=w.heap[cN]?:=by
  show ((w.heap.modify b _)++os)[cN]?=_;rw [ayv,if_pos (by simpa using tC),avP,if_neg bI]
 exact WK (h1.trans hw)
end
theorem af.IV {P:Program} {bG:FuncId} {args:List V} {v:V} {a:Value} (ay:af P bG args xE fun r _=>r=v) (aH:nS v=some a) {w:World}
  {args':Array Value} (aP:aX (sT w) args args'.toList):Calls P bG args' w fun e w'=>e=.returned a∧hn w.heap.size w w' :=
 (ay (sT w) w.heap.size w w args' (WL w) aP).mono fun e w' U=>by
  rcases U with ⟨ρ',r,c0,h',he,BD,hw,_,eC⟩ | ⟨_,_,_,_,_,_,_,bL⟩
  ·subst eC;rw [yO BD aH] at he;exact ⟨he,hw.below⟩
  ·exact bL.elim
theorem ak8 {P:Program} {g:FuncId} {β:Type} {E:β→List V} {cf:β→β→Int} (tI:∀ a b,af P g [.agg (E a),.agg (E b)] xE fun r _=>r=.int .i64 (cf a b)) (qq:∀ x,a1 (E x))
  {ρ:Ren} {B:Nat} {aJ:World} {h:I} {w:World} (R:aR ρ B aJ h w) {i b bA:Nat} (aw:h.get i≠.dead) (hi:ρ.ren i=some (b,bA))
  {α:Type} [Inhabited α] (rows:α→β) (enc:α→List Value) (tJ:∀ x,aX ρ (E (rows x)) (enc x)) (size k:Nat):CmpLays P g #[] enc k (fun x y=>cf (rows x) (rows y)) b 0 size w:=by
 intro m os AE Pw x y;have av:=R.Gy aw hi enc k m AE os;have Xw:∀ x,aB (sT (sortWorldK enc k w b 0 m AE os)) (.agg (E (rows x))) (.agg (enc x).toArray):=fun x=>.agg (by simpa using (tJ x).1) fun j v v' h1 ad=>by
  refine qq (rows x) v (avK h1) ρ _ v' ((tJ x).2 j v v' h1 ?_) av;simpa using ad
 have ay:=(tI (rows x) (rows y)).IV (a:=.int .i64 (cf (rows x) (rows y))) rfl (w:=sortWorldK enc k w b 0 m AE os) (args':=#[.agg (enc x).toArray,.agg (enc y).toArray]) (aX.cons (Xw x) (aX.cons (Xw y) (aX.nil _)));rw [Array.append_empty];exact ay.mono fun e w' U=>⟨U.1,U.2.grow⟩
theorem Xx {α:Type} [Inhabited α] (enc:α→List Value) (k:Nat) (hk:∀ x,(enc x).length=k) (d:Array α):(flatK enc k d).toList=d.toList.flatMap enc:=by
 have hlen:∀ l:List α,(l.flatMap enc).length=l.length * k:=fun l=>by
  induction l with
  | nil=>simp
  | cons x l ih=>rw [avj,IS,hk,ih,ave,atY];omega
 have vG:∀ (l:List α) (t:Nat),t<l.length * k→(l.flatMap enc)[t]! = (enc l[t / k]!)[t % k]!:=fun l=>by
  induction l with
  | nil=>intro t bE;simp at bE
  | cons x l ih=>
   intro t bE;have E5:0<k:=by
    rcases Nat.eq_zero_or_pos k with aK | aK
    ·subst aK;simp at bE
    ·exact aK
   rw [avj];by_cases h1:t<k
   ·rw [Nat.div_eq_of_lt h1,Nat.mod_eq_of_lt h1];simp [ayz,av8 (show t<(enc x).length by rw [hk];exact h1)]
   ·obtain ⟨u,rfl⟩:∃ u,t=u+k:=⟨t - k,by omega⟩
    rw [ave,atY,awB] at bE;have:=ih u (by omega)
    rw [Nat.add_div_right _ E5,Nat.add_mod_right];simp only [ayz,axH] at this⊢;rw [av9 (by rw [hk];omega),hk,Nat.add_sub_cancel]
    exact this
 apply axD
 ·rw [hlen];simp
 ·intro t h1 ad;have bE:t<d.size * k:=by simpa using h1
  have aC:=get_flatK enc k d t bE;have bd:=vG d.toList t (by simpa using bE)
  rw [getElem!_pos _ t (by simpa using bE)] at aC
  rw [getElem!_pos _ t ad] at bd;rw [Array.getElem_toList,aC,bd]
  congr 2
  simp [Array.getElem!_eq_getD,ayz,axJ]
theorem Xy {P:Program} {f:FuncId} {g:FuncId} {e:TypeId} {k:Nat} {β:Type} {E:β→List V} {cf:β→β→Int} (E5:0<k)
  (hk:∀ x,(E x).length=k) (h1:∀ x,(E x).all (·.one)=true) (qq:∀ x,a1 (E x)) (lB:SWO (ltOf cf))
  (tI:∀ a b,af P g [.agg (E a),.agg (E b)] xE fun r _=>r=.int .i64 (cf a b))
  (eX:∀ (n:Nat) (enc:Fin (n+1)→List Value) (hk:∀ x,(enc x).length=k) (h1:∀ x,∀ v ∈ enc x,v.oneCell'=true) (cf:Fin (n+1)→Fin (n+1)→Int) (lB:SWO (ltOf cf)) (hs cap:Nat) (d:Array (Fin (n+1))) (w:World),
   CmpLays P g #[] enc k cf hs 0 d.size w→HoldsK enc k w hs 0 d→hs<w.heap.size→d.size<4611686018427387904 →
   Calls P f #[.slice (some ⟨hs,0,none⟩) d.size cap,.func (.func g) #[] #[]] w fun e w'=>e=.returned (.tuple #[])∧∃ pU n os,PermIn 0 d.size d pU∧SortedIn (ltOf cf) 0 d.size pU∧w'=sortWorldK enc k w hs 0 n pU os)
  {h:I} {v:V} {l:List β} (AB:l=[]→af P f [v,.func (.func g) [] []] h fun r h'=>r=.tuple []∧h'=h)
  (aN:Own h e k v (l.flatMap E)) (aw:l.length<4611686018427387904) :
  af P f [v,.func (.func g) [] []] h fun r h'=>r=.tuple []∧J h h' (a6 v)∧∃ bU:List β,bU.Perm l∧(bU.Pairwise fun a b=>ltOf cf b a=false)∧Own h' e k v (bU.flatMap E):=by
 by_cases ew:l=[]
 ·refine (AB ew).mono fun r h' ⟨aL,U⟩=>?_;subst U;exact ⟨aL,J.refl _ _,l,List.Perm.refl _,by rw [ew];exact List.Pairwise.nil,aN⟩
 have hlen:=gM hk l;rcases aN with ⟨_,dX⟩ | ⟨i,len,cap,c,ex,rfl,DI,az,tb,bY,dp⟩
 ·rw [dX] at hlen;have:0<l.length:=aAL.2 ew;have:=Nat.mul_pos this E5;simp at hlen;omega
 rw [hlen] at tb;have xm:l.length=len:=awk E5 tb;subst xm;obtain ⟨n,aG⟩:∃ n,l.length=n+1:=⟨l.length - 1,by have:=aAL.2 ew;omega⟩
 intro ρ B aJ w args' R aP;obtain ⟨v1,t1,xT,IW,zD⟩:=aP.dB;obtain ⟨v2,t2,Ib,BE,BW⟩:=zD.dB;have Xz:=BW.eq_nil;subst Xz;have bd:v2=.func (.func g) #[] #[]:=by
  cases BE with
  | func fn aa bE _ _=>
   rename_i eV xf _ _;have aC:=awK (xs:=eV) aa.symm;have bd:=awK (xs:=xf) bE.symm;rw [aC,bd]
 subst bd;cases IW with
 | bj hi _ _ _ hle=>
 rename_i b bA;have fh:args'=#[.slice (some ⟨b,0,none⟩) l.length (fz bA cap),.func (.func g) #[] #[]]:=by
  apply axI.1;rw [xT,Ib]
 subst fh;obtain ⟨D,DL,hH,aM⟩:=R.IU az hi (vs:=l.flatMap E) (by rw [hlen];exact bY)
 have XA:D.size=l.length * k:=by have:=DL.1;simp only [av3] at this;omega
 let rows:Fin (n+1)→β:=fun x=>l[x.1]'(by omega)
 let enc:Fin (n+1)→List Value:=fun x=>(D.toList.drop (x.1 * k)).take k
 have tK:∀ x:Fin (n+1),((l.flatMap E).drop (x.1 * k)).take k=E (rows x):=fun x=>by
  rw [BT hk,List.drop_eq_getElem_cons (show x.1<l.length by omega),avj,awV (hk _)]
 have tJ:∀ x,aX ρ (E (rows x)) (enc x):=fun x=>by
  have:=(DL.drop (x.1 * k)).take k;rwa [tK x] at this
 have gn:∀ x,(enc x).length=k:=fun x=>by rw [←(tJ x).1,hk]
 have XB:∀ x,∀ v ∈ enc x,v.oneCell'=true:=fun x=>(tJ x).one (h1 _)
 let d:Array (Fin (n+1)):=(ayB (n+1)).toArray
 have wE:d.size=l.length:=by simp [d,aG]
 have Nx:flatK enc k d=D:=by
  apply axI.1;rw [Xx enc k gn];have key:∀ (m:Nat) (hm:m≤n+1),(((ayB (n+1)).take m).flatMap enc)=D.toList.take (m * k):=fun m=>by
   induction m with
   | zero=>intro _;simp
   | succ m ih=>
    intro hm;rw [List.take_add_one,List.flatMap_append,ih (by omega),List.getElem?_eq_getElem (by simp;omega)]
    simp only [Option.toList_some,avj,List.flatMap_nil,avq,List.getElem_finRange,enc];rw [atY,awB];simp [List.take_add]
  have:=key (n+1) (BY _);rw [are (by simp)] at this
  show (ayB (n+1)).flatMap enc=_;rw [this,are (by rw [av3,XA,aG];exact BY _)]
 have zE:SWO (ltOf fun x y=>cf (rows x) (rows y)):=⟨fun x=>lB.irrefl _,fun x y z=>lB.trans _ _ _,fun x y z=>lB.ntrans _ _ _⟩;have Ny:h.get i≠.dead:=by rw [az];simp
 have cI:=ak8 tI qq R Ny hi rows enc tJ d.size k;have IX:=eX n enc gn XB (fun x y=>cf (rows x) (rows y)) zE b (fz bA cap) d w cI (by unfold HoldsK;rw [Nx];exact hH) aM (by rw [wE];exact aw)
 rw [wE] at IX;refine IX.mono fun x w' ⟨aj,pU,m,os,aU,aa,bX⟩=>.inl ⟨ρ,.tuple [],.tuple #[],h.set i (.cells ((pU.toList.map rows).flatMap E++c.drop ((pU.toList.map rows).flatMap E).length) e ex),aj,.tuple rfl (by simp),?_,Ren.le.refl ρ,rfl,?_,pU.toList.map rows,?_,?_,?_⟩
 ·subst bX;have vL:pU.size=l.length:=by rw [aU.1,wE]
  have uF:((pU.toList.map rows).flatMap E).length=l.length * k:=by rw [gM hk];simp [vL]
  have IY:l.length * k≤c.length:=by
   have:=congrArg avu bY;rw [VV,hlen] at this;omega
  have aH:aX ρ ((pU.toList.map rows).flatMap E) (flatK enc k pU).toList:=by
   rw [Xx enc k gn];have:∀ q:List (Fin (n+1)),aX ρ ((q.map rows).flatMap E) (q.flatMap enc):=fun q=>by
    induction q with
    | nil=>exact aX.nil ρ
    | cons a q ih=>
     rw [au9,avj,avj];exact (tJ a).append ih
   exact this _
  exact ((R.ahead m).Gx az hi aH (by rw [uF];exact IY)).grow os
 ·exact (J.set h i _).mono fun q ab=>by simp [a6,a8,ab]
 ·have vL:pU.size=l.length:=by rw [aU.1,wE]
  have aD:=aU.2.2;have aC:pU.extract 0 l.length=pU:=by rw [←vL];simp
  have bd:d.extract 0 l.length=d:=by rw [←wE];simp
  rw [aC,bd] at aD;have bn:=aD.map rows;have ev:d.toList.map rows=l:=by
   apply axD
   ·simp [d,aG]
   ·intro j h1 ad;simp [d,rows]
  rwa [ev] at bn
 ·have vL:pU.size=l.length:=by rw [aU.1,wE]
  rw [awf,List.pairwise_iff_getElem];intro a cN aP al ky;have:=aa a cN (Dc _) ky (by simp at al;omega)
  rw [getElem!_pos pU cN (by simpa using al),getElem!_pos pU a (by simpa using aP)] at this
  simpa [ltOf] using this
 ·have vL:pU.size=l.length:=by rw [aU.1,wE]
  have uF:((pU.toList.map rows).flatMap E).length=l.length * k:=by rw [gM hk];simp [vL]
  have IY:l.length * k≤c.length:=by
   have:=congrArg avu bY;rw [VV,hlen] at this;omega
  refine .inr ⟨i,l.length,cap,_,ex,rfl,DI,aT,by rw [uF],?_,?_⟩
  ·rw [awV uF]
  ·rcases dp with ⟨ad,aD,bn⟩ | ⟨ad,aD⟩
   ·refine .inl ⟨ad,?_,bn⟩;rw [IS,avJ,uF];omega
   ·exact .inr ⟨ad,aD⟩
open Go
section
variable {κ α:Type} {ke:κ→V} {enc:α→V}
theorem ak9 {l:List (Nat×κ×α)} {e:Nat×V×V} (h:e ∈ ec ke enc l):∃ x ∈ l,e=(x.1,ke x.2.1,enc x.2.2):=by
 obtain ⟨x,aj,rfl⟩:=MF.1 h;exact ⟨x,aj,rfl⟩
theorem ala {l:List (Nat×κ×α)} {x:Nat×κ×α} (h:x ∈ l):(x.1,ke x.2.1,enc x.2.2) ∈ ec ke enc l:=MF.2 ⟨x,h,rfl⟩
theorem XC (l:List (Nat×κ×α)):(ec ke enc l).map (·.1)=l.map (·.1):=by
 unfold ec;rw [avU];rfl
theorem XD:∀ {q:List (Nat×κ×α)},(q.map (·.1)).Nodup→∀ {x y},x ∈ q→y ∈ q→x.1=y.1→x=y
 | [],_,x,y,aj,_,_=>by cases aj
 | z::q,ab,x,y,aj,bp,e=>by
  have ei:=av5.1 ab;rcases IN.1 aj with h1 | h1
  ·rcases IN.1 bp with ad | ad
   ·rw [h1,ad]
   ·exact absurd (MF.2 ⟨y,ad,by rw [←e,h1]⟩) ei.1
  ·rcases IN.1 bp with ad | ad
   ·exact absurd (MF.2 ⟨x,h1,by rw [e,ad]⟩) ei.1
   ·exact XD ei.2 h1 ad e
theorem XE {l cR:List (Nat×κ×α)} (aG:(l.map (·.1)).Nodup) (aH:(cR.map (·.1)).Nodup) (h1:∀ e ∈ cR,e ∈ l) (ad:∀ e ∈ l,e.1 ∈ cR.map (·.1)):cR.Perm l:=by
 have nl:l.Nodup:=(awf.1 aG).imp fun h e=>h (by rw [e])
 have Nz:cR.Nodup:=(awf.1 aH).imp fun h e=>h (by rw [e])
 rw [List.perm_ext_iff_of_nodup Nz nl];intro a;refine ⟨h1 a,fun aP=>?_⟩;obtain ⟨b,al,ky⟩:=MF.1 (ad a aP);have r0:=h1 b al;rw [←XD aG r0 aP ky];exact al
theorem XF {l cR:List (Nat×κ×α)} (j3:nk (ec ke enc l) (cR.map (·.1))=[]):∀ e ∈ l,e.1 ∈ cR.map (·.1):=fun e he=>by
 apply Classical.byContradiction;intro l6;have:(e.1,ke e.2.1,enc e.2.2) ∈ nk (ec ke enc l) (cR.map (·.1)):=by
  unfold nk;exact afP.2 ⟨ala he,by simpa using l6⟩
 rw [j3] at this;simp at this
theorem XG {l cR:List (Nat×κ×α)} {e:Nat×V×V} (he:e ∈ nk (ec ke enc l) (cR.map (·.1))):∃ x ∈ l,e=(x.1,ke x.2.1,enc x.2.2)∧x.1 ∉ cR.map (·.1):=by
 obtain ⟨h1,ad⟩:=afP.1 he;obtain ⟨x,aj,rfl⟩:=ak9 h1;exact ⟨x,aj,rfl,by simpa using ad⟩
theorem XH {l cR:List (Nat×κ×α)} {x:Nat×κ×α} (xU:(cR.map (·.1)).Nodup) (oi:∀ e ∈ cR,e ∈ l) (aj:x ∈ l) (xV:x.1 ∉ cR.map (·.1)) :
  ((cR++[x]).map (·.1)).Nodup∧(∀ e ∈ cR++[x],e ∈ l)∧cR.length<l.length:=by
 have fv:((cR++[x]).map (·.1)).Nodup:=by
  rw [avz,axN];exact ⟨xU,by simp,fun a aP b al=>by simp at al;subst al;exact fun U=>xV (U ▸ aP)⟩
 have dy:∀ e ∈ cR++[x],e ∈ l:=fun e he=>by
  rcases List.mem_append.1 he with h | h
  ·exact oi e h
  ·simp at h;subst h;exact aj
 have n3:(cR++[x]).Nodup:=(awf.1 fv).imp fun h e=>h (by rw [e])
 have:=n3.length_le_of_subset dy;rw [IS] at this;simp at this;exact ⟨fv,dy,by omega⟩
theorem IZ {κ α:Type} [DecidableEq κ]:∀ {l:List (Nat×κ×α)} {k:κ} {v:α},bZ l k=some v→∃ e ∈ l,e.2=(k,v)
 | [],k,v,h=>by simp [bZ] at h
 | e::l,k,v,h=>by
  unfold bZ at h;split at h
  ·rename_i hk;exact ⟨e,by simp,Prod.ext hk.symm (Option.some.inj h)⟩
  ·obtain ⟨x,aj,he⟩:=IZ h;exact ⟨x,List.mem_cons_of_mem _ aj,he⟩
end
theorem Acc.set {aK h:I} {e:TypeId} {sz:Nat} {v:V} {cs:List V} (a:Acc aK h e sz v cs) {i:Nat} (hi:aK.n≤i) (aH:a8 v≠some i) (o:aO):Acc aK (h.set i o) e sz v cs :=
 ⟨a.own.ai (J.set _ _ _) fun k hk he=>aH (by rw [hk,he]),a.ai.mO hi o,a.new⟩
theorem aB.tL {ρ:Ren} {v':Value} (h:aB ρ (.ah 0 []) v'):aB ρ .ag v'∨aB ρ .e6 v':=by
 rcases h.j1 with ⟨_,_,a,kN,aP,rfl⟩ | ⟨b,o,cap,arr,al,aG,aN,aj,rfl⟩
 ·cases a with
  | none=>rw [aP rfl];exact .inl .ag
  | some a=>exact .inr (.e6 a kN)
 ·exact .inr (.e6 _ _)
theorem bV.tL {P:Program} {f:FuncId} {rest:List V} {h:I} {R:V→I→Prop} {E:I→Prop} (h1:bV P f (.ag::rest) h R E) (ad:bV P f (.e6::rest) h R E):bV P f (.ah 0 []::rest) h R E:=by
 intro ρ B aJ w args' hw aP;obtain ⟨v',t,bE,aH,aL⟩:=aP.dB;rcases aH.tL with aH | aH
 ·exact h1 ρ B aJ w args' hw (by rw [bE];exact aX.cons aH aL)
 ·exact ad ρ B aJ w args' hw (by rw [bE];exact aX.cons aH aL)
theorem af.tL {P:Program} {f:FuncId} {rest:List V} {h:I} {R:V→I→Prop} (h1:af P f (.ag::rest) h R) (ad:af P f (.e6::rest) h R):af P f (.ah 0 []::rest) h R:=bV.tL h1 ad
theorem aA.kI (h:I):aA .ag h (.ah 0 []) h:=fun ρ B aJ w c0 hw aH=>⟨ρ,Ren.le.refl ρ,hw,by cases aH;exact .gg none 0 fun _=>rfl⟩
theorem aA.e6 (h:I):aA .e6 h (.ah 0 []) h:=fun ρ B aJ w c0 hw aH=>⟨ρ,Ren.le.refl ρ,hw,by cases aH;exact .gg _ _ fun e=>by cases e⟩
section
variable {P:Program} {t:TypeId} {xo yo:Operand}
theorem Sd (h:ef P t=some 1):cH P .eql t xo yo .e6 .ag=some (.bool false):=H6 h (.inl rfl) (.inr ⟨rfl,rfl⟩)
theorem Se {n:Nat} {cs:List V} (h:ef P t=some 1) (aG:n≠0):cH P .eql t xo yo (.ah n cs) .ag=some (.bool false):=H6 h (.inl rfl) (.inr ⟨by simp [Dk,aG],rfl⟩)
theorem alb (h:ef P t=some 1):ey P (Op.equal t (.slice none 0 0) (.slice none 0 0))=some true:=by
 obtain ⟨d,hu,bf⟩:=BI h;unfold Op.equal Op.maxDepth Op.equalIn;rw [ni,Dy hu];cases d<;>simp [vy] at bf;rfl
theorem I0 (h:ef P t=some 1):cH P .eql t xo yo .ag .ag=some (.bool true):=by
 refine MZ (v:=.bool true) rfl rfl rfl ?_;show ey P (do pure (Value.bool (←Op.equal t (.slice none 0 0) (.slice none 0 0))))=_;rw [ni,alb h];rfl
theorem Sf {h:I} {sz:Nat} (hk:ef P t=some 1):fI P sz t .e6 h=some (0,[]):=by
 obtain ⟨d,bf,eJ⟩:∃ d,P.underlying t=some d∧vy d=some 1:=by
  unfold ef at hk;cases hu:P.underlying t with
  | none=>rw [hu] at hk;cases hk
  | some d=>rw [hu] at hk;exact ⟨d,rfl,hk⟩
 cases d<;>simp [vy] at eJ;simp only [fI,bf]
end
theorem iN.ofInt {P:Program} {t c4 h3:TypeId} {kk:IntKind} (hm:eL P t=some (c4,h3,.int kk)):iN P c4 (.int kk) (V.int kk) where
 eq a b:=by rw [WH rfl];rfl
 ok b a:=RE (xt hm).2 rfl
 bits a:=⟨_,rfl,by simp [Instr.sameBits]⟩
section
variable {M:Nat→Prop} {bz:Operand→V} {t:TypeId} {m k:Operand} {b:Bool}
theorem I1:l9 M (pW bz (.lookup t m k b))=vK M (bz m):=rfl
end
theorem aA.iz {h h1:I} {e:TypeId} {sz i len cap:Nat} {cs es:List V} {I2:Nat→Prop} (aN:Own h e sz (.bj i 0 len cap) cs) (cI:aq cs h es h1) (hv:J h h1 I2) (bI:¬I2 i) (hle:es.length=cs.length) :
  ∃ ad,aA (.bj i 0 len cap) h (.ah len es) ad∧J h1 ad (·=i):=by
 rcases aN with ⟨q | q,_⟩ | ⟨Dl,alc,ald,c,ex,q,hi,az,hlen,bY,dp⟩
 ·cases q
 ·cases q
 simp only [V.bj.injEq] at q;obtain ⟨rfl,_,rfl,rfl⟩:=q;have jl:h1.get i=.cells c e ex:=(hv.get i hi bI).trans az;have kt:len * sz≤c.length:=by
  have:=congrArg avu bY;rw [VV,hlen] at this;omega
 refine ⟨h1.set i .dead,fun ρ B aJ w c0 hw aH=>?_,J.set h1 i .dead⟩;obtain ⟨ρ0,_,XI,b,bA,arr,aL,av,ay,aw⟩:=hw.freeze az;have I3:aX ρ cs (arr.toList.take (len * sz)):=by
  have l8:=aw.1;refine ⟨by rw [←bY];simp only [VV] at l8⊢;omega,fun k v v' h1 ad=>?_⟩
  have hk:k<len * sz:=by rw [←hlen];exact (VX.1 h1).1
  rw [←bY,avg,if_pos hk] at h1;rw [avg,if_pos hk] at ad;refine aw.2 k v v' h1 ?_;rw [avg,if_pos (by omega)]
  exact ad
 obtain ⟨ρ1,zF,gX,h5⟩:=cI ρ B aJ w _ hw I3;obtain ⟨ρ2,Px,iI,cN,rB,jz,gJ,b8,HP,fX⟩:=gX.freeze jl;have zw:=zF.ren _ _ aL;rw [zw] at gJ;simp only [Option.some.injEq,avp.injEq] at gJ;obtain ⟨rfl,rfl⟩:=gJ;obtain ⟨b7,ji,iL,ht,rfl⟩:=aH.gm;rw [aL] at iL;simp only [Option.some.injEq,avp.injEq] at iL;obtain ⟨rfl,rfl⟩:=iL;have kR:jz=arr:=by
  obtain ⟨aC,f1,cX⟩:=XI.heap.frz _ _ av;obtain ⟨bd,f2,dT⟩:=iI.heap.frz _ _ b8;rw [cX] at dT;simp only [Option.some.injEq,Obj.cells.injEq] at dT;exact dT.1.symm
 subst kR;refine ⟨ρ2,zF.trans Px,iI,.ah 0 len _ b8 ht (by rw [hle,hlen];omega) fun k v v' h1 ad=>?_⟩
 have hk:k<len * sz:=by rw [←hlen,←hle];exact (VX.1 h1).1
 refine (h5.2 k v v' h1 ?_).mono Px;rw [avg,if_pos hk,avF];simpa using ad
theorem aA.uG {h h1:I} {X:Nat} {c bt:List V} {e:TypeId} {ex:Option Nat} (az:h.get X=.cells c e ex) (cI:aq c h bt h1) (jl:h1.get X=.cells c e ex) (hle:bt.length=c.length) (r:V) :
  aA r h r (h1.set X (.cells bt e ex)):=fun ρ B aJ w c0 hw aH=>by
 have aN:=hw.heap.obj X;rw [az] at aN;obtain ⟨b,bA,arr,aL,av,cr,xW,ay,aw,aj⟩:=aN;obtain ⟨ρ1,zF,gX,h5⟩:=cI ρ B aJ w _ hw aw;have l4:=gX.heap.obj X;rw [jl] at l4;obtain ⟨dK,Wk,Dq,zw,xP,XJ,Py,wB,ht,ln⟩:=l4;have aC:=zF.ren _ _ aL;rw [zw] at aC;simp only [Option.some.injEq,avp.injEq] at aC;obtain ⟨rfl,rfl⟩:=aC;rw [Py] at xW;simp only [Option.some.injEq,Obj.cells.injEq] at xW;obtain ⟨rfl,-,-⟩:=xW;have XK:∀ j,j≠X→(h1.set X (.cells bt e ex)).get j=h1.get j:=fun j aV=>by simp [I.set,aV]
 have ale:(h1.set X (.cells bt e ex)).get X=.cells bt e ex:=by simp [I.set]
 have live:∀ j,(h1.set X (.cells bt e ex)).get j≠.dead→h1.get j≠.dead:=fun j aV=>by
  by_cases Pz:j=X
  ·subst Pz;rw [jl];intro q;cases q
  ·rwa [XK j Pz] at aV
 refine ⟨ρ1,zF,⟨⟨gX.heap.lh,fun i j b c uj hi aV ad aD=>gX.heap.inj i j b c uj (live i hi) (live j aV) ad aD,fun j=>?_,gX.heap.frz,gX.heap.glob,gX.heap.base⟩,gX.below⟩,aH.mono zF⟩;by_cases aV:j=X
 ·subst aV;rw [ale];rw [←hle] at h5;exact ⟨_,_,_,zw,xP,XJ,Py,by rw [hle];exact wB,h5,by rw [hle];exact ln⟩
 ·rw [XK j aV];exact gX.heap.obj j
theorem Pure.uG {P:Program} {f:FuncId} {args:List V} {h h1:I} {v:V} (aU:Pure P f args h v) {X:Nat} {c bt:List V} {e:TypeId} {ex:Option Nat} (az:h.get X=.cells c e ex) (cI:aq c h bt h1) (jl:h1.get X=.cells c e ex) (hle:bt.length=c.length) :
  af P f args h (fun r h'=>r=v∧h'=h1.set X (.cells bt e ex)) :=
 af.cast (aU.mono fun r h' ⟨aC,bd⟩=>⟨v,_,by subst aC;subst bd;exact aA.uG az cI jl hle _,rfl,rfl⟩)
section
variable {P:Program} {h:I} {s:TypeId}
end
section
variable {P:Program} {d:Option Tmp} {ty:TypeId} {pos:String} {cp:Array Edge} {g:Option (Nat×Bool)} {f:ak} {h:I} [K:e7] {x y:Operand}
end
section
variable {P:Program} {ty:TypeId}
theorem a7.complex (k:FloatKind) (a b:Nat):a7 (.complex k a b):=a7.flat rfl
end
section
variable {P:Program} {t c4 h3:TypeId} {d:TypeDesc} {κ:Type} [DecidableEq κ] {ke:κ→V} {α:Type} {enc:α→V}
end
def mu (P:Program) (n l:Nat) (c:Code) (Q:cw→ak→I→Prop) (f:ak) (h:I):Prop :=
 ∀ (ρ:Ren) (B:Nat) (aJ:World) (a:Act) (w:World),aR ρ B aJ h w→eg ρ n f a→c.wpIn (Fence.wide.inRound l) 0 P (lq n B aJ ρ Q) a w
section
variable {P:Program} {n l:Nat} {Q:cw→ak→I→Prop} {f:ak} {h:I}
theorem mu.mono {Am:cw→ak→I→Prop} {c:Code} (aa:mu P n l c Q f h) (ab:∀ e f h,Q e f h→Am e f h):mu P n l c Am f h :=
 fun ρ B aJ a w hw av=>wpIn_mono (aa ρ B aJ a w hw av) fun _ _ _ ⟨ρ',x,bO,h',aj,bX,b8,aw,dz⟩=>⟨ρ',x,bO,h',aj,bX,b8,aw,ab _ _ _ dz⟩
theorem mu.region {id:Nat} {ops:Array Oper} (aY:ops.toList.all (fun o=>sQ n o.dst)=true)
  (ab:mn P ops.toList ops.toList (Q .normal) (Q .panic) f h):mu P n l (.region id ops false) Q f h:=by
 intro ρ B aJ a w hw av;refine wpIn_region ?_;have:=MV (te.inRound l) (rm:=0) (P:=P) aY (ρ0:=ρ) ops.toList 0 (by simp) ρ f h a w (Ren.le.refl ρ) hw av ab
 rwa [av3,←List.range_eq_range'] at this
theorem mu.block {id:Nat} {c:Code} (aa:mu P n l c (Gm id Q) f h):mu P n l (.block id c) Q f h:=by
 intro ρ B aJ a w hw av;refine wpIn_block (wpIn_mono (aa ρ B aJ a w hw av) fun e ig w' ⟨ρ',x,bO,h',aj,bX,b8,aw,dz⟩=>?_);cases x<;>cases e<;>simp only [ql] at aj
 ·exact ⟨ρ',.normal,bO,h',trivial,bX,b8,aw,dz⟩
 ·subst aj;simp only [Gm] at dz;simp only [Exit.inBlock];split
  ·rename_i he;simp only [he,if_true] at dz;exact ⟨ρ',.normal,bO,h',trivial,bX,b8,aw,dz⟩
  ·rename_i he;simp only [he,if_false] at dz;exact ⟨ρ',.exit _,bO,h',rfl,bX,b8,aw,dz⟩
 ·exact ⟨ρ',.goto _,bO,h',aj,bX,b8,aw,dz⟩
 ·exact ⟨ρ',.ret,bO,h',trivial,bX,b8,aw,dz⟩
 ·exact ⟨ρ',.panic,bO,h',aj,bX,b8,aw,dz⟩
end
theorem alf {ρ:Ren} {n:Nat} {f:ak} {a:Act} (av:eg ρ n f a):aX ρ ((VT n).map f) a.tmps.toList:=by
 refine ⟨by simp [av.size],fun k v v' h1 ad=>?_⟩
 have hk:k<n:=by have:=(VX.1 h1).1;simpa using this
 have bE:=av.tmps k;simp only [aw9,List.getElem?_range hk,avI,Option.some.injEq] at h1;have uz:a.tmps[k]?=some v':=by simpa using ad
 rw [axJ,uz] at bE;subst h1;exact bE
theorem alg {ρ:Ren} {n:Nat} {f:ak} {arr:List Value} (aw:aX ρ ((VT n).map f) arr) (bf:ρ.dfr=[]):eg ρ n (fun t=>if t<n then f t else .top) { tmps:=arr.toArray,defers:=[] }:=by
 have aa:arr.length=n:=by have:=aw.1;simpa using this.symm
 refine ⟨fun t=>?_,by simpa using aa,bf.symm⟩
 simp only;split
 ·rename_i bE;obtain ⟨v',h1,ad⟩:=aw.get (k:=t) (v:=f t) (by simp [bE])
  have:(arr.toArray).getD t undef=v':=by rw [axJ];simp [h1]
  rw [this];exact ad
 ·exact .top _
theorem aR.r1 {ρ:Ren} {B:Nat} {aJ:World} {h:I} {w:World} (R:aR ρ B aJ h w) {i l:Nat} {mk:List Value→Obj} {vs:List V} (az:h.get i=.jx l mk vs) :
  ∃ arr,w.heap[l]?=some (mk arr)∧aX ρ vs arr∧∀ mk',aR ρ B aJ (h.set i (.jx l mk' vs)) (w.putObj l (mk' arr)):=by
 have aN:=R.heap.obj i;rw [az] at aN;obtain ⟨bA,arr,aL,av,cr,hw,aw⟩:=aN;have aM:=(avl.1 hw).1;refine ⟨arr,hw,aw,fun mk'=>R.qh aL (by rw [az];simp) (fun k hk=>World.putObj_heap_other hk) (by simp) ⟨rfl,rfl,rfl,by simp,fun k hk=>World.putObj_heap_other (by omega),BY _⟩ ?_⟩
 exact ⟨bA,arr,aL,av,cr,World.putObj_heap_same aM,aw⟩
theorem aR.BX {ρ:Ren} {B:Nat} {aJ:World} {h:I} {w:World} (R:aR ρ B aJ h w) (mk:List Value→Obj) {vs:List V} {arr:List Value} (aw:aX ρ vs arr) :
  ∃ ρ',ρ.le ρ'∧aR ρ' B aJ (h.push (.jx w.heap.size mk vs)) (w.alloc (mk arr)):=by
 have hle:=Ren.rA (R.heap.lh _ (BY _)) w.heap.size 0;have Bp:ρ.frz w.heap.size=none:=by
  cases av:ρ.frz w.heap.size with
  | none=>rfl
  | some a=>
   obtain ⟨e,ho,hw⟩:=R.heap.frz _ _ av;have:=(avl.1 hw).1;omega
 have hold:∀ k,k<w.heap.size→(w.alloc (mk arr)).heap[k]?=w.heap[k]?:=fun k hk=>Below.heap_alloc _ _ _ hk;obtain ⟨h1,ad⟩:=R.Aa (w':=w.alloc (mk arr)) (o:=.jx w.heap.size mk vs) 0 (by simp) hold ((hn.refl _ _).alloc R.heap.base _) ⟨0,arr,Ren.ml,Bp,R.heap.base,World.alloc_heap_new _ _,aw.mono hle⟩
 exact ⟨_,h1,ad⟩
def vM (fn:FuncId) (p:Tmp) (assign body:Code) (D:Nat) (st:LoopState):List Value→Obj:=fun arr=>.loop { state:=st,pending:=none,fn,tmps:=arr.toArray,params:=#[p],assign,body,defers:=D }
def Sg (n:Nat) (f:ak) (p:Tmp) (v:V):ak:=ak.put (fun t=>if t<n then f t else .top) (some p) v
theorem ku.of {P:Program} {n l i:Nat} {fn:FuncId} {p:Tmp} {assign body:Code} {D:Nat} {f:ak} {v:V} {h:I} {R:V→I→Prop} (aU:p<n)
  (az:h.get i=.jx l (vM fn p assign body D .ready) ((VT n).map f)) (M:ak→I→Prop)
  (aP:mu P n l assign (fun z bO h'=>z=.normal∧h'.get i=.jx l (vM fn p assign body D .ready) ((VT n).map f)∧M bO h') (Sg n f p v) h)
  (al:∀ bO h',M bO h'→mu P n l body (fun z _ ad=>z=.normal∧ad.get i=.jx l (vM fn p assign body D .busy) ((VT n).map f)∧R (.bool true) (ad.set i (.jx l (vM fn p assign body D .ready) ((VT n).map f)))) bO (h'.set i (.jx l (vM fn p assign body D .busy) ((VT n).map f)))) :
  ku P l [v] h R:=by
 intro ρ B aJ w args' hw oj;obtain ⟨arr,gH,xn,_⟩:=hw.r1 az;obtain ⟨v',iW,he,aH,bE⟩:=oj.dB;obtain rfl:=bE.eq_nil;have nU:args'=#[v']:=by apply Array.ext';simpa using he
 subst nU;have bp:=run_yield (P:=P) (args:=#[v']) gH rfl;refine ⟨fn,_,assign,body,bp,roundIn_of_wpIn trivial ?_⟩;have jF:eg { ρ with dfr:=[] } n (Sg n f p v) { tmps:=((#[p].zip #[v']).foldl (fun tmps (t,a)=>tmps.setIfInBounds t a) arr.toArray),defers:=[] }:=by
  have:=(alg (ρ:={ ρ with dfr:=[] }) (xn.dfr []) rfl).put (aH.dfr []) (some p) (by simp [sQ,aU])
  simpa [Act.put,Sg] using this
 refine wpIn_mono (aP { ρ with dfr:=[] } B aJ _ w (hw.dfr []) jF) fun e cb cV ⟨ρ1,x,f1,h1,aj,gX,xP,h5,dz⟩=>?_;obtain ⟨rfl,jl,kf⟩:=dz;cases e<;>simp only [ql] at aj;obtain ⟨Dq,XL,alh,dV⟩:=gX.r1 jl;refine ⟨_,run_beginRound XL rfl,?_⟩;have iI:=dV (vM fn p assign body D .busy);refine wpIn_mono (al f1 h1 kf ρ1 B aJ cb _ iI xP) fun e a3 j7 ⟨ρ3,x,f3,aD,aj,zC,uD,mP,dz⟩=>?_;obtain ⟨rfl,XM,eC⟩:=dz;cases e<;>simp only [ql] at aj;obtain ⟨ali,XN,alj,NA⟩:=zC.r1 XM;refine ⟨_,_,run_endRound none XN,?_⟩;have ti:=NA (vM fn p assign body D .ready);have I4:=h5.trans mP;exact ⟨{ ρ3 with dfr:=ρ.dfr },.bool true,.bool true,_,rfl,.bool _,ti.dfr ρ.dfr,⟨I4.ren,I4.frz,rfl⟩,eC⟩
theorem af.iK {P:Program} {bG gf:FuncId} {fn:Func} {A A2 assign body:Code} {id:Nat} {g p:Tmp} (mN:P.funcs[bG]?=some fn)
  (al:fn.body=some (.seq A (.seq A2 (.block id (.rangeFunc (.tmp g) #[p] assign body))))) (hI:bT P gf=true) {args:List V} (hlen:args.length≤fn.ntmps) {h:I} {R:V→I→Prop} {K:ak→I→Prop} {caps:ak→List V}
  (h1:aZ P fn.ntmps A (fun z f h=>z=.normal∧aZ P fn.ntmps A2 (fun z f h=>z=.normal∧K f h) f h) (iK args) h)
  (az:∀ f h,K f h→f g=.func (.func gf) [] (caps f))
  (eX:∀ f h1,K f h1→∀ (l D:Nat) (q:FuncId) (ad:I),ad=(h1.push (.jx D (fun _=>.deferred (some [])) [])).push (.jx l (vM q p assign body D .ready) ((VT fn.ntmps).map f)) →
   af P gf (.func (.yield l) [] []::caps f) ad (fun _ aD=>aD.get (h1.n+1)=.jx l (vM q p assign body D .ready) ((VT fn.ntmps).map f)∧aD.get h1.n=.jx D (fun _=>.deferred (some [])) [] ∧
    (∃ r,qn P fn.results.toList f ((aD.set (h1.n+1) .dead).set h1.n .dead)=some r∧R r ((aD.set (h1.n+1) .dead).set h1.n .dead)))):af P bG args h R:=by
 intro ρ B aJ w args' hw aP;refine callsIn_wide.1 (callsIn_of_wp_marks (n:=0) mN al trivial ?_);apply wpIn_seq;refine wpIn_mono (wpIn_wide.2 (h1 { ρ with dfr:=[] } B aJ _ w (hw.dfr []) (Ru (aP.dfr []) hlen rfl))) ?_
 rintro e cb cV ⟨ρ1,z,f1,Xk,aj,gX,xP,h5,rfl,ad⟩
 cases e<;>simp only [ql] at aj;show (Code.seq A2 _).wpIn Fence.wide 0 P _ cb cV;apply wpIn_seq;refine wpIn_mono (wpIn_wide.2 (ad ρ1 B aJ cb cV gX xP)) ?_
 rintro e a2 bS ⟨ρ2,z,f2,eR,aj,iI,h4,ht,rfl,cq⟩
 cases e<;>simp only [ql] at aj;show (Code.block id _).wpIn Fence.wide 0 P _ a2 bS;apply wpIn_block;have Sh:=h5.trans ht;have kz:a2.defers=[]:=(h4.defers.trans ht.dfr).trans h5.dfr;refine wpIn_rangeFunc ?_;intro q ab;obtain ⟨ρ3,mP,zC⟩:=iI.BX (fun _=>.deferred (some [])) (aX.nil ρ2);have lj:aX ρ3 ((VT fn.ntmps).map f2) a2.tmps.toList:=(alf h4).mono mP;obtain ⟨ρ4,oh,ti⟩:=zC.BX (vM q p assign body bS.heap.size .ready) lj;have bo:(bS.alloc (Obj.deferred (some []))).heap.size=bS.heap.size+1:=by simp
 rw [bo] at ti;have cI:=eX f2 eR cq (bS.heap.size+1) bS.heap.size q _ rfl;have I5:=h4.tmps g;rw [az f2 eR cq] at I5;obtain ⟨sN,NB,Si⟩:∃ sN:Array Value,aX ρ4 (caps f2) sN.toList∧a2.eval (.tmp g)=.func (.func gf) #[] sN:=by
  have he:a2.eval (.tmp g)=a2.tmps.getD g undef:=rfl;rw [he];generalize a2.tmps.getD g undef=x at I5;cases I5 with
  | func at4 lp fs aj bp=>
   rename_i eV xf;have:eV=#[]:=awK lp.symm;subst this;exact ⟨xf,((dQ.list ⟨fs,bp⟩).mono mP).mono oh,rfl⟩
 have nU:aX ρ4 (.func (.yield (bS.heap.size+1)) [] []::caps f2) (#[Value.func (.yield (bS.heap.size+1)) #[] #[]]++sN).toList:=by
  have aK:aB ρ4 (.func (.yield (bS.heap.size+1)) [] []) (.func (.yield (bS.heap.size+1)) #[] #[]):=.func _ rfl rfl (by simp) (by simp)
  simpa using aX.cons aK NB
 have cE:=run_enterLoop_outer (P:=P) (w:=bS) q a2.tmps #[p] assign body;have XO:vM q p assign body bS.heap.size .ready a2.tmps.toList=.loop { state:=.ready,pending:=none,fn:=q,tmps:=a2.tmps,params:=#[p],assign,body,defers:=bS.heap.size }:=by simp [vM]
 rw [XO] at ti;obtain ⟨W,xW⟩:∃ W,W=(bS.alloc (.deferred (some []))).alloc (.loop { state:=.ready,pending:=none,fn:=q,tmps:=a2.tmps,params:=#[p],assign,body,defers:=bS.heap.size }):=⟨_,rfl⟩;rw [←xW] at ti cE;obtain ⟨wF, Sj, PA⟩ : ∃ wF, P.funcs[gf]? = some wF ∧ (wF.body.isSome && wF.name != "runtime.NumGoroutine") = true := by
  unfold bT at hI;split at hI
  ·rename_i wF BZ;exact ⟨wF,BZ,hI⟩
  ·cases hI
 simp only [VW,bne_iff_ne,ne_eq] at PA;have uk:wF.body.isNone=false:=by cases al:wF.body<;>simp_all
 refine ⟨bS.heap.size+1,[{ target:=.collected bS.heap.size,args:=#[] }],W,{ target:=.fn (.func gf) sN,args:=#[.func (.yield (bS.heap.size+1)) #[] #[]] },W,gf,
  #[.func (.yield (bS.heap.size+1)) #[] #[]]++sN,W,cE,?_,?_,?_,(fun U=>by cases U),?_⟩
 ·simp only [resolve,Si];simp [go_sem]
 ·intro bO b8;trivial
 ·simp only [invoke,callFunc];simp [Sj,PA.2];intro U;simp [U] at uk
 ·refine callsIn_wide.2 ((cI ρ4 B aJ _ _ ti nU).mono fun e rj U=>?_);rcases U with ⟨ρ5,r,c0,bN,rfl,at5,q2,PB,r2,PC,alk,XP,eC⟩ | ⟨_,_,_,_,_,_,_,bL⟩
  case inr=>exact bL.elim
  obtain ⟨xX,PD,_,_⟩:=q2.r1 r2;have B0:=(q2.kill (eR.n+1));have PE:=q2.heap.obj eR.n;rw [PC] at PE;obtain ⟨at6,alm,at7,aua,aub,XQ,_⟩:=PE;have I6:=q2.heap.obj (eR.n+1);rw [r2] at I6;obtain ⟨XR,aln,E6,Sk,XS,B1,_⟩:=I6;have Sl:=(avl.1 PD).1;refine ⟨none,_,run_endLoop PD (by simp [vM]),?_⟩
  have bI:bS.heap.size≠bS.heap.size+1:=by omega
  have Sm:(rj.putObj (bS.heap.size+1) (.loop { state:=.exhausted,pending:=none,fn:=q,tmps:=xX.toArray,params:=#[p],assign,body,defers:=bS.heap.size })).heap[bS.heap.size]?=some (.deferred (some [])):=(World.putObj_heap_other bI).trans XQ;have PF:aR ρ5 B aJ ((bN.set (eR.n+1) .dead).set eR.n .dead) ((rj.putObj (bS.heap.size+1) (.loop { state:=.exhausted,pending:=none,fn:=q,tmps:=xX.toArray,params:=#[p],assign,body,defers:=bS.heap.size })).putObj bS.heap.size (.deferred none)):=by
   have s1:=q2.qh (o:=.jx (bS.heap.size+1) (fun _=>.loop { state:=.exhausted,pending:=none,fn:=q,tmps:=xX.toArray,params:=#[p],assign,body,defers:=bS.heap.size }) []) E6 (by rw [r2];simp) (w':=rj.putObj (bS.heap.size+1) (.loop { state:=.exhausted,pending:=none,fn:=q,tmps:=xX.toArray,params:=#[p],assign,body,defers:=bS.heap.size })) (fun k hk=>World.putObj_heap_other hk) (by simp)
    ⟨rfl,rfl,rfl,by simp,fun k hk=>World.putObj_heap_other (by omega),BY _⟩ ⟨XR,[],E6,Sk,XS,World.putObj_heap_same Sl,aX.nil _⟩
   have Sn:(bN.set (eR.n+1) (.jx (bS.heap.size+1) (fun _=>.loop { state:=.exhausted,pending:=none,fn:=q,tmps:=xX.toArray,params:=#[p],assign,body,defers:=bS.heap.size }) [])).get eR.n=.jx bS.heap.size (fun _=>.deferred (some [])) []:=by
    show (if eR.n=eR.n+1 then _ else bN.get eR.n)=_
    rw [if_neg (by omega),PC]
   obtain ⟨alo,_,_,NC⟩:=s1.r1 Sn;have s2:=NC fun _=>.deferred none;have pY:=(s2.kill (eR.n+1)).kill eR.n;have alp:∀ x y,((((bN.set (eR.n+1) x).set eR.n y).set (eR.n+1) .dead).set eR.n .dead)=(bN.set (eR.n+1) .dead).set eR.n .dead:=fun x y=>by
    simp only [I.set]
    congr 1
    funext j
    by_cases h1:j=eR.n
    ·simp [h1]
    ·by_cases ad:j=eR.n+1
     ·simp [ad]
     ·simp [h1,ad]
   rw [alp] at pY;exact pY
  show LeavesInM _ _ P fn a2.tmps _ ([{ target:=.collected bS.heap.size,args:=#[] }]++a2.defers) .returning _;rw [kz];refine ⟨by simp,.inl ⟨bS.heap.size,_,rfl,run_takeDeferred Sm,?_⟩⟩
  show ∃ v,(results fn a2.tmps).run P _=.ok v _∧_;have I7:Ren.le { ρ with dfr:=[] } ρ5:=((Sh.trans mP).trans oh).trans PB;have XT:eg ρ5 fn.ntmps f2 a2:=h4.mono ((mP.trans oh).trans PB);obtain ⟨XU,cX,dT⟩:=Rt PF XT XP;exact ⟨XU,cX,.inl ⟨{ ρ5 with dfr:=ρ.dfr },alk,XU,_,rfl,dT.dfr ρ.dfr,PF.dfr ρ.dfr,⟨I7.ren,I7.frz,rfl⟩,eC⟩⟩
section
variable {P:Program}
end
def I8:=PLift.up (AT (AT (AT (AT (AT (AT (AT (AT @agI @agJ) (AT @agK @agN)) (AT (AT @agO @agP) (AT @agQ @agR))) (AT (AT (AT @agS @agT) (AT @agU @agL)) (AT (AT @agM @agV) @agW))) (AT (AT (AT (AT @agX @agY) (AT @agZ @ag0)) (AT (AT @Fd @ag1) (AT @ag2 @ag3))) (AT (AT (AT @Wo @ag8) (AT @ag9 @aha)) (AT (AT @ahb @ahc) @ag4)))) (AT (AT (AT (AT (AT @ag5 @ag6) (AT @ag7 @ahg)) (AT (AT @ahh @ahi) (AT @ahj @ahk))) (AT (AT (AT @ahl @ahm) (AT @ahn @aho)) (AT (AT @ahp @ahq) @aht))) (AT (AT (AT (AT @ahu @ahv) (AT @ahw @ahx)) (AT (AT @ahy @ahA) @ahB)) (AT (AT (AT @ahC @ahE) (AT @ahF @ahG)) (AT (AT @ahH @ahI) @ahJ))))) (AT (AT (AT (AT (AT (AT @ahK @ahL) (AT @ahM @ahN)) (AT (AT @ahO @ahP) (AT @ahQ @ahT))) (AT (AT (AT @ahV @ahW) (AT @ahY @ahZ)) (AT (AT @ah0 @ah1) @ah2))) (AT (AT (AT (AT @ah3 @ah4) (AT @ah5 @ah6)) (AT (AT @ah9 @aia) @aib)) (AT (AT (AT @ahX @ahU) (AT @ahd @ahD)) (AT (AT @ahe @ahf) @ahr)))) (AT (AT (AT (AT (AT @ahs @ahz) (AT @ahR @ahS)) (AT (AT @aih @eval_const) (AT @eval_func @aie))) (AT (AT (AT @aif @aii) (AT @aij @ais)) (AT (AT @ait @aiu) @aiv))) (AT (AT (AT (AT @aiw @aix) (AT @aiy @aiz)) (AT (AT @aiA @aiB) @aiC)) (AT (AT (AT @aiD @aiE) (AT @aiF @aiG)) (AT (AT @aiJ @mq) @ah7)))))) (AT (AT (AT (AT (AT (AT (AT @ah8 @Wr) (AT @Ws @aik)) (AT (AT @ail @aim) (AT @ain @aio))) (AT (AT (AT @aip @aiq) (AT @air @aiL)) (AT (AT @aiM @aiN) @aiO))) (AT (AT (AT (AT @aiP @aiQ) (AT @aiR @AC)) (AT (AT @aiS @M1) @aiT)) (AT (AT (AT @aiU @aiV) (AT @aiW @aiX)) (AT (AT @all_nil @all_cons) @aiY)))) (AT (AT (AT (AT (AT @aiZ @ai0) (AT @Wt @ai1)) (AT (AT @Wu @ai2) (AT @ai3 @H7))) (AT (AT (AT @ai4 @ai5) (AT @sR @ai8)) (AT (AT @ai9 @aja) @ajb))) (AT (AT (AT (AT @Gr @y4) (AT @ajc @y0)) (AT (AT @Ww @xC) @y1)) (AT (AT (AT @ajK @ajO) (AT @ajQ @ajR)) (AT (AT @ajS @ajT) @ajU))))) (AT (AT (AT (AT (AT (AT @un @ajP) (AT @dq @lW)) (AT (AT @ck @aT) (AT @set_set @set_push))) (AT (AT (AT @y5 @xD) (AT @ajH @ajI)) (AT (AT @akC @akD) @akE))) (AT (AT (AT (AT @akF @akG) (AT @akH @akI)) (AT (AT @akJ @List.getElem?_cons_zero.{0}) @axH.{0})) (AT (AT (AT @bne_self_eq_false.{0} @beq_self_eq_true.{0}) (AT @Option.some.injEq.{0} @avO)) (AT (AT @decide_true @decide_false) @au9.{0,0})))) (AT (AT (AT (AT (AT @List.map_nil.{0,0} @avI.{0,0}) (AT @Option.map_none.{0,0} @Nat.add_zero)) (AT (AT @avm @Dc) (AT @ave.{0} @List.length_nil.{0}))) (AT (AT (AT @avW.{0} @List.drop_succ_cons.{0}) (AT @List.take_succ_cons.{0} @List.take_zero.{0})) (AT (AT @List.take_nil.{0} @List.set_cons_zero.{0}) @List.set_cons_succ.{0}))) (AT (AT (AT (AT @List.nil_append.{0} @avq.{0}) (AT @List.cons_append.{0} @and_true)) (AT (AT @true_and @and_self) @if_true.{1})) (AT (AT (AT @if_false.{1} @Bool.and_true) (AT @Bool.true_and @Bool.and_self)) (AT (AT @Bool.not_true @Bool.not_false) @BY)))))))
theorem ae:type_of% I8.down:=I8.down
def I9:=PLift.up (AT (AT (AT (AT (AT (AT @false_implies @akk) @akl) (AT @akm @akn)) (AT (AT (AT @ako @akp) @akq) (AT @akr @aki))) (AT (AT (AT (AT @aks @akt) @aku) (AT @akv @implies_true.{0})) (AT (AT (AT @ajk @ajl) @ajm) (AT @ajn @ajo)))) (AT (AT (AT (AT (AT @ajp @ajq) @ajr) (AT @ajs @ajt)) (AT (AT (AT @Nm @No) @aju) (AT @ajv @ajw))) (AT (AT (AT (AT @ajx @ajy) @ajz) (AT @ajA @ajB)) (AT (AT (AT @ajC @ajD) @ajE) (AT @ajF @PP)))))
theorem bM:type_of% I9.down:=I9.down
def Ja:=PLift.up (AT (AT (AT (AT (AT @akL @akP) @akQ) (AT (AT @akR @akS) @akT)) (AT (AT (AT @akU @akV) @akW) (AT @akX @akY))) (AT (AT (AT (AT @akZ @ak0) @ak1) (AT (AT @ak2 @R4) @R5)) (AT (AT (AT @R6 @akM) @akN) (AT @akO @not_false_eq_true))))
theorem eH:type_of% Ja.down:=Ja.down
end Go.Proofs.YtemdgidnhgcafaaGreatDoor.Ab
