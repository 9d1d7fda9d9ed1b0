/-
  The law TaskOffs returns true for all arguments: what entries commit tells of just the offsets of the task, and of the inputs in their order.
  Conditions: none besides those of the given row.
-/
import Derived.Test.YtemdgidnhgcafaaGreatDoorRows
import Derived.WalkKit
import Derived.ProofKit
import Derived.OpenShut
import Derived.ShutString
import Derived.ChangeOld
import Derived.Below
import Derived.SizedLaws
import Derived.Test.YtemdgidnhgcafaaGreatDoorNl
import Derived.JoinedOf
import Derived.LaidLaws
import Derived.Test.YtemdgidnhgcafaaGreatDoorCards
import Derived.Test.YtemdgidnhgcafaaGreatDoorTie
namespace Go.Proofs.YtemdgidnhgcafaaGreatDoor.taskOffs
open Go.ChangeShapes Go.WideShapes Go.ChangeAt Go.RowKit
open Go.ChangeMaps (open_string shut_string)
set_option linter.unusedVariables false
set_option linter.unusedSimpArgs false
theorem own:ownKnob Tryz.prog.godebug=none:=by kernel_rfl
theorem laidOut:laidOutB Tryz.prog=true:=by kernel_rfl
theorem walk (a0:Array Value) (fk:List Ab.V) (bZ:Int) (a2:Option Addr) (zK se:Nat) (bc:List (List Ab.V)) (a3:Option Addr) (Dx Dy:Nat) (cW:List (List Ab.V)) (w:World) (cr:Ab.La Pk.x3 w) (aV:Ab.ix.hJ Pk.L3 (.cat (.bg (.cat (.int .i64) (.cat (.bg (.int .i64)) (.cat (.ext 3) (.cat (.int .i64) .unit))))) (.cat (.int .i64) .unit)) fk) (n9:Ab.aE (Ab.kl w) (.agg fk) (.agg a0)) (cE:(Lit.int .u8 bZ).wf=true) (bT:∀ x ∈ bc,Ab.j1.h7 (.cat (.int .i64) (.cat (.int .i64) (.cat (.int .i64) .unit))) x) (dB:Ab.aE (Ab.kl w) (.af bc.length bc.flatten) (.slice a2 zK se)) (dd:bc.length<2 ^ 47) (b8:bc.length * 24≤2 ^ 47) (iI:∀ x ∈ cW,Ab.j1.h7 (.int .u8) x) (jf:Ab.aE (Ab.kl w) (.af cW.length cW.flatten) (.slice a3 Dx Dy)) (n3:cW.length<2 ^ 47) :
  Calls Tryz.prog 4 #[.agg a0,.int .u8 bZ,.slice a2 zK se,.slice a3 Dx Dy] w fun e w'=>e=.returned (.bool true)∧Below w.heap.size w w':=by
 obtain ⟨l,p,aZ,_,rfl⟩:=Pk.axx aV
 obtain ⟨n,rfl,aB⟩:=Ab.wf_u8 cE
 obtain ⟨rs,h1,ad⟩:=Pk.aeK (fun _=>Pk.ats) bT
 obtain ⟨aq,rfl,ak⟩:=Pk.ajh iI
 rw [h1,ad] at dB
 rw [List.length_map,Pk.axq] at jf
 exact (Pk.axM l p aZ n aB rs (by omega) aq _ Pk.axr Pk.axs).Lb rfl cr (.cons n9 (.cons (.int _ _) (.cons dB (.cons jf (.nil _)))))
theorem axT {W:World} (h:laidMetH Tryz.prog Rows.taskOffsRow.laid W):laidMet Tryz.prog Rows.taskOffsRow.laid W:=h
theorem axU {W:World} (fF:laidMetH Tryz.prog Rows.taskOffsRow.laid W):Ab.La Pk.x3 W:=by
 have h:=axT fF
 exact Pk.axv h
noncomputable def ajy (os:Os):World :=
 { World.holding Tryz.prog os ⟨#[],#[],[]⟩ with
  heap:=((((World.holding Tryz.prog os ⟨#[],#[],[]⟩).heap.modify 2 (fun
   | .cells _ t frozen=>.cells (Pk.dR.map fun z=>Value.int .i64 z).toArray t frozen
   | o=>o)).modify 1 (fun
   | .cells _ t frozen=>.cells (Pk.AO.map fun z=>Value.int .i64 z).toArray t frozen
   | o=>o)).modify 0 (fun
   | .cells _ t frozen=>.cells (Pk.lb.map fun z=>Value.int .i64 z).toArray t frozen
   | o=>o)) }
theorem axV (os:Os) (args:Array Value):laidMetH Tryz.prog Rows.taskOffsRow.laid ((ajy os).forCall (fun _ _=>0) ⟨#[],args,[]⟩).memory :=
 (show laidMet Tryz.prog Rows.taskOffsRow.laid _ from laidMet_of_run' 8 (by kernel_rfl) (by kernel_rfl))
set_option maxRecDepth 100000 in
theorem lifted (os:Os) (started:os.Started) (H:Type) (enc:TypeId×Value→H) :
  ReturnsInHanded {} Tryz.checked os 4 .any (fun w args=>(Rows.taskOffsSpec.pre enc Tryz.prog Tryz.f4 Rows.taskOffsRow.domain false w args∧laidMetH Tryz.prog Rows.taskOffsRow.laid w)∧sizedMet enc Tryz.prog Tryz.f4 (OpenSpec.ofChange Rows.taskOffsSpec) false w args) (Rows.taskOffsSpec.post enc Tryz.prog Tryz.f4 false true false false):=by
 refine returnsInHanded_of_change_and (C:=Tryz.checked) (X:=fun w _=>laidMetH Tryz.prog Rows.taskOffsRow.laid w) (fun _ _ _ U h=>h.of_heap U) own started (by kernel_rfl) Tryz.func4
  (ChangeSpec.witness_at (enc:=enc) (C:=Tryz.checked) (os:=os) (X:=fun w _=>laidMetH Tryz.prog Rows.taskOffsRow.laid w) false (ajy os) #[.agg #[.slice none 0 0,.int .i64 0],.int .u8 0,.slice none 0 0,.slice none 0 0] 8 rfl (by kernel_rfl) (by kernel_rfl) (by kernel_rfl) (by kernel_rfl) (by kernel_rfl) (axV os _)) ?_
 intro W base args ds gs before Iz D9 axW bl fF _
 have cr:=axU fF
 have q7:∀ (j:Nat) t v,Tryz.f4.params[j]?=some t→args[j]?=some v→Value.okWide Tryz.prog W .any base t v:=Iz
 have ajz:=D9
 obtain ⟨p,q,TY,kM,rfl,om,yp⟩:=D9
 have lF:DataW.TrodAll enc Tryz.prog W 0 (fun _=>true) true Tryz.f4.params.toList args.toList ds p:=TY
 rw [Tryz.params4] at lF q7
 obtain ⟨v0,TB,d0,ayK,xy,Bg,qn,rfl,rfl,aG,n9⟩:=trodAll_cons lF
 obtain ⟨v1,ayL,d1,ayM,kC,cB,rfl,rfl,rfl,h1,cL⟩:=trodAll_cons n9
 obtain ⟨v2,ayN,d2,ayO,rC,de,rfl,rfl,rfl,ad,dB⟩:=trodAll_cons cL
 obtain ⟨v3,ayP,d3,ayQ,xS,fp,rfl,rfl,rfl,aC,jf⟩:=trodAll_cons dB
 obtain ⟨rfl,rfl,rfl⟩:=trodAll_nil jf
 obtain rfl:args=#[v0,v1,v2,v3]:=by cases args;simp_all
 obtain ⟨rfl,rfl⟩:=trodVars_none kM
 obtain ⟨a0,rfl,_⟩:=okWide_struct Tryz.underlying24 (q7 0 24 v0 rfl rfl)
 have eZ:=aG
 have ajA:∀ x ∈ xy,x.block<W.heap.size:=by obtain ⟨m,hm⟩:=eZ;exact DataW.trod_lt m _ _ _ hm
 obtain ⟨fk,aV,ajB⟩:=Ab.aoF (n:=6) (m:=6) (T0:=66) (s:=(.cat (.bg (.cat (.int .i64) (.cat (.bg (.int .i64)) (.cat (.ext 3) (.cat (.int .i64) .unit))))) (.cat (.int .i64) .unit))) (t:=24) Tryz.underlying66 (by kernel_rfl) (by kernel_rfl) Pk.aq1 (by kernel_rfl) (fun n aB=>by simpa using List.all_eq_true.1 bl n (DataW.weights_mem_each (j:=0) (t:=24) (by kernel_rfl) rfl n aB)) aG
 obtain ⟨bZ,rfl,rfl,rfl,cE⟩:=open_int Tryz.underlying5 (q7 1 5 v1 rfl rfl) h1
 obtain ⟨a2,zK,se,rfl⟩:=okWide_slice Tryz.underlying25 (q7 2 25 v2 rfl rfl)
 have k2:=ad
 have ajC:∀ x ∈ rC,x.block<W.heap.size:=by obtain ⟨m,hm⟩:=k2;exact DataW.trod_lt m _ _ _ hm
 obtain ⟨bc,bT,H2,dd⟩:=Ab.wl (n:=6) (s:=(.cat (.int .i64) (.cat (.int .i64) (.cat (.int .i64) .unit)))) Tryz.underlying25 (by kernel_rfl) ⟨by kernel_rfl,by decide,of_decide_eq_true (by kernel_rfl)⟩ (fun n aB=>by simpa using List.all_eq_true.1 bl n (DataW.weights_mem_each (j:=2) (t:=25) (by kernel_rfl) rfl n aB)) ad
 have b8:=Ab.aos (k:=24) Tryz.underlying25 (by kernel_rfl) (fun n aB=>by simpa using List.all_eq_true.1 bl n (DataW.weights_mem_each (j:=2) (t:=25) (by kernel_rfl) rfl n aB)) ad H2
 obtain ⟨a3,Dx,Dy,rfl⟩:=okWide_slice Tryz.underlying26 (q7 3 26 v3 rfl rfl)
 have k3:=aC
 have eT:∀ x ∈ xS,x.block<W.heap.size:=by obtain ⟨m,hm⟩:=k3;exact DataW.trod_lt m _ _ _ hm
 obtain ⟨cW,iI,ajD,n3⟩:=Ab.wl (n:=6) (s:=(.int .u8)) Tryz.underlying26 (by kernel_rfl) ⟨by kernel_rfl,by decide,of_decide_eq_true (by kernel_rfl)⟩ (fun n aB=>by simpa using List.all_eq_true.1 bl n (DataW.weights_mem_each (j:=3) (t:=26) (by kernel_rfl) rfl n aB)) aC
 clear TY Iz
 refine (walk a0 fk bZ a2 zK se bc a3 Dx Dy cW W cr aV ajB cE bT H2 dd b8 iI ajD n3).mono fun e azd ⟨he,IA⟩=>?_
 subst he
 exact ⟨_,rfl,_,_,_,[],_,[],ajz,trodAll_mk1 (shut_bool Tryz.underlying4 _),(trodAll_cons_mk (Below.trod laidOut (by kernel_rfl) (of_decide_eq_true (by kernel_rfl)) eZ IA ajA) (trodAll_cons_mk (shut_int Tryz.underlying5 cE) (trodAll_cons_mk (Below.trod laidOut (by kernel_rfl) (of_decide_eq_true (by kernel_rfl)) k2 IA ajC) (trodAll_cons_mk (Below.trod laidOut (by kernel_rfl) (of_decide_eq_true (by kernel_rfl)) k3 IA eT) trodAll_mk0)))),rfl,IA.frame _,fun h=>by cases h⟩
theorem mc {a b:Bool} (h:a=true) (k:b=true):(a&&b)=true:=by rw [h,k];rfl
set_option maxHeartbeats 200000000 in
theorem axX:joinedFacts Tryz.pinned.checked.prog 4 Tryz.f4 Rows.taskOffsSpec Rows.taskOffsRow=true:=by
 unfold joinedFacts
 refine mc (mc (mc (mc (mc (mc (mc (mc (mc (mc (mc (mc (mc (mc (mc (mc (mc (mc (mc (mc (mc (mc (mc (mc (mc (mc (mc (mc (mc (mc (mc ?_ ?_) ?_) ?_) ?_) ?_) ?_) ?_) ?_) ?_) ?_) ?_) ?_) ?_) ?_) ?_) ?_) ?_) ?_) ?_) ?_) ?_) ?_) ?_) ?_) ?_) ?_) ?_) ?_) ?_) ?_) ?_
 all_goals as_aux_lemma=>kernel_rfl
theorem over:Rows.taskOffsRow.holds Tryz.pinned (OpenSpec.ofChange Rows.taskOffsSpec) :=
 OpenClaim.holds_of_wide 4 Tryz.f4 rfl rfl rfl rfl rfl rfl rfl ⟨rfl,rfl,rfl,rfl,rfl⟩ rfl rfl rfl rfl rfl (by kernel_rfl) Tryz.func4 axX
  (of_decide_eq_true (by kernel_rfl)) (by unfold Func.isWrapper;first | (rw [if_pos (by decide +kernel)];kernel_rfl) | (rw [if_neg (by decide +kernel)];exact ⟨rfl,rfl⟩))
  (fun os started H enc _=>lifted os started H enc)
theorem axY:Tryz.f4.params.toList.all (fun t=>!Tryz.prog.wantsStandIn t)=true:=by kernel_rfl
theorem named:Tryz.prog.funcNamed Rows.taskOffsRow.func=some 4:=by kernel_rfl
theorem proved:Rows.TaskOffsCardSaid :=
 Claim7.holds_tied_plain_at .later [] Rows.taskOffsCard.laidKinds true Rows.taskOffsCard.stood.harness Rows.taskOffsCard.stood.looks over (fun _ h=>by cases h) (by kernel_rfl) (fun _ h=>by cases h) taskOffs_row_tie rfl ⟨rfl,rfl⟩ (by kernel_rfl) rfl
  (fun f fn az oq=>by
   obtain rfl:f=4:=(Option.some.inj (named.symm.trans az)).symm
   obtain rfl:fn=Tryz.f4:=(Option.some.inj (Tryz.func4.symm.trans oq)).symm
   refine ⟨by kernel_rfl,fun j t bB=>?_⟩
   have hm:t ∈ Tryz.f4.params.toList:=List.mem_of_getElem? (by rw [Array.getElem?_toList];exact bB)
   have ad:Tryz.prog.wantsStandIn t=false:=by simpa using List.all_eq_true.1 axY t hm
   exact ad)
  (by kernel_rfl)
#print axioms proved
end Go.Proofs.YtemdgidnhgcafaaGreatDoor.taskOffs
