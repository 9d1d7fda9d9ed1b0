/-
  The law ModelNobody returns true for all arguments.
  Conditions: none besides those of the given row.
-/
import Derived.Test.YtedkjhifbibpmaaGreatDoorRows
import Derived.WalkKit
import Derived.ProofKit
import Derived.OpenShut
import Derived.ShutString
import Derived.ChangeOld
import Derived.Below
import Derived.SizedLaws
import Derived.Test.YtedkjhifbibpmaaGreatDoorMi
import Derived.JoinedOf
import Derived.LaidLaws
import Derived.Test.YtedkjhifbibpmaaGreatDoorCards
import Derived.Test.YtedkjhifbibpmaaGreatDoorTie
namespace Go.Proofs.YtedkjhifbibpmaaGreatDoor.modelNobody
open Go.ChangeShapes Go.WideShapes Go.ChangeAt Go.RowKit
open Go.ChangeMaps (open_string shut_string)
set_option linter.unusedVariables false
set_option linter.unusedSimpArgs false
theorem own:ownKnob Tryz.prog.godebug=none:=by kernel_rfl
theorem laidOut:laidOutB Tryz.prog=true:=by kernel_rfl
theorem walk (a0:Int) (cw:Array Value) (ar:List Ab.V) (w:World) (cS:Ab.Bo Pk.pW w) (bg:(Lit.int .i64 a0).wf=true) (c9:Ab.mg.iK (.cat (.int .i64) (.cat (.int .i64) (.cat (.int .i64) .unit))) ar) (cA:Ab.a1 (Ab.l0 w) (.agg ar) (.agg cw)) :
  Calls Tryz.prog 9 #[.int .i64 a0,.agg cw] w fun e w'=>e=.returned (.bool true)∧Below w.heap.size w w':=by
 obtain ⟨r,rfl⟩:=Pk.agK c9
 exact (Pk.atN a0 r _ Pk.QQ).yg rfl cS (.cons (.int _ _) (.cons cA (.nil _)))
theorem Jn {W:World} (h:laidMetH Tryz.prog Rows.modelNobodyRow.laid W):laidMet Tryz.prog Rows.modelNobodyRow.laid W:=h
theorem Jo {W:World} (gw:laidMetH Tryz.prog Rows.modelNobodyRow.laid W):Ab.Bo Pk.pW W:=by
 have h:=Jn gw
 exact Pk.QR h
noncomputable def Cp (os:Os):World :=
 { World.holding Tryz.prog os ⟨#[],#[],[]⟩ with
  heap:=(((World.holding Tryz.prog os ⟨#[],#[],[]⟩).heap.modify 1 (fun
   | .cells _ t frozen=>.cells (Pk.cJ.map fun z=>Value.int .i64 z).toArray t frozen
   | o=>o)).modify 2 (fun
   | .cells _ t frozen=>.cells (Pk.qD.map fun z=>Value.int .i64 z).toArray t frozen
   | o=>o)) }
theorem Jp (os:Os) (args:Array Value):laidMetH Tryz.prog Rows.modelNobodyRow.laid ((Cp os).forCall (fun _ _=>0) ⟨#[],args,[]⟩).memory :=
 (show laidMet Tryz.prog Rows.modelNobodyRow.laid _ from laidMet_of_run' 8 (by kernel_rfl) (by kernel_rfl))
set_option maxRecDepth 100000 in
theorem lifted (os:Os) (started:os.Started) (H:Type) (enc:TypeId×Value→H) :
  ReturnsInHanded {} Tryz.checked os 9 .any (fun w args=>(Rows.modelNobodySpec.pre enc Tryz.prog Tryz.f9 Rows.modelNobodyRow.domain false w args∧laidMetH Tryz.prog Rows.modelNobodyRow.laid w)∧sizedMet enc Tryz.prog Tryz.f9 (OpenSpec.ofChange Rows.modelNobodySpec) false w args) (Rows.modelNobodySpec.post enc Tryz.prog Tryz.f9 false true false false):=by
 refine returnsInHanded_of_change_and (C:=Tryz.checked) (X:=fun w _=>laidMetH Tryz.prog Rows.modelNobodyRow.laid w) (fun _ _ _ U h=>h.of_heap U) own started (by kernel_rfl) Tryz.func9
  (ChangeSpec.witness_at (enc:=enc) (C:=Tryz.checked) (os:=os) (X:=fun w _=>laidMetH Tryz.prog Rows.modelNobodyRow.laid w) false (Cp os) #[.int .i64 0,.agg #[.int .i64 0,.int .i64 0,.int .i64 0]] 8 rfl (by kernel_rfl) (by kernel_rfl) (by kernel_rfl) (by kernel_rfl) (by kernel_rfl) (Jp os _)) ?_
 intro W base args ds gs before pa tQ Jq bz gw _
 have cS:=Jo gw
 have iH:∀ (j:Nat) t v,Tryz.f9.params[j]?=some t→args[j]?=some v→Value.okWide Tryz.prog W .any base t v:=pa
 have Cq:=tQ
 obtain ⟨p,q,vz,hI,rfl,qf,q9⟩:=tQ
 have gj:DataW.TrodAll enc Tryz.prog W 0 (fun _=>true) true Tryz.f9.params.toList args.toList ds p:=vz
 rw [Tryz.params9] at gj iH
 obtain ⟨v0,PF,d0,PG,s0,tX,qE,rfl,rfl,h0,iN⟩:=trodAll_cons gj
 obtain ⟨v1,PH,d1,PI,gA,cq,rfl,rfl,rfl,h1,cA⟩:=trodAll_cons iN
 obtain ⟨rfl,rfl,rfl⟩:=trodAll_nil cA
 obtain rfl:args=#[v0,v1]:=by cases args;simp_all
 obtain ⟨rfl,rfl⟩:=trodVars_none hI
 obtain ⟨a0,rfl,rfl,rfl,bg⟩:=open_int Tryz.underlying3 (iH 0 3 v0 rfl rfl) h0
 obtain ⟨cw,rfl,_⟩:=okWide_struct Tryz.underlying38 (iH 1 38 v1 rfl rfl)
 have bo:=h1
 have vw:∀ x ∈ gA,x.block<W.heap.size:=by obtain ⟨m,hm⟩:=bo;exact DataW.trod_lt m _ _ _ hm
 obtain ⟨ar,c9,X2⟩:=Ab.abj (n:=6) (s:=(.cat (.int .i64) (.cat (.int .i64) (.cat (.int .i64) .unit)))) (t:=38) (by kernel_rfl) (fun n aG=>by simpa using List.all_eq_true.1 bz n (DataW.weights_mem_each (j:=1) (t:=38) (by kernel_rfl) rfl n aG)) h1
 clear vz pa
 refine (walk a0 cw ar W cS bg c9 X2).mono fun e ZF ⟨he,r2⟩=>?_
 subst he
 exact ⟨_,rfl,_,_,_,[],_,[],Cq,trodAll_mk1 (shut_bool Tryz.underlying4 _),(trodAll_cons_mk (shut_int Tryz.underlying3 bg) (trodAll_cons_mk (Below.trod laidOut (by kernel_rfl) (of_decide_eq_true (by kernel_rfl)) bo r2 vw) trodAll_mk0)),rfl,r2.frame _,fun h=>by cases h⟩
theorem c1 {a b:Bool} (h:a=true) (k:b=true):(a&&b)=true:=by rw [h,k];rfl
set_option maxHeartbeats 200000000 in
theorem Jr:joinedFacts Tryz.pinned.checked.prog 9 Tryz.f9 Rows.modelNobodySpec Rows.modelNobodyRow=true:=by
 unfold joinedFacts
 refine c1 (c1 (c1 (c1 (c1 (c1 (c1 (c1 (c1 (c1 (c1 (c1 (c1 (c1 (c1 (c1 (c1 (c1 (c1 (c1 (c1 (c1 (c1 (c1 (c1 (c1 (c1 (c1 (c1 (c1 (c1 ?_ ?_) ?_) ?_) ?_) ?_) ?_) ?_) ?_) ?_) ?_) ?_) ?_) ?_) ?_) ?_) ?_) ?_) ?_) ?_) ?_) ?_) ?_) ?_) ?_) ?_) ?_) ?_) ?_) ?_) ?_) ?_
 all_goals as_aux_lemma=>kernel_rfl
theorem over:Rows.modelNobodyRow.holds Tryz.pinned (OpenSpec.ofChange Rows.modelNobodySpec) :=
 OpenClaim.holds_of_wide 9 Tryz.f9 rfl rfl rfl rfl rfl rfl rfl ⟨rfl,rfl,rfl,rfl,rfl⟩ rfl rfl rfl rfl rfl (by kernel_rfl) Tryz.func9 Jr
  (of_decide_eq_true (by kernel_rfl)) (by unfold Func.isWrapper;first | (rw [if_pos (by decide +kernel)];kernel_rfl) | (rw [if_neg (by decide +kernel)];exact ⟨rfl,rfl⟩))
  (fun os started H enc _=>lifted os started H enc)
theorem Js:Tryz.f9.params.toList.all (fun t=>!Tryz.prog.wantsStandIn t)=true:=by kernel_rfl
theorem named:Tryz.prog.funcNamed Rows.modelNobodyRow.func=some 9:=by kernel_rfl
theorem proved:Rows.ModelNobodyCardSaid :=
 Claim7.holds_tied_plain_at .later [] Rows.modelNobodyCard.laidKinds true Rows.modelNobodyCard.stood.harness Rows.modelNobodyCard.stood.looks over (fun _ h=>by cases h) (by kernel_rfl) (fun _ h=>by cases h) modelNobody_row_tie rfl ⟨rfl,rfl⟩ (by kernel_rfl) rfl
  (fun f fn aC ph=>by
   obtain rfl:f=9:=(Option.some.inj (named.symm.trans aC)).symm
   obtain rfl:fn=Tryz.f9:=(Option.some.inj (Tryz.func9.symm.trans ph)).symm
   refine ⟨by kernel_rfl,fun j t bw=>?_⟩
   have hm:t ∈ Tryz.f9.params.toList:=List.mem_of_getElem? (by rw [Array.getElem?_toList];exact bw)
   have ae:Tryz.prog.wantsStandIn t=false:=by simpa using List.all_eq_true.1 Js t hm
   exact ae)
  (by kernel_rfl)
#print axioms proved
end Go.Proofs.YtedkjhifbibpmaaGreatDoor.modelNobody
