/-
  The law TaskNobody returns true for all arguments: a task that is nil takes nothing, and has nothing.
  Conditions: none besides those of the given row.
-/
import Derived.Test.YtemdgidnhgcafaaGreatDoorRows
import Derived.WalkKit
import Derived.ProofKit
import Derived.OpenShut
import Derived.ShutString
import Derived.ChangeOld
import Derived.Below
import Derived.SizedLaws
import Derived.Test.YtemdgidnhgcafaaGreatDoorMk
import Derived.JoinedOf
import Derived.LaidLaws
import Derived.Test.YtemdgidnhgcafaaGreatDoorCards
import Derived.Test.YtemdgidnhgcafaaGreatDoorTie
namespace Go.Proofs.YtemdgidnhgcafaaGreatDoor.taskNobody
open Go.ChangeShapes Go.WideShapes Go.ChangeAt Go.RowKit
open Go.ChangeMaps (open_string shut_string)
set_option linter.unusedVariables false
set_option linter.unusedSimpArgs false
theorem own:ownKnob Tryz.prog.godebug=none:=by kernel_rfl
theorem laidOut:laidOutB Tryz.prog=true:=by kernel_rfl
theorem walk (a0:Int) (w:World) (cd:Ab.IM Pk.sK w) (aJ:(Lit.int .i64 a0).wf=true) :
  Calls Tryz.prog 5 #[.int .i64 a0] w fun e w'=>e=.returned (.bool true)∧Below w.heap.size w w':=by
 exact (Pk.atH a0 _ Pk.afI Pk.afJ).MC rfl cd (.cons (.int _ _) (.nil _))
theorem VT {W:World} (h:laidMetH Tryz.prog Rows.taskNobodyRow.laid W):laidMet Tryz.prog Rows.taskNobodyRow.laid W:=h
theorem VU {W:World} (gH:laidMetH Tryz.prog Rows.taskNobodyRow.laid W):Ab.IM Pk.sK W:=by
 have h:=VT gH
 exact Pk.afN h
noncomputable def MD (os:Os):World :=
 { World.holding Tryz.prog os ⟨#[],#[],[]⟩ with
  heap:=((((World.holding Tryz.prog os ⟨#[],#[],[]⟩).heap.modify 2 (fun
   | .cells _ t frozen=>.cells (Pk.dn.map fun z=>Value.int .i64 z).toArray t frozen
   | o=>o)).modify 1 (fun
   | .cells _ t frozen=>.cells (Pk.vq.map fun z=>Value.int .i64 z).toArray t frozen
   | o=>o)).modify 0 (fun
   | .cells _ t frozen=>.cells (Pk.jq.map fun z=>Value.int .i64 z).toArray t frozen
   | o=>o)) }
theorem VV (os:Os) (args:Array Value):laidMetH Tryz.prog Rows.taskNobodyRow.laid ((MD os).forCall (fun _ _=>0) ⟨#[],args,[]⟩).memory :=
 (show laidMet Tryz.prog Rows.taskNobodyRow.laid _ from laidMet_of_run' 8 (by kernel_rfl) (by kernel_rfl))
set_option maxRecDepth 100000 in
theorem lifted (os:Os) (started:os.Started) (H:Type) (enc:TypeId×Value→H) :
  ReturnsInHanded {} Tryz.checked os 5 .any (fun w args=>(Rows.taskNobodySpec.pre enc Tryz.prog Tryz.f5 Rows.taskNobodyRow.domain false w args∧laidMetH Tryz.prog Rows.taskNobodyRow.laid w)∧sizedMet enc Tryz.prog Tryz.f5 (OpenSpec.ofChange Rows.taskNobodySpec) false w args) (Rows.taskNobodySpec.post enc Tryz.prog Tryz.f5 false true false false):=by
 refine returnsInHanded_of_change_and (C:=Tryz.checked) (X:=fun w _=>laidMetH Tryz.prog Rows.taskNobodyRow.laid w) (fun _ _ _ U h=>h.of_heap U) own started (by kernel_rfl) Tryz.func5
  (ChangeSpec.witness_at (enc:=enc) (C:=Tryz.checked) (os:=os) (X:=fun w _=>laidMetH Tryz.prog Rows.taskNobodyRow.laid w) false (MD os) #[.int .i64 0] 8 rfl (by kernel_rfl) (by kernel_rfl) (by kernel_rfl) (by kernel_rfl) (by kernel_rfl) (VV os _)) ?_
 intro W base args ds gs before vt xW VW bo gH _
 have cd:=VU gH
 have pG:∀ (j:Nat) t v,Tryz.f5.params[j]?=some t→args[j]?=some v→Value.okWide Tryz.prog W .any base t v:=vt
 have ME:=xW
 obtain ⟨p,q,Dc,jb,rfl,l5,uT⟩:=xW
 have jD:DataW.TrodAll enc Tryz.prog W 0 (fun _=>true) true Tryz.f5.params.toList args.toList ds p:=Dc
 rw [Tryz.params5] at jD pG
 obtain ⟨v0,LQ,d0,afP,vD,A7,nU,rfl,rfl,aK,nY⟩:=trodAll_cons jD
 obtain ⟨rfl,rfl,rfl⟩:=trodAll_nil nY
 obtain rfl:args=#[v0]:=by cases args;simp_all
 obtain ⟨rfl,rfl⟩:=trodVars_none jb
 obtain ⟨a0,rfl,rfl,rfl,aJ⟩:=open_int Tryz.underlying3 (pG 0 3 v0 rfl rfl) aK
 clear Dc vt
 refine (walk a0 W cd aJ).mono fun e atY ⟨he,MF⟩=>?_
 subst he
 exact ⟨_,rfl,_,_,_,[],_,[],ME,trodAll_mk1 (shut_bool Tryz.underlying4 _),(trodAll_cons_mk (shut_int Tryz.underlying3 aJ) trodAll_mk0),rfl,MF.frame _,fun h=>by cases h⟩
theorem be {a b:Bool} (h:a=true) (k:b=true):(a&&b)=true:=by rw [h,k];rfl
set_option maxHeartbeats 200000000 in
theorem VX:joinedFacts Tryz.pinned.checked.prog 5 Tryz.f5 Rows.taskNobodySpec Rows.taskNobodyRow=true:=by
 unfold joinedFacts
 refine be (be (be (be (be (be (be (be (be (be (be (be (be (be (be (be (be (be (be (be (be (be (be (be (be (be (be (be (be (be (be ?_ ?_) ?_) ?_) ?_) ?_) ?_) ?_) ?_) ?_) ?_) ?_) ?_) ?_) ?_) ?_) ?_) ?_) ?_) ?_) ?_) ?_) ?_) ?_) ?_) ?_) ?_) ?_) ?_) ?_) ?_) ?_
 all_goals as_aux_lemma=>kernel_rfl
theorem over:Rows.taskNobodyRow.holds Tryz.pinned (OpenSpec.ofChange Rows.taskNobodySpec) :=
 OpenClaim.holds_of_wide 5 Tryz.f5 rfl rfl rfl rfl rfl rfl rfl ⟨rfl,rfl,rfl,rfl,rfl⟩ rfl rfl rfl rfl rfl (by kernel_rfl) Tryz.func5 VX
  (of_decide_eq_true (by kernel_rfl)) (by unfold Func.isWrapper;first | (rw [if_pos (by decide +kernel)];kernel_rfl) | (rw [if_neg (by decide +kernel)];exact ⟨rfl,rfl⟩))
  (fun os started H enc _=>lifted os started H enc)
theorem VY:Tryz.f5.params.toList.all (fun t=>!Tryz.prog.wantsStandIn t)=true:=by kernel_rfl
theorem named:Tryz.prog.funcNamed Rows.taskNobodyRow.func=some 5:=by kernel_rfl
theorem proved:Rows.TaskNobodyCardSaid :=
 Claim7.holds_tied_plain_at .later [] Rows.taskNobodyCard.laidKinds true Rows.taskNobodyCard.stood.harness Rows.taskNobodyCard.stood.looks over (fun _ h=>by cases h) (by kernel_rfl) (fun _ h=>by cases h) taskNobody_row_tie rfl ⟨rfl,rfl⟩ (by kernel_rfl) rfl
  (fun f fn av mN=>by
   obtain rfl:f=5:=(Option.some.inj (named.symm.trans av)).symm
   obtain rfl:fn=Tryz.f5:=(Option.some.inj (Tryz.func5.symm.trans mN)).symm
   refine ⟨by kernel_rfl,fun j t bE=>?_⟩
   have hm:t ∈ Tryz.f5.params.toList:=List.mem_of_getElem? (by rw [Array.getElem?_toList];exact bE)
   have ad:Tryz.prog.wantsStandIn t=false:=by simpa using List.all_eq_true.1 VY t hm
   exact ad)
  (by kernel_rfl)
#print axioms proved
end Go.Proofs.YtemdgidnhgcafaaGreatDoor.taskNobody
