/-
  The law ModelChains returns true for all arguments: the chains that a machine builds hold.
  Conditions: none besides those of the given row.
-/
import Derived.Test.YtedkjhifbibpmaaGreatDoorRows
import Derived.WalkKit
import Derived.ProofKit
import Derived.OpenShut
import Derived.ShutString
import Derived.ChangeOld
import Derived.Below
import Derived.SizedLaws
import Derived.Test.YtedkjhifbibpmaaGreatDoorL4
import Derived.JoinedOf
import Derived.LaidLaws
import Derived.Test.YtedkjhifbibpmaaGreatDoorCards
import Derived.Test.YtedkjhifbibpmaaGreatDoorTie
namespace Go.Proofs.YtedkjhifbibpmaaGreatDoor.modelChains
open Go.ChangeShapes Go.WideShapes Go.ChangeAt Go.RowKit
open Go.ChangeMaps (open_string shut_string)
set_option linter.unusedVariables false
set_option linter.unusedSimpArgs false
theorem own:ownKnob Tryz.prog.godebug=none:=by kernel_rfl
theorem laidOut:laidOutB Tryz.prog=true:=by kernel_rfl
theorem walk (a0:Option Addr) (zv zw:Nat) (fi:List (List Ab.V)) (cG:Array Value) (aw:List Ab.V) (w:World) (cN:Ab.GF Pk.wV w) (aK:∀ x ∈ fi,Ab.gr.fw Pk.EX (.ext 3) x) (k9:Ab.aA (Ab.iw w) (.ai fi.length fi.flatten) (.slice a0 zv zw)) (qD:fi.length<2 ^ 47) (c2:Ab.iR.gT (.cat (.int .i64) (.cat (.int .i64) (.cat (.int .i64) .unit))) aw) (cg:Ab.aA (Ab.iw w) (.agg aw) (.agg cG)) :
  Calls Tryz.prog 10 #[.slice a0 zv zw,.agg cG] w fun e w'=>e=.returned (.bool true)∧Below w.heap.size w w':=by
 obtain ⟨es,h1,aa,aC⟩:=Pk.VN aK
 obtain ⟨r,rfl⟩:=Pk.aiu c2
 rw [h1,aa] at k9
 exact (Pk.ail es (by omega) aC r _ Pk.aiv).GG rfl cN (.cons k9 (.cons cg (.nil _)))
theorem aiw {W:World} (h:laidMetH Tryz.prog Rows.modelChainsRow.laid W):laidMet Tryz.prog Rows.modelChainsRow.laid W:=h
theorem aix {W:World} (hW:laidMetH Tryz.prog Rows.modelChainsRow.laid W):Ab.GF Pk.wV W:=by
 have h:=aiw hW
 exact Pk.aiy h
noncomputable def ul (os:Os):World :=
 { World.holding Tryz.prog os ⟨#[],#[],[]⟩ with
  heap:=(((World.holding Tryz.prog os ⟨#[],#[],[]⟩).heap.modify 1 (fun
   | .cells _ t frozen=>.cells (Pk.dq.map fun z=>Value.int .i64 z).toArray t frozen
   | o=>o)).modify 2 (fun
   | .cells _ t frozen=>.cells (Pk.wW.map fun z=>Value.int .i64 z).toArray t frozen
   | o=>o)) }
theorem aiz (os:Os) (args:Array Value):laidMetH Tryz.prog Rows.modelChainsRow.laid ((ul os).forCall (fun _ _=>0) ⟨#[],args,[]⟩).memory :=
 (show laidMet Tryz.prog Rows.modelChainsRow.laid _ from laidMet_of_run' 8 (by kernel_rfl) (by kernel_rfl))
set_option maxRecDepth 100000 in
theorem lifted (os:Os) (started:os.Started) (H:Type) (enc:TypeId×Value→H) :
  ReturnsInHanded {} Tryz.checked os 10 .any (fun w args=>(Rows.modelChainsSpec.pre enc Tryz.prog Tryz.f10 Rows.modelChainsRow.domain false w args∧laidMetH Tryz.prog Rows.modelChainsRow.laid w)∧sizedMet enc Tryz.prog Tryz.f10 (OpenSpec.ofChange Rows.modelChainsSpec) false w args) (Rows.modelChainsSpec.post enc Tryz.prog Tryz.f10 false true false false):=by
 refine returnsInHanded_of_change_and (C:=Tryz.checked) (X:=fun w _=>laidMetH Tryz.prog Rows.modelChainsRow.laid w) (fun _ _ _ ab h=>h.of_heap ab) own started (by kernel_rfl) Tryz.func10
  (ChangeSpec.witness_at (enc:=enc) (C:=Tryz.checked) (os:=os) (X:=fun w _=>laidMetH Tryz.prog Rows.modelChainsRow.laid w) false (ul os) #[.slice none 0 0,.agg #[.int .i64 0,.int .i64 0,.int .i64 0]] 8 rfl (by kernel_rfl) (by kernel_rfl) (by kernel_rfl) (by kernel_rfl) (by kernel_rfl) (aiz os _)) ?_
 intro W base args ds gs before DL vG aiA bf hW _
 have cN:=aix hW
 have rl:∀ (j:Nat) t v,Tryz.f10.params[j]?=some t→args[j]?=some v→Value.okWide Tryz.prog W .any base t v:=DL
 have VO:=vG
 obtain ⟨p,q,MM,ka,rfl,mC,vk⟩:=vG
 have hI:DataW.TrodAll enc Tryz.prog W 0 (fun _=>true) true Tryz.f10.params.toList args.toList ds p:=MM
 rw [Tryz.params10] at hI rl
 obtain ⟨v0,apF,d0,apG,wu,xU,oC,rfl,rfl,h0,k9⟩:=trodAll_cons hI
 obtain ⟨v1,apH,d1,apI,hZ,cn,rfl,rfl,rfl,h1,cg⟩:=trodAll_cons k9
 obtain ⟨rfl,rfl,rfl⟩:=trodAll_nil cg
 obtain rfl:args=#[v0,v1]:=by cases args;simp_all
 obtain ⟨rfl,rfl⟩:=trodVars_none ka
 obtain ⟨a0,zv,zw,rfl⟩:=okWide_slice Tryz.underlying25 (rl 0 25 v0 rfl rfl)
 have eJ:=h0
 have VP:∀ x ∈ wu,x.block<W.heap.size:=by obtain ⟨m,hm⟩:=eJ;exact DataW.trod_lt m _ _ _ hm
 obtain ⟨fi,aK,VQ,qD⟩:=Ab.agS (n:=6) (n':=6) (T0:=27) (s:=(.ext 3)) Tryz.underlying25 Tryz.underlying27 (by kernel_rfl) (by kernel_rfl) Pk.aiB (by kernel_rfl) ⟨by kernel_rfl,by decide,of_decide_eq_true (by kernel_rfl)⟩ (fun n aG=>by simpa using List.all_eq_true.1 bf n (DataW.weights_mem_each (j:=0) (t:=25) (by kernel_rfl) rfl n aG)) h0
 obtain ⟨cG,rfl,_⟩:=okWide_struct Tryz.underlying38 (rl 1 38 v1 rfl rfl)
 have bB:=h1
 have Hf:∀ x ∈ hZ,x.block<W.heap.size:=by obtain ⟨m,hm⟩:=bB;exact DataW.trod_lt m _ _ _ hm
 obtain ⟨aw,c2,VR⟩:=Ab.agb (n:=6) (s:=(.cat (.int .i64) (.cat (.int .i64) (.cat (.int .i64) .unit)))) (t:=38) (by kernel_rfl) (fun n aG=>by simpa using List.all_eq_true.1 bf n (DataW.weights_mem_each (j:=1) (t:=38) (by kernel_rfl) rfl n aG)) h1
 clear MM DL
 refine (walk a0 zv zw fi cG aw W cN aK VQ qD c2 VR).mono fun e aqh ⟨he,Hg⟩=>?_
 subst he
 exact ⟨_,rfl,_,_,_,[],_,[],VO,trodAll_mk1 (shut_bool Tryz.underlying4 _),(trodAll_cons_mk (Below.trod laidOut (by kernel_rfl) (of_decide_eq_true (by kernel_rfl)) eJ Hg VP) (trodAll_cons_mk (Below.trod laidOut (by kernel_rfl) (of_decide_eq_true (by kernel_rfl)) bB Hg Hf) trodAll_mk0)),rfl,Hg.frame _,fun h=>by cases h⟩
theorem kR {a b:Bool} (h:a=true) (k:b=true):(a&&b)=true:=by rw [h,k];rfl
set_option maxHeartbeats 200000000 in
theorem aiC:joinedFacts Tryz.pinned.checked.prog 10 Tryz.f10 Rows.modelChainsSpec Rows.modelChainsRow=true:=by
 unfold joinedFacts
 refine kR (kR (kR (kR (kR (kR (kR (kR (kR (kR (kR (kR (kR (kR (kR (kR (kR (kR (kR (kR (kR (kR (kR (kR (kR (kR (kR (kR (kR (kR (kR ?_ ?_) ?_) ?_) ?_) ?_) ?_) ?_) ?_) ?_) ?_) ?_) ?_) ?_) ?_) ?_) ?_) ?_) ?_) ?_) ?_) ?_) ?_) ?_) ?_) ?_) ?_) ?_) ?_) ?_) ?_) ?_
 all_goals as_aux_lemma=>kernel_rfl
theorem over:Rows.modelChainsRow.holds Tryz.pinned (OpenSpec.ofChange Rows.modelChainsSpec) :=
 OpenClaim.holds_of_wide 10 Tryz.f10 rfl rfl rfl rfl rfl rfl rfl ⟨rfl,rfl,rfl,rfl,rfl⟩ rfl rfl rfl rfl rfl (by kernel_rfl) Tryz.func10 aiC
  (of_decide_eq_true (by kernel_rfl)) (by unfold Func.isWrapper;first | (rw [if_pos (by decide +kernel)];kernel_rfl) | (rw [if_neg (by decide +kernel)];exact ⟨rfl,rfl⟩))
  (fun os started H enc _=>lifted os started H enc)
theorem aiD:Tryz.f10.params.toList.all (fun t=>!Tryz.prog.wantsStandIn t)=true:=by kernel_rfl
theorem named:Tryz.prog.funcNamed Rows.modelChainsRow.func=some 10:=by kernel_rfl
theorem proved:Rows.ModelChainsCardSaid :=
 Claim7.holds_tied_plain_at .later [] Rows.modelChainsCard.laidKinds true Rows.modelChainsCard.stood.harness Rows.modelChainsCard.stood.looks over (fun _ h=>by cases h) (by kernel_rfl) (fun _ h=>by cases h) modelChains_row_tie rfl ⟨rfl,rfl⟩ (by kernel_rfl) rfl
  (fun f fn aq nH=>by
   obtain rfl:f=10:=(Option.some.inj (named.symm.trans aq)).symm
   obtain rfl:fn=Tryz.f10:=(Option.some.inj (Tryz.func10.symm.trans nH)).symm
   refine ⟨by kernel_rfl,fun j t bq=>?_⟩
   have hm:t ∈ Tryz.f10.params.toList:=List.mem_of_getElem? (by rw [Array.getElem?_toList];exact bq)
   have aa:Tryz.prog.wantsStandIn t=false:=by simpa using List.all_eq_true.1 aiD t hm
   exact aa)
  (by kernel_rfl)
#print axioms proved
end Go.Proofs.YtedkjhifbibpmaaGreatDoor.modelChains
