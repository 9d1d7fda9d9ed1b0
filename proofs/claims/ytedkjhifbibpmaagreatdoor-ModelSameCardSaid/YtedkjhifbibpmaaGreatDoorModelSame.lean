/-
  The law ModelSame returns true for all arguments: two machines that take the same steps are the same.
  Conditions: none besides those of the given row.
-/
import Derived.Test.YtedkjhifbibpmaaGreatDoorRows
import Derived.WalkKit
import Derived.ProofKit
import Derived.OpenShut
import Derived.ShutString
import Derived.ChangeOld
import Derived.Below
import Derived.SizedLaws
import Derived.Test.YtedkjhifbibpmaaGreatDoorL1
import Derived.JoinedOf
import Derived.LaidLaws
import Derived.Test.YtedkjhifbibpmaaGreatDoorCards
import Derived.Test.YtedkjhifbibpmaaGreatDoorTie
namespace Go.Proofs.YtedkjhifbibpmaaGreatDoor.modelSame
open Go.ChangeShapes Go.WideShapes Go.ChangeAt Go.RowKit
open Go.ChangeMaps (open_string shut_string)
set_option linter.unusedVariables false
set_option linter.unusedSimpArgs false
theorem own:ownKnob Tryz.prog.godebug=none:=by kernel_rfl
theorem laidOut:laidOutB Tryz.prog=true:=by kernel_rfl
theorem walk (a0:Array Value) (eT:List Ab.V) (cw:Int) (a2:Option Addr) (pn ny:Nat) (aT:List (List Ab.V)) (w:World) (cS:Ab.Bo Pk.pW w) (bg:Ab.ko.il Pk.BF (.cat (.bp (.cat (.int .i64) (.cat (.bp (.int .i64)) (.cat (.ext 3) (.cat (.int .i64) .unit))))) (.cat (.int .i64) .unit)) eT) (iN:Ab.a1 (Ab.l0 w) (.agg eT) (.agg a0)) (c9:(Lit.int .u8 cw).wf=true) (b0:∀ x ∈ aT,Ab.mg.iK (.cat (.int .i64) (.cat (.cat (.int .i64) (.cat (.int .i64) (.cat (.int .i64) .unit))) (.cat .bool (.cat (.cat (.int .i64) (.cat (.int .i64) (.cat (.int .i64) (.cat (.int .i64) (.cat .bool .unit))))) .unit)))) x) (eb:Ab.a1 (Ab.l0 w) (.ag aT.length aT.flatten) (.slice a2 pn ny)) (ef:aT.length<2 ^ 47) (b1:aT.length * 80≤2 ^ 47) :
  Calls Tryz.prog 7 #[.agg a0,.int .u8 cw,.slice a2 pn ny] w fun e w'=>e=.returned (.bool true)∧Below w.heap.size w w':=by
 obtain ⟨l,p,ba,_,rfl⟩:=Pk.ZE bg
 obtain ⟨q,rfl,af⟩:=Ab.wf_u8 c9
 obtain ⟨cO,h1,ae⟩:=Pk.QK (fun _=>Pk.X1) b0
 rw [h1,ae] at eb
 exact (Pk.asb l p ba q af cO (by omega) _ Pk.QQ).yg rfl cS (.cons iN (.cons (.int _ _) (.cons eb (.nil _))))
theorem Jn {W:World} (h:laidMetH Tryz.prog Rows.modelSameRow.laid W):laidMet Tryz.prog Rows.modelSameRow.laid W:=h
theorem Jo {W:World} (gw:laidMetH Tryz.prog Rows.modelSameRow.laid W):Ab.Bo Pk.pW W:=by
 have h:=Jn gw
 exact Pk.QR h
noncomputable def Cp (os:Os):World :=
 { World.holding Tryz.prog os ⟨#[],#[],[]⟩ with
  heap:=(((World.holding Tryz.prog os ⟨#[],#[],[]⟩).heap.modify 1 (fun
   | .cells _ t frozen=>.cells (Pk.cJ.map fun z=>Value.int .i64 z).toArray t frozen
   | o=>o)).modify 2 (fun
   | .cells _ t frozen=>.cells (Pk.qD.map fun z=>Value.int .i64 z).toArray t frozen
   | o=>o)) }
theorem Jp (os:Os) (args:Array Value):laidMetH Tryz.prog Rows.modelSameRow.laid ((Cp os).forCall (fun _ _=>0) ⟨#[],args,[]⟩).memory :=
 (show laidMet Tryz.prog Rows.modelSameRow.laid _ from laidMet_of_run' 8 (by kernel_rfl) (by kernel_rfl))
set_option maxRecDepth 100000 in
theorem lifted (os:Os) (started:os.Started) (H:Type) (enc:TypeId×Value→H) :
  ReturnsInHanded {} Tryz.checked os 7 .any (fun w args=>(Rows.modelSameSpec.pre enc Tryz.prog Tryz.f7 Rows.modelSameRow.domain false w args∧laidMetH Tryz.prog Rows.modelSameRow.laid w)∧sizedMet enc Tryz.prog Tryz.f7 (OpenSpec.ofChange Rows.modelSameSpec) false w args) (Rows.modelSameSpec.post enc Tryz.prog Tryz.f7 false true false false):=by
 refine returnsInHanded_of_change_and (C:=Tryz.checked) (X:=fun w _=>laidMetH Tryz.prog Rows.modelSameRow.laid w) (fun _ _ _ U h=>h.of_heap U) own started (by kernel_rfl) Tryz.func7
  (ChangeSpec.witness_at (enc:=enc) (C:=Tryz.checked) (os:=os) (X:=fun w _=>laidMetH Tryz.prog Rows.modelSameRow.laid w) false (Cp os) #[.agg #[.slice none 0 0,.int .i64 0],.int .u8 0,.slice none 0 0] 8 rfl (by kernel_rfl) (by kernel_rfl) (by kernel_rfl) (by kernel_rfl) (by kernel_rfl) (Jp os _)) ?_
 intro W base args ds gs before pa tQ Jq bz gw _
 have cS:=Jo gw
 have iH:∀ (j:Nat) t v,Tryz.f7.params[j]?=some t→args[j]?=some v→Value.okWide Tryz.prog W .any base t v:=pa
 have Cq:=tQ
 obtain ⟨p,q,vz,hI,rfl,qf,q9⟩:=tQ
 have gj:DataW.TrodAll enc Tryz.prog W 0 (fun _=>true) true Tryz.f7.params.toList args.toList ds p:=vz
 rw [Tryz.params7] at gj iH
 obtain ⟨v0,PF,d0,PG,s0,tX,qE,rfl,rfl,h0,iN⟩:=trodAll_cons gj
 obtain ⟨v1,PH,d1,PI,gA,cq,rfl,rfl,rfl,h1,cA⟩:=trodAll_cons iN
 obtain ⟨v2,aay,d2,aaz,kL,cP,rfl,rfl,rfl,ae,eb⟩:=trodAll_cons cA
 obtain ⟨rfl,rfl,rfl⟩:=trodAll_nil eb
 obtain rfl:args=#[v0,v1,v2]:=by cases args;simp_all
 obtain ⟨rfl,rfl⟩:=trodVars_none hI
 obtain ⟨a0,rfl,_⟩:=okWide_struct Tryz.underlying56 (iH 0 56 v0 rfl rfl)
 have dC:=h0
 have GR:∀ x ∈ s0,x.block<W.heap.size:=by obtain ⟨m,hm⟩:=dC;exact DataW.trod_lt m _ _ _ hm
 obtain ⟨eT,bg,GS⟩:=Ab.abD (n:=6) (n':=6) (T0:=27) (s:=(.cat (.bp (.cat (.int .i64) (.cat (.bp (.int .i64)) (.cat (.ext 3) (.cat (.int .i64) .unit))))) (.cat (.int .i64) .unit))) (t:=56) Tryz.underlying27 (by kernel_rfl) (by kernel_rfl) Pk.TG (by kernel_rfl) (fun n aG=>by simpa using List.all_eq_true.1 bz n (DataW.weights_mem_each (j:=0) (t:=56) (by kernel_rfl) rfl n aG)) h0
 obtain ⟨cw,rfl,rfl,rfl,c9⟩:=open_int Tryz.underlying5 (iH 1 5 v1 rfl rfl) h1
 obtain ⟨a2,pn,ny,rfl⟩:=okWide_slice Tryz.underlying57 (iH 2 57 v2 rfl rfl)
 have k2:=ae
 have zB:∀ x ∈ kL,x.block<W.heap.size:=by obtain ⟨m,hm⟩:=k2;exact DataW.trod_lt m _ _ _ hm
 obtain ⟨aT,b0,xG,ef⟩:=Ab.abh (n:=6) (s:=(.cat (.int .i64) (.cat (.cat (.int .i64) (.cat (.int .i64) (.cat (.int .i64) .unit))) (.cat .bool (.cat (.cat (.int .i64) (.cat (.int .i64) (.cat (.int .i64) (.cat (.int .i64) (.cat .bool .unit))))) .unit))))) Tryz.underlying57 (by kernel_rfl) ⟨by kernel_rfl,by decide,of_decide_eq_true (by kernel_rfl)⟩ (fun n aG=>by simpa using List.all_eq_true.1 bz n (DataW.weights_mem_each (j:=2) (t:=57) (by kernel_rfl) rfl n aG)) ae
 have b1:=Ab.abr (k:=80) Tryz.underlying57 (by kernel_rfl) (fun n aG=>by simpa using List.all_eq_true.1 bz n (DataW.weights_mem_each (j:=2) (t:=57) (by kernel_rfl) rfl n aG)) ae xG
 clear vz pa
 refine (walk a0 eT cw a2 pn ny aT W cS bg GS c9 b0 xG ef b1).mono fun e ZF ⟨he,r2⟩=>?_
 subst he
 exact ⟨_,rfl,_,_,_,[],_,[],Cq,trodAll_mk1 (shut_bool Tryz.underlying4 _),(trodAll_cons_mk (Below.trod laidOut (by kernel_rfl) (of_decide_eq_true (by kernel_rfl)) dC r2 GR) (trodAll_cons_mk (shut_int Tryz.underlying5 c9) (trodAll_cons_mk (Below.trod laidOut (by kernel_rfl) (of_decide_eq_true (by kernel_rfl)) k2 r2 zB) trodAll_mk0))),rfl,r2.frame _,fun h=>by cases h⟩
theorem c1 {a b:Bool} (h:a=true) (k:b=true):(a&&b)=true:=by rw [h,k];rfl
set_option maxHeartbeats 200000000 in
theorem Jr:joinedFacts Tryz.pinned.checked.prog 7 Tryz.f7 Rows.modelSameSpec Rows.modelSameRow=true:=by
 unfold joinedFacts
 refine c1 (c1 (c1 (c1 (c1 (c1 (c1 (c1 (c1 (c1 (c1 (c1 (c1 (c1 (c1 (c1 (c1 (c1 (c1 (c1 (c1 (c1 (c1 (c1 (c1 (c1 (c1 (c1 (c1 (c1 (c1 ?_ ?_) ?_) ?_) ?_) ?_) ?_) ?_) ?_) ?_) ?_) ?_) ?_) ?_) ?_) ?_) ?_) ?_) ?_) ?_) ?_) ?_) ?_) ?_) ?_) ?_) ?_) ?_) ?_) ?_) ?_) ?_
 all_goals as_aux_lemma=>kernel_rfl
theorem over:Rows.modelSameRow.holds Tryz.pinned (OpenSpec.ofChange Rows.modelSameSpec) :=
 OpenClaim.holds_of_wide 7 Tryz.f7 rfl rfl rfl rfl rfl rfl rfl ⟨rfl,rfl,rfl,rfl,rfl⟩ rfl rfl rfl rfl rfl (by kernel_rfl) Tryz.func7 Jr
  (of_decide_eq_true (by kernel_rfl)) (by unfold Func.isWrapper;first | (rw [if_pos (by decide +kernel)];kernel_rfl) | (rw [if_neg (by decide +kernel)];exact ⟨rfl,rfl⟩))
  (fun os started H enc _=>lifted os started H enc)
theorem Js:Tryz.f7.params.toList.all (fun t=>!Tryz.prog.wantsStandIn t)=true:=by kernel_rfl
theorem named:Tryz.prog.funcNamed Rows.modelSameRow.func=some 7:=by kernel_rfl
theorem proved:Rows.ModelSameCardSaid :=
 Claim7.holds_tied_plain_at .later [] Rows.modelSameCard.laidKinds true Rows.modelSameCard.stood.harness Rows.modelSameCard.stood.looks over (fun _ h=>by cases h) (by kernel_rfl) (fun _ h=>by cases h) modelSame_row_tie rfl ⟨rfl,rfl⟩ (by kernel_rfl) rfl
  (fun f fn aC ph=>by
   obtain rfl:f=7:=(Option.some.inj (named.symm.trans aC)).symm
   obtain rfl:fn=Tryz.f7:=(Option.some.inj (Tryz.func7.symm.trans ph)).symm
   refine ⟨by kernel_rfl,fun j t bw=>?_⟩
   have hm:t ∈ Tryz.f7.params.toList:=List.mem_of_getElem? (by rw [Array.getElem?_toList];exact bw)
   have ae:Tryz.prog.wantsStandIn t=false:=by simpa using List.all_eq_true.1 Js t hm
   exact ae)
  (by kernel_rfl)
#print axioms proved
end Go.Proofs.YtedkjhifbibpmaaGreatDoor.modelSame
