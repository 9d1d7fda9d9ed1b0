/-
  The law TaskAgain returns true for all arguments: a task made anew of what it committed is just as the one that committed it.
  Conditions: none besides those of the given row.
-/
import Derived.Test.YtemdgidnhgcafaaGreatDoorRows
import Derived.WalkKit
import Derived.ProofKit
import Derived.OpenShut
import Derived.ShutString
import Derived.ChangeOld
import Derived.Below
import Derived.SizedLaws
import Derived.Test.YtemdgidnhgcafaaGreatDoorQe
import Derived.JoinedOf
import Derived.LaidLaws
import Derived.Test.YtemdgidnhgcafaaGreatDoorCards
import Derived.Test.YtemdgidnhgcafaaGreatDoorTie
namespace Go.Proofs.YtemdgidnhgcafaaGreatDoor.taskAgain
open Go.ChangeShapes Go.WideShapes Go.ChangeAt Go.RowKit
open Go.ChangeMaps (open_string shut_string)
set_option linter.unusedVariables false
set_option linter.unusedSimpArgs false
theorem own:ownKnob Tryz.prog.godebug=none:=by kernel_rfl
theorem laidOut:laidOutB Tryz.prog=true:=by kernel_rfl
theorem walk (a0:Array Value) (lj:List Ab.V) (bW:Int) (a2:Option Addr) (zZ sA:Nat) (bd:List (List Ab.V)) (a3:Option Addr) (D8 D9:Nat) (c2:List (List Ab.V)) (w:World) (cv:Ab.LY Pk.yi w) (aZ:Ab.gO.fa Pk.GI (.cat (.bh (.cat (.int .i64) (.cat (.bh (.int .i64)) (.cat (.ext 3) (.cat (.int .i64) .unit))))) (.cat (.int .i64) .unit)) lj) (pk:Ab.aL (Ab.oY w) (.agg lj) (.agg a0)) (cH:(Lit.int .u8 bW).wf=true) (bY:∀ x ∈ bd,Ab.gO.fa Pk.GI (.cat (.int .i64) (.cat (.int .i64) (.cat (.int .i64) .unit))) x) (ea:Ab.aL (Ab.oY w) (.ag bd.length bd.flatten) (.slice a2 zZ sA)) (c6:bd.length<2 ^ 47) (ck:bd.length * 24≤2 ^ 47) (jn:∀ x ∈ c2,Ab.gO.fa Pk.GI (.int .u8) x) (jI:Ab.aL (Ab.oY w) (.ag c2.length c2.flatten) (.slice a3 D8 D9)) (n3:c2.length<2 ^ 47) :
  Calls Tryz.prog 3 #[.agg a0,.int .u8 bW,.slice a2 zZ sA,.slice a3 D8 D9] w fun e w'=>e=.returned (.bool true)∧Below w.heap.size w w':=by
 obtain ⟨l,p,a1,_,rfl⟩:=Pk.awP aZ
 obtain ⟨n,rfl,aF⟩:=Ab.wf_u8 cH
 obtain ⟨rs,h1,ad⟩:=Pk.aev (fun _=>Pk.asT) bY
 obtain ⟨av,rfl,an⟩:=Pk.aiH jn
 rw [h1,ad] at ea
 rw [List.length_map,Pk.awI] at jI
 exact (Pk.axt l p a1 n aF rs (by omega) av _ Pk.awJ Pk.awK).LZ rfl cv (.cons pk (.cons (.int _ _) (.cons ea (.cons jI (.nil _)))))
theorem axA {W:World} (h:laidMetH Tryz.prog Rows.taskAgainRow.laid W):laidMet Tryz.prog Rows.taskAgainRow.laid W:=h
theorem axB {W:World} (fL:laidMetH Tryz.prog Rows.taskAgainRow.laid W):Ab.LY Pk.yi W:=by
 have h:=axA fL
 exact Pk.awN h
noncomputable def ajA (os:Os):World :=
 { World.holding Tryz.prog os ⟨#[],#[],[]⟩ with
  heap:=((((World.holding Tryz.prog os ⟨#[],#[],[]⟩).heap.modify 2 (fun
   | .cells _ t frozen=>.cells (Pk.ee.map fun z=>Value.int .i64 z).toArray t frozen
   | o=>o)).modify 1 (fun
   | .cells _ t frozen=>.cells (Pk.Bj.map fun z=>Value.int .i64 z).toArray t frozen
   | o=>o)).modify 0 (fun
   | .cells _ t frozen=>.cells (Pk.lL.map fun z=>Value.int .i64 z).toArray t frozen
   | o=>o)) }
theorem axC (os:Os) (args:Array Value):laidMetH Tryz.prog Rows.taskAgainRow.laid ((ajA os).forCall (fun _ _=>0) ⟨#[],args,[]⟩).memory :=
 (show laidMet Tryz.prog Rows.taskAgainRow.laid _ from laidMet_of_run' 8 (by kernel_rfl) (by kernel_rfl))
set_option maxRecDepth 100000 in
theorem lifted (os:Os) (started:os.Started) (H:Type) (enc:TypeId×Value→H) :
  ReturnsInHanded {} Tryz.checked os 3 .any (fun w args=>(Rows.taskAgainSpec.pre enc Tryz.prog Tryz.f3 Rows.taskAgainRow.domain false w args∧laidMetH Tryz.prog Rows.taskAgainRow.laid w)∧sizedMet enc Tryz.prog Tryz.f3 (OpenSpec.ofChange Rows.taskAgainSpec) false w args) (Rows.taskAgainSpec.post enc Tryz.prog Tryz.f3 false true false false):=by
 refine returnsInHanded_of_change_and (C:=Tryz.checked) (X:=fun w _=>laidMetH Tryz.prog Rows.taskAgainRow.laid w) (fun _ _ _ U h=>h.of_heap U) own started (by kernel_rfl) Tryz.func3
  (ChangeSpec.witness_at (enc:=enc) (C:=Tryz.checked) (os:=os) (X:=fun w _=>laidMetH Tryz.prog Rows.taskAgainRow.laid w) false (ajA os) #[.agg #[.slice none 0 0,.int .i64 0],.int .u8 0,.slice none 0 0,.slice none 0 0] 8 rfl (by kernel_rfl) (by kernel_rfl) (by kernel_rfl) (by kernel_rfl) (by kernel_rfl) (axC os _)) ?_
 intro W base args ds gs before Js EJ axD bq fL _
 have cv:=axB fL
 have rF:∀ (j:Nat) t v,Tryz.f3.params[j]?=some t→args[j]?=some v→Value.okWide Tryz.prog W .any base t v:=Js
 have ajB:=EJ
 obtain ⟨p,q,UN,kI,rfl,oV,yD⟩:=EJ
 have jZ:DataW.TrodAll enc Tryz.prog W 0 (fun _=>true) true Tryz.f3.params.toList args.toList ds p:=UN
 rw [Tryz.params3] at jZ rF
 obtain ⟨v0,Un,d0,ayw,xN,vU,qR,rfl,rfl,aG,pk⟩:=trodAll_cons jZ
 obtain ⟨v1,ayx,d1,ayy,jL,cY,rfl,rfl,rfl,h1,db⟩:=trodAll_cons pk
 obtain ⟨v2,ayz,d2,ayA,oX,dD,rfl,rfl,rfl,ad,ea⟩:=trodAll_cons db
 obtain ⟨v3,ayB,d3,ayC,wg,fP,rfl,rfl,rfl,aD,jI⟩:=trodAll_cons ea
 obtain ⟨rfl,rfl,rfl⟩:=trodAll_nil jI
 obtain rfl:args=#[v0,v1,v2,v3]:=by cases args;simp_all
 obtain ⟨rfl,rfl⟩:=trodVars_none kI
 obtain ⟨a0,rfl,_⟩:=okWide_struct Tryz.underlying24 (rF 0 24 v0 rfl rfl)
 have eW:=aG
 have ajC:∀ x ∈ xN,x.block<W.heap.size:=by obtain ⟨m,hm⟩:=eW;exact DataW.trod_lt m _ _ _ hm
 obtain ⟨lj,aZ,ajD⟩:=Ab.aoX (n:=6) (q:=6) (T0:=66) (s:=(.cat (.bh (.cat (.int .i64) (.cat (.bh (.int .i64)) (.cat (.ext 3) (.cat (.int .i64) .unit))))) (.cat (.int .i64) .unit))) (t:=24) Tryz.underlying66 (by kernel_rfl) (by kernel_rfl) Pk.Wo (by kernel_rfl) (fun n aF=>by simpa using List.all_eq_true.1 bq n (DataW.weights_mem_each (j:=0) (t:=24) (by kernel_rfl) rfl n aF)) aG
 obtain ⟨bW,rfl,rfl,rfl,cH⟩:=open_int Tryz.underlying5 (rF 1 5 v1 rfl rfl) h1
 obtain ⟨a2,zZ,sA,rfl⟩:=okWide_slice Tryz.underlying25 (rF 2 25 v2 rfl rfl)
 have k2:=ad
 have ajE:∀ x ∈ oX,x.block<W.heap.size:=by obtain ⟨m,hm⟩:=k2;exact DataW.trod_lt m _ _ _ hm
 obtain ⟨bd,bY,IP,c6⟩:=Ab.abu (n:=6) (u:=7) (T0:=66) (s:=(.cat (.int .i64) (.cat (.int .i64) (.cat (.int .i64) .unit)))) Tryz.underlying66 (by kernel_rfl) (by kernel_rfl) Pk.Wo (by kernel_rfl) (fun n aF=>by simpa using List.all_eq_true.1 bq n (DataW.weights_mem_each (j:=2) (t:=25) (by kernel_rfl) rfl n aF)) ad
 have ck:=Ab.aoL (k:=24) Tryz.underlying25 (by kernel_rfl) (fun n aF=>by simpa using List.all_eq_true.1 bq n (DataW.weights_mem_each (j:=2) (t:=25) (by kernel_rfl) rfl n aF)) ad IP
 obtain ⟨a3,D8,D9,rfl⟩:=okWide_slice Tryz.underlying26 (rF 3 26 v3 rfl rfl)
 have k3:=aD
 have eZ:∀ x ∈ wg,x.block<W.heap.size:=by obtain ⟨m,hm⟩:=k3;exact DataW.trod_lt m _ _ _ hm
 obtain ⟨c2,jn,ajF,n3⟩:=Ab.abu (n:=6) (u:=7) (T0:=66) (s:=(.int .u8)) Tryz.underlying66 (by kernel_rfl) (by kernel_rfl) Pk.Wo (by kernel_rfl) (fun n aF=>by simpa using List.all_eq_true.1 bq n (DataW.weights_mem_each (j:=3) (t:=26) (by kernel_rfl) rfl n aF)) aD
 clear UN Js
 refine (walk a0 lj bW a2 zZ sA bd a3 D8 D9 c2 W cv aZ ajD cH bY IP c6 ck jn ajF n3).mono fun e ayW ⟨he,Jt⟩=>?_
 subst he
 exact ⟨_,rfl,_,_,_,[],_,[],ajB,trodAll_mk1 (shut_bool Tryz.underlying4 _),(trodAll_cons_mk (Below.trod laidOut (by kernel_rfl) (of_decide_eq_true (by kernel_rfl)) eW Jt ajC) (trodAll_cons_mk (shut_int Tryz.underlying5 cH) (trodAll_cons_mk (Below.trod laidOut (by kernel_rfl) (of_decide_eq_true (by kernel_rfl)) k2 Jt ajE) (trodAll_cons_mk (Below.trod laidOut (by kernel_rfl) (of_decide_eq_true (by kernel_rfl)) k3 Jt eZ) trodAll_mk0)))),rfl,Jt.frame _,fun h=>by cases h⟩
theorem mP {a b:Bool} (h:a=true) (k:b=true):(a&&b)=true:=by rw [h,k];rfl
set_option maxHeartbeats 200000000 in
theorem axE:joinedFacts Tryz.pinned.checked.prog 3 Tryz.f3 Rows.taskAgainSpec Rows.taskAgainRow=true:=by
 unfold joinedFacts
 refine mP (mP (mP (mP (mP (mP (mP (mP (mP (mP (mP (mP (mP (mP (mP (mP (mP (mP (mP (mP (mP (mP (mP (mP (mP (mP (mP (mP (mP (mP (mP ?_ ?_) ?_) ?_) ?_) ?_) ?_) ?_) ?_) ?_) ?_) ?_) ?_) ?_) ?_) ?_) ?_) ?_) ?_) ?_) ?_) ?_) ?_) ?_) ?_) ?_) ?_) ?_) ?_) ?_) ?_) ?_
 all_goals as_aux_lemma=>kernel_rfl
theorem over:Rows.taskAgainRow.holds Tryz.pinned (OpenSpec.ofChange Rows.taskAgainSpec) :=
 OpenClaim.holds_of_wide 3 Tryz.f3 rfl rfl rfl rfl rfl rfl rfl ⟨rfl,rfl,rfl,rfl,rfl⟩ rfl rfl rfl rfl rfl (by kernel_rfl) Tryz.func3 axE
  (of_decide_eq_true (by kernel_rfl)) (by unfold Func.isWrapper;first | (rw [if_pos (by decide +kernel)];kernel_rfl) | (rw [if_neg (by decide +kernel)];exact ⟨rfl,rfl⟩))
  (fun os started H enc _=>lifted os started H enc)
theorem axF:Tryz.f3.params.toList.all (fun t=>!Tryz.prog.wantsStandIn t)=true:=by kernel_rfl
theorem named:Tryz.prog.funcNamed Rows.taskAgainRow.func=some 3:=by kernel_rfl
theorem proved:Rows.TaskAgainCardSaid :=
 Claim7.holds_tied_plain_at .later [] Rows.taskAgainCard.laidKinds true Rows.taskAgainCard.stood.harness Rows.taskAgainCard.stood.looks over (fun _ h=>by cases h) (by kernel_rfl) (fun _ h=>by cases h) taskAgain_row_tie rfl ⟨rfl,rfl⟩ (by kernel_rfl) rfl
  (fun f fn aA oW=>by
   obtain rfl:f=3:=(Option.some.inj (named.symm.trans aA)).symm
   obtain rfl:fn=Tryz.f3:=(Option.some.inj (Tryz.func3.symm.trans oW)).symm
   refine ⟨by kernel_rfl,fun j t bA=>?_⟩
   have hm:t ∈ Tryz.f3.params.toList:=List.mem_of_getElem? (by rw [Array.getElem?_toList];exact bA)
   have ad:Tryz.prog.wantsStandIn t=false:=by simpa using List.all_eq_true.1 axF t hm
   exact ad)
  (by kernel_rfl)
#print axioms proved
end Go.Proofs.YtemdgidnhgcafaaGreatDoor.taskAgain
