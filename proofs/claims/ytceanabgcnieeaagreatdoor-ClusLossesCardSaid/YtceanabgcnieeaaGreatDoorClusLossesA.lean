/-
  The row of the law ClusLosses holds: the step from the law on abstract states to the row. Conditions: none besides those of the given row.
-/
import Derived.Test.YtceanabgcnieeaaGreatDoorClusLossesC
import Derived.Test.YtceanabgcnieeaaGreatDoorRows
import Derived.WalkKit
import Derived.ProofKit
import Derived.OpenShut
import Derived.ShutString
import Derived.ChangeOld
import Derived.Below
import Derived.SizedLaws
import Derived.Test.YtceanabgcnieeaaGreatDoorLxY
import Derived.JoinedOf
import Derived.LaidLaws
import Derived.Test.YtceanabgcnieeaaGreatDoorCards
import Derived.Test.YtceanabgcnieeaaGreatDoorTie
set_option linter.unusedVariables false
set_option linter.unusedSimpArgs false
set_option maxHeartbeats 200000000
set_option maxRecDepth 100000
namespace Go.Proofs.YtceanabgcnieeaaGreatDoor.clusLosses
open Go.ChangeShapes Go.WideShapes Go.ChangeAt Go.RowKit
open Go.ChangeMaps (open_string shut_string)
theorem own:ownKnob Tryz.prog.godebug=none:=by kernel_rfl
theorem laidOut:laidOutB Tryz.prog=true:=by kernel_rfl
theorem walk (a0:Option Addr) (pS wI:Nat) (gr:List (List Ab.V)) (bC:Int) (w:World) (cV:Ab.zj (Ab.cJ Pk.bR) w) (aG:∀ x ∈ gr,Ab.lx.hv (.cat (.int .i64) (.cat (.int .i64) (.cat (.int .i64) .unit))) x) (o2:Ab.ax (Ab.be w) (.an gr.length gr.flatten) (.slice a0 pS wI)) (hZ:gr.length<2 ^ 47) (gx:gr.length * 24≤2 ^ 47) (bK:(Lit.int .u8 bC).wf=true) :
  Calls Tryz.prog 3 #[.slice a0 pS wI,.int .u8 bC] w fun e w'=>e=.returned (.bool true)∧Below w.heap.size w w':=by
 obtain ⟨rs,h1,ab,aI⟩:=Pk.YR (fun e he=>(let ⟨r,a,b⟩:=Pk.amY he;⟨r,b,a⟩)) aG
 rw [h1,ab] at o2
 obtain ⟨n,rfl,aJ⟩:=Ab.wf_u8 bK
 exact (Pk.wd rs aI (by omega) n aJ).D3 rfl cV (.cons o2 (.cons (.int _ _) (.nil _)))
theorem am0 {W:World} (h:laidMetH Tryz.prog Rows.clusLossesRow.laid W):laidMet Tryz.prog Rows.clusLossesRow.laid W:=h
theorem am1 {W:World} (kh:laidMetH Tryz.prog Rows.clusLossesRow.laid W):Ab.zj (Ab.cJ Pk.bR) W:=by
 have h:=am0 kh
 exact Pk.amW h
noncomputable def YS (os:Os):World :=
 { World.holding Tryz.prog os ⟨#[],#[],[]⟩ with
  heap:=((((World.holding Tryz.prog os ⟨#[],#[],[]⟩).heap.modify 2 (fun
   | .cells _ t frozen=>.cells (Pk.oV.map fun z=>Value.int .i64 z).toArray t frozen
   | o=>o)).modify 0 (fun
   | .cells _ t frozen=>.cells (Pk.oP.map fun z=>Value.int .i64 z).toArray t frozen
   | o=>o)).modify 1 (fun
   | .cells _ t frozen=>.cells (Pk.oW.map fun z=>Value.int .i64 z).toArray t frozen
   | o=>o)) }
theorem am2 (os:Os) (args:Array Value):laidMetH Tryz.prog Rows.clusLossesRow.laid ((YS os).forCall (fun _ _=>0) ⟨#[],args,[]⟩).memory :=
 (show laidMet Tryz.prog Rows.clusLossesRow.laid _ from laidMet_of_run' 8 (by kernel_rfl) (by kernel_rfl))
theorem lifted (os:Os) (started:os.Started) (H:Type) (enc:TypeId×Value→H) :
  ReturnsInHanded {} Tryz.checked os 3 .any (fun w args=>(Rows.clusLossesSpec.pre enc Tryz.prog Tryz.f3 Rows.clusLossesRow.domain false w args∧laidMetH Tryz.prog Rows.clusLossesRow.laid w)∧sizedMet enc Tryz.prog Tryz.f3 (OpenSpec.ofChange Rows.clusLossesSpec) false w args) (Rows.clusLossesSpec.post enc Tryz.prog Tryz.f3 false true false false):=by
 refine returnsInHanded_of_change_and (C:=Tryz.checked) (X:=fun w _=>laidMetH Tryz.prog Rows.clusLossesRow.laid w) (fun _ _ _ ad h=>h.of_heap ad) own started (by kernel_rfl) Tryz.func3
  (ChangeSpec.witness_at (enc:=enc) (C:=Tryz.checked) (os:=os) (X:=fun w _=>laidMetH Tryz.prog Rows.clusLossesRow.laid w) false (YS os) #[.slice none 0 0,.int .u8 0] 8 rfl (by kernel_rfl) (by kernel_rfl) (by kernel_rfl) (by kernel_rfl) (by kernel_rfl) (am2 os _)) ?_
 intro W base args ds gs before BM gb am3 bn kh _
 have cV:=am1 kh
 have Az:∀ (j:Nat) t v,Tryz.f3.params[j]?=some t→args[j]?=some v→Value.okWide Tryz.prog W .any base t v:=BM
 have YT:=gb
 obtain ⟨p,q,Lw,am4,rfl,kn,anX⟩:=gb
 have nL:DataW.TrodAll enc Tryz.prog W 0 (fun _=>true) true Tryz.f3.params.toList args.toList ds p:=Lw
 rw [Tryz.params3] at nL Az
 obtain ⟨v0,Kl,d0,anY,ug,pa,iI,rfl,rfl,ay,o2⟩:=trodAll_cons nL
 obtain ⟨v1,anZ,d1,an0,k9,c2,rfl,rfl,rfl,h1,cq⟩:=trodAll_cons o2
 obtain ⟨rfl,rfl,rfl⟩:=trodAll_nil cq
 obtain rfl:args=#[v0,v1]:=by cases args;simp_all
 obtain ⟨rfl,rfl⟩:=trodVars_none am4
 obtain ⟨a0,pS,wI,rfl⟩:=okWide_slice Tryz.underlying22 (Az 0 22 v0 rfl rfl)
 have ez:=ay
 have YU:∀ x ∈ ug,x.block<W.heap.size:=by obtain ⟨m,hm⟩:=ez;exact DataW.trod_lt m _ _ _ hm
 obtain ⟨gr,aG,Lx,hZ⟩:=Ab.adg (n:=6) (s:=(.cat (.int .i64) (.cat (.int .i64) (.cat (.int .i64) .unit)))) Tryz.underlying22 (by kernel_rfl) ⟨by kernel_rfl,by decide,of_decide_eq_true (by kernel_rfl)⟩ (fun n aJ=>by simpa using List.all_eq_true.1 bn n (DataW.weights_mem_each (j:=0) (t:=22) (by kernel_rfl) rfl n aJ)) ay
 have gx:=Ab.adR (k:=24) Tryz.underlying22 (by kernel_rfl) (fun n aJ=>by simpa using List.all_eq_true.1 bn n (DataW.weights_mem_each (j:=0) (t:=22) (by kernel_rfl) rfl n aJ)) ay Lx
 obtain ⟨bC,rfl,rfl,rfl,bK⟩:=open_int Tryz.underlying5 (Az 1 5 v1 rfl rfl) h1
 clear Lw BM
 refine (walk a0 pS wI gr bC W cV aG Lx hZ gx bK).mono fun e ao1 ⟨he,Ly⟩=>?_
 subst he
 exact ⟨_,rfl,_,_,_,[],_,[],YT,trodAll_mk1 (shut_bool Tryz.underlying4 _),(trodAll_cons_mk (Below.trod laidOut (by kernel_rfl) (of_decide_eq_true (by kernel_rfl)) ez Ly YU) (trodAll_cons_mk (shut_int Tryz.underlying5 bK) trodAll_mk0)),rfl,Ly.frame _,fun h=>by cases h⟩
theorem over:Rows.clusLossesRow.holds Tryz.pinned (OpenSpec.ofChange Rows.clusLossesSpec) :=
 OpenClaim.holds_of_wide 3 Tryz.f3 rfl rfl rfl rfl rfl rfl rfl ⟨rfl,rfl,rfl,rfl,rfl⟩ rfl rfl rfl rfl rfl (by kernel_rfl) Tryz.func3 am5
  (of_decide_eq_true (by kernel_rfl)) (by unfold Func.isWrapper;first | (rw [if_pos (by decide +kernel)];kernel_rfl) | (rw [if_neg (by decide +kernel)];exact ⟨rfl,rfl⟩))
  (fun os started H enc _=>lifted os started H enc)
end Go.Proofs.YtceanabgcnieeaaGreatDoor.clusLosses
