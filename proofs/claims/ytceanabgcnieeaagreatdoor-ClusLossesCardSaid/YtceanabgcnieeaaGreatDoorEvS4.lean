/-
  Rules of the machine on abstract states. Conditions: as each theorem says.
-/
import Derived.Test.YtceanabgcnieeaaGreatDoorEvS
import Derived.Test.YtceanabgcnieeaaGreatDoorEvS1
import Derived.Test.YtceanabgcnieeaaGreatDoorEvS2
import Derived.Test.YtceanabgcnieeaaGreatDoorEvS3
set_option linter.unusedVariables false
set_option linter.unusedSimpArgs false
set_option maxRecDepth 1000000
namespace Go.Proofs.YtceanabgcnieeaaGreatDoor.Pk
open Go Go.Proofs Go.Proofs.YtceanabgcnieeaaGreatDoor.Ab
theorem amN:∀ e ∈ [wA,wB,wC,wD,wE,wF,ss,su],e.Ok Tryz.prog bR:=by
 simp only [List.forall_mem_cons,List.not_mem_nil,false_imp_iff,implies_true,and_true]
 exact ⟨YF,YG,YH,YI,YJ,YK,PR,PS⟩
theorem amO:bW.gE Tryz.prog bR (Al [wA,wB,wC,wD,wE,wF,ss,su] amN) 100000 wG=true:=by decide +kernel
theorem PT:wG.Ok Tryz.prog bR:=bW.da amO
theorem amP:bW.gE Tryz.prog bR hz 100000 wH=true:=by decide +kernel
theorem PU:wH.Ok Tryz.prog bR:=bW.da amP
end Go.Proofs.YtceanabgcnieeaaGreatDoor.Pk
