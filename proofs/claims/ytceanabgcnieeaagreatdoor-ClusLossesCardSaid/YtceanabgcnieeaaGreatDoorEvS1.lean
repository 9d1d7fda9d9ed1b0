/-
  Rules of the machine on abstract states. Conditions: as each theorem says.
-/
import Derived.Test.YtceanabgcnieeaaGreatDoorEvS
set_option linter.unusedVariables false
set_option linter.unusedSimpArgs false
set_option maxRecDepth 1000000
namespace Go.Proofs.YtceanabgcnieeaaGreatDoor.Pk
open Go Go.Proofs Go.Proofs.YtceanabgcnieeaaGreatDoor.Ab
theorem PJ:bW.gE Tryz.prog bR hz 100000 Aw=true:=by decide +kernel
theorem YE:Aw.Ok Tryz.prog bR:=bW.da PJ
theorem PK:bW.gE Tryz.prog bR hz 100000 wA=true:=by decide +kernel
theorem YF:wA.Ok Tryz.prog bR:=bW.da PK
theorem PL:bW.gE Tryz.prog bR hz 100000 wB=true:=by decide +kernel
theorem YG:wB.Ok Tryz.prog bR:=bW.da PL
end Go.Proofs.YtceanabgcnieeaaGreatDoor.Pk
