/-
  Rules of the machine on abstract states. Conditions: as each theorem says.
-/
import Derived.Test.YtceanabgcnieeaaGreatDoorEvS
set_option linter.unusedVariables false
set_option linter.unusedSimpArgs false
set_option maxRecDepth 1000000
namespace Go.Proofs.YtceanabgcnieeaaGreatDoor.Pk
open Go Go.Proofs Go.Proofs.YtceanabgcnieeaaGreatDoor.Ab
theorem PM:bW.gE Tryz.prog bR hz 100000 wC=true:=by decide +kernel
theorem YH:wC.Ok Tryz.prog bR:=bW.da PM
theorem PN:bW.gE Tryz.prog bR hz 100000 wD=true:=by decide +kernel
theorem YI:wD.Ok Tryz.prog bR:=bW.da PN
theorem PO:bW.gE Tryz.prog bR hz 100000 wE=true:=by decide +kernel
theorem YJ:wE.Ok Tryz.prog bR:=bW.da PO
end Go.Proofs.YtceanabgcnieeaaGreatDoor.Pk
