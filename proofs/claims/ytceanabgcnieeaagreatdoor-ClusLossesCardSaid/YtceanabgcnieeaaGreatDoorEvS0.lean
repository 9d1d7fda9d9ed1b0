/-
  Rules of the machine on abstract states. Conditions: as each theorem says.
-/
import Derived.Test.YtceanabgcnieeaaGreatDoorEvS
set_option linter.unusedVariables false
set_option linter.unusedSimpArgs false
set_option maxRecDepth 1000000
namespace Go.Proofs.YtceanabgcnieeaaGreatDoor.Pk
open Go Go.Proofs Go.Proofs.YtceanabgcnieeaaGreatDoor.Ab
theorem PG:bW.gE Tryz.prog bR hz 100000 As=true:=by decide +kernel
theorem YB:As.Ok Tryz.prog bR:=bW.da PG
theorem PH:bW.gE Tryz.prog bR hz 100000 Au=true:=by decide +kernel
theorem YC:Au.Ok Tryz.prog bR:=bW.da PH
theorem PI:bW.gE Tryz.prog bR hz 100000 Av=true:=by decide +kernel
theorem YD:Av.Ok Tryz.prog bR:=bW.da PI
end Go.Proofs.YtceanabgcnieeaaGreatDoor.Pk
