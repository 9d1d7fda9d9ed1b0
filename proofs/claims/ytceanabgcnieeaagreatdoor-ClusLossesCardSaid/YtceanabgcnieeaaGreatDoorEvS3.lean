/-
  Rules of the machine on abstract states. Conditions: as each theorem says.
-/
import Derived.Test.YtceanabgcnieeaaGreatDoorEvS
set_option linter.unusedVariables false
set_option linter.unusedSimpArgs false
set_option maxRecDepth 1000000
namespace Go.Proofs.YtceanabgcnieeaaGreatDoor.Pk
open Go Go.Proofs Go.Proofs.YtceanabgcnieeaaGreatDoor.Ab
theorem PQ:bW.gE Tryz.prog bR hz 100000 wF=true:=by decide +kernel
theorem YK:wF.Ok Tryz.prog bR:=bW.da PQ
theorem amL:bW.gE Tryz.prog bR hz 100000 ss=true:=by decide +kernel
theorem PR:ss.Ok Tryz.prog bR:=bW.da amL
theorem amM:bW.gE Tryz.prog bR hz 100000 su=true:=by decide +kernel
theorem PS:su.Ok Tryz.prog bR:=bW.da amM
end Go.Proofs.YtceanabgcnieeaaGreatDoor.Pk
