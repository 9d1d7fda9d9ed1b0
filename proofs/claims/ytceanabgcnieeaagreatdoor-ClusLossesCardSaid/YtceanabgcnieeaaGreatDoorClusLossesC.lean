/-
  The closed facts of the row of ClusLosses, each by itself. Conditions: none.
-/
import Derived.Test.YtceanabgcnieeaaGreatDoorRows
import Derived.WalkKit
import Derived.ProofKit
import Derived.OpenShut
import Derived.ShutString
import Derived.ChangeOld
import Derived.Below
import Derived.SizedLaws
import Derived.JoinedOf
import Derived.LaidLaws
import Derived.Test.YtceanabgcnieeaaGreatDoorCards
import Derived.Test.YtceanabgcnieeaaGreatDoorTie
set_option linter.unusedVariables false
set_option linter.unusedSimpArgs false
set_option maxHeartbeats 200000000
set_option maxRecDepth 100000
namespace Go.Proofs.YtceanabgcnieeaaGreatDoor.clusLosses
open Go.ChangeShapes Go.WideShapes Go.ChangeAt Go.RowKit
open Go.ChangeMaps (open_string shut_string)
theorem iQ {a b:Bool} (h:a=true) (k:b=true):(a&&b)=true:=by rw [h,k];rfl
theorem am5:joinedFacts Tryz.pinned.checked.prog 3 Tryz.f3 Rows.clusLossesSpec Rows.clusLossesRow=true:=by
 unfold joinedFacts
 refine iQ (iQ (iQ (iQ (iQ (iQ (iQ (iQ (iQ (iQ (iQ (iQ (iQ (iQ (iQ (iQ (iQ (iQ (iQ (iQ (iQ (iQ (iQ (iQ (iQ (iQ (iQ (iQ (iQ (iQ (iQ ?_ ?_) ?_) ?_) ?_) ?_) ?_) ?_) ?_) ?_) ?_) ?_) ?_) ?_) ?_) ?_) ?_) ?_) ?_) ?_) ?_) ?_) ?_) ?_) ?_) ?_) ?_) ?_) ?_) ?_) ?_) ?_
 all_goals as_aux_lemma=>kernel_rfl
end Go.Proofs.YtceanabgcnieeaaGreatDoor.clusLosses
