/-
  The law ClusLosses returns true for all arguments: without a quorum of nodes nothing is told that was not told ahead, and with a quorum that is opened again all goes on.
  Conditions: none besides those of the given row.
-/
import Derived.Test.YtceanabgcnieeaaGreatDoorClusLossesA
import Derived.Test.YtceanabgcnieeaaGreatDoorRows
import Derived.WalkKit
import Derived.ProofKit
import Derived.OpenShut
import Derived.ShutString
import Derived.ChangeOld
import Derived.Below
import Derived.SizedLaws
import Derived.Test.YtceanabgcnieeaaGreatDoorLxY
import Derived.JoinedOf
import Derived.LaidLaws
import Derived.Test.YtceanabgcnieeaaGreatDoorCards
import Derived.Test.YtceanabgcnieeaaGreatDoorTie
namespace Go.Proofs.YtceanabgcnieeaaGreatDoor.clusLosses
open Go.ChangeShapes Go.WideShapes Go.ChangeAt Go.RowKit
open Go.ChangeMaps (open_string shut_string)
set_option linter.unusedVariables false
set_option linter.unusedSimpArgs false
theorem am6:Tryz.f3.params.toList.all (fun t=>!Tryz.prog.wantsStandIn t)=true:=by kernel_rfl
theorem named:Tryz.prog.funcNamed Rows.clusLossesRow.func=some 3:=by kernel_rfl
theorem proved:Rows.ClusLossesCardSaid :=
 Claim7.holds_tied_plain_at .later [] Rows.clusLossesCard.laidKinds true Rows.clusLossesCard.stood.harness Rows.clusLossesCard.stood.looks over (fun _ h=>by cases h) (by as_aux_lemma=>kernel_rfl) (fun _ h=>by cases h) clusLosses_row_tie rfl ⟨rfl,rfl⟩ (by as_aux_lemma=>kernel_rfl) rfl
  (fun f fn aB iD=>by
   obtain rfl:f=3:=(Option.some.inj (named.symm.trans aB)).symm
   obtain rfl:fn=Tryz.f3:=(Option.some.inj (Tryz.func3.symm.trans iD)).symm
   refine ⟨by as_aux_lemma=>kernel_rfl,fun j t bM=>?_⟩
   have hm:t ∈ Tryz.f3.params.toList:=List.mem_of_getElem? (by rw [Array.getElem?_toList];exact bM)
   have ab:Tryz.prog.wantsStandIn t=false:=by simpa using List.all_eq_true.1 am6 t hm
   exact ab)
  (by as_aux_lemma=>kernel_rfl)
#print axioms proved
end Go.Proofs.YtceanabgcnieeaaGreatDoor.clusLosses
