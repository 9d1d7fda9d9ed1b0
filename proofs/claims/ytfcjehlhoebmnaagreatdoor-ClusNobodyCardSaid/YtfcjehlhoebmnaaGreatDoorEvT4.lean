/-
  What functions of the program do, told of abstract states. Conditions: as each theorem says.
-/
import Derived.Test.YtfcjehlhoebmnaaGreatDoorEvT5
import Derived.Test.YtfcjehlhoebmnaaGreatDoorEvT6
namespace Go.Proofs.YtfcjehlhoebmnaaGreatDoor.Pk
open Go Go.Proofs Go.Proofs.YtfcjehlhoebmnaaGreatDoor.Ab
set_option maxRecDepth 1000000
theorem nestOk : ∀ e ∈ [ent5, ent6], e.Ok Tryz.prog gE := by
  simp only [List.forall_mem_cons, List.not_mem_nil, false_imp_iff, implies_true, and_true]
  exact ⟨Ent.chk_ok chk5, Ent.chk_ok chk6⟩
theorem chk4 : Ent.chk Tryz.prog gE (exT0 [ent5, ent6] nestOk) 100000 ent4 = true := by decide +kernel
end Go.Proofs.YtfcjehlhoebmnaaGreatDoor.Pk
