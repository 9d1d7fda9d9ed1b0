/-
  An evaluator upon abstract states that the kernel can run, and why what it answers holds. Conditions: as each theorem says.
-/
import Derived.Test.YtfcjehlhoebmnaaGreatDoorEvW
import Derived.Test.YtfcjehlhoebmnaaGreatDoorEvW10
import Derived.Test.YtfcjehlhoebmnaaGreatDoorEvW12
namespace Go.Proofs.YtfcjehlhoebmnaaGreatDoor.Pk
open Go Go.Proofs Go.Proofs.YtfcjehlhoebmnaaGreatDoor.Ab
set_option maxRecDepth 1000000
theorem nest33 : ∀ e ∈ [ent30, ent32], e.Ok Tryz.prog gE := by
 simp only [List.forall_mem_cons, List.not_mem_nil, false_imp_iff, implies_true, and_true]
 exact ⟨ok30, ok32⟩
theorem chk33 : Ent.chk Tryz.prog gE (exT0 [ent30, ent32] nest33) 100000 ent33 = true := by decide +kernel
theorem ok33 : ent33.Ok Tryz.prog gE := Ent.chk_ok chk33
end Go.Proofs.YtfcjehlhoebmnaaGreatDoor.Pk
