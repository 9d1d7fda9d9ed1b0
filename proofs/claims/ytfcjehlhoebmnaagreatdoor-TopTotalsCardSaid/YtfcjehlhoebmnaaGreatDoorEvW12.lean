/-
  An evaluator upon abstract states that the kernel can run, and why what it answers holds. Conditions: as each theorem says.
-/
import Derived.Test.YtfcjehlhoebmnaaGreatDoorRC
import Derived.Test.YtfcjehlhoebmnaaGreatDoorEvW10
namespace Go.Proofs.YtfcjehlhoebmnaaGreatDoor.Pk
open Go Go.Proofs Go.Proofs.YtfcjehlhoebmnaaGreatDoor.Ab
set_option maxRecDepth 1000000
theorem nest32 : ∀ e ∈ [ent31], e.Ok Tryz.prog gE := by
 simp only [List.forall_mem_cons, List.not_mem_nil, false_imp_iff, implies_true, and_true]
 exact ok31
theorem chk32 : Ent.chk Tryz.prog gE (exT1 [ent31] nest32) 100000 ent32 = true := by decide +kernel
theorem ok32 : ent32.Ok Tryz.prog gE := Ent.chk_ok chk32
end Go.Proofs.YtfcjehlhoebmnaaGreatDoor.Pk
