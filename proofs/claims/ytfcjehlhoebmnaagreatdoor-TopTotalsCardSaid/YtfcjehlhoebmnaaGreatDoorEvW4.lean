/-
  An evaluator upon abstract states that the kernel can run, and why what it answers holds. Conditions: as each theorem says.
-/
import Derived.Test.YtfcjehlhoebmnaaGreatDoorEvW
import Derived.Test.YtfcjehlhoebmnaaGreatDoorEvW2
import Derived.Test.YtfcjehlhoebmnaaGreatDoorEvW3
namespace Go.Proofs.YtfcjehlhoebmnaaGreatDoor.Pk
open Go Go.Proofs Go.Proofs.YtfcjehlhoebmnaaGreatDoor.Ab
set_option maxRecDepth 1000000
theorem nest12 : ∀ e ∈ [ent8, ent9, ent10, ent11], e.Ok Tryz.prog gE := by
 simp only [List.forall_mem_cons, List.not_mem_nil, false_imp_iff, implies_true, and_true]
 exact ⟨ok8, ok9, ok10, ok11⟩
theorem chk12 : Ent.chk Tryz.prog gE (exT0 [ent8, ent9, ent10, ent11] nest12) 100000 ent12 = true := by decide +kernel
theorem ok12 : ent12.Ok Tryz.prog gE := Ent.chk_ok chk12
theorem nest13 : ∀ e ∈ [ent7, ent12], e.Ok Tryz.prog gE := by
 simp only [List.forall_mem_cons, List.not_mem_nil, false_imp_iff, implies_true, and_true]
 exact ⟨ok7, ok12⟩
theorem chk13 : Ent.chk Tryz.prog gE (exT0 [ent7, ent12] nest13) 100000 ent13 = true := by decide +kernel
theorem ok13 : ent13.Ok Tryz.prog gE := Ent.chk_ok chk13
theorem chk14 : Ent.chk Tryz.prog gE exX 100000 ent14 = true := by decide +kernel
theorem ok14 : ent14.Ok Tryz.prog gE := Ent.chk_ok chk14
end Go.Proofs.YtfcjehlhoebmnaaGreatDoor.Pk
