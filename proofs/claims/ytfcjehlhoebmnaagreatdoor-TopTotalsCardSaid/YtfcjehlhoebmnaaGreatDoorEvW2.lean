/-
  An evaluator upon abstract states that the kernel can run, and why what it answers holds. Conditions: as each theorem says.
-/
import Derived.Test.YtfcjehlhoebmnaaGreatDoorEvW
import Derived.Test.YtfcjehlhoebmnaaGreatDoorEvW1
namespace Go.Proofs.YtfcjehlhoebmnaaGreatDoor.Pk
open Go Go.Proofs Go.Proofs.YtfcjehlhoebmnaaGreatDoor.Ab
set_option maxRecDepth 1000000
theorem chk6 : Ent.chk Tryz.prog gE exX 100000 ent6 = true := by decide +kernel
theorem ok6 : ent6.Ok Tryz.prog gE := Ent.chk_ok chk6
theorem nest7 : ∀ e ∈ [ent3, ent4, ent5, ent6], e.Ok Tryz.prog gE := by
 simp only [List.forall_mem_cons, List.not_mem_nil, false_imp_iff, implies_true, and_true]
 exact ⟨ok3, ok4, ok5, ok6⟩
theorem chk7 : Ent.chk Tryz.prog gE (exT0 [ent3, ent4, ent5, ent6] nest7) 100000 ent7 = true := by decide +kernel
theorem ok7 : ent7.Ok Tryz.prog gE := Ent.chk_ok chk7
theorem chk8 : Ent.chk Tryz.prog gE exX 100000 ent8 = true := by decide +kernel
theorem ok8 : ent8.Ok Tryz.prog gE := Ent.chk_ok chk8
end Go.Proofs.YtfcjehlhoebmnaaGreatDoor.Pk
