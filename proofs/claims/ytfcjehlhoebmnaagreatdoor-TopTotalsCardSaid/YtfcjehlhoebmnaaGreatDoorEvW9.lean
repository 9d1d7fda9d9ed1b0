/-
  An evaluator upon abstract states that the kernel can run, and why what it answers holds. Conditions: as each theorem says.
-/
import Derived.Test.YtfcjehlhoebmnaaGreatDoorEvW
import Derived.Test.YtfcjehlhoebmnaaGreatDoorEvW7
import Derived.Test.YtfcjehlhoebmnaaGreatDoorEvW8
namespace Go.Proofs.YtfcjehlhoebmnaaGreatDoor.Pk
open Go Go.Proofs Go.Proofs.YtfcjehlhoebmnaaGreatDoor.Ab
set_option maxRecDepth 1000000
theorem chk27 : Ent.chk Tryz.prog gE exX 100000 ent27 = true := by decide +kernel
theorem ok27 : ent27.Ok Tryz.prog gE := Ent.chk_ok chk27
theorem chk28 : Ent.chk Tryz.prog gE exX 100000 ent28 = true := by decide +kernel
theorem ok28 : ent28.Ok Tryz.prog gE := Ent.chk_ok chk28
theorem nest29 : ∀ e ∈ [ent21, ent22, ent23, ent24, ent25, ent26, ent27, ent28], e.Ok Tryz.prog gE := by
 simp only [List.forall_mem_cons, List.not_mem_nil, false_imp_iff, implies_true, and_true]
 exact ⟨ok21, ok22, ok23, ok24, ok25, ok26, ok27, ok28⟩
theorem chk29 : Ent.chk Tryz.prog gE (exT0 [ent21, ent22, ent23, ent24, ent25, ent26, ent27, ent28] nest29) 100000 ent29 = true := by decide +kernel
theorem ok29 : ent29.Ok Tryz.prog gE := Ent.chk_ok chk29
end Go.Proofs.YtfcjehlhoebmnaaGreatDoor.Pk
