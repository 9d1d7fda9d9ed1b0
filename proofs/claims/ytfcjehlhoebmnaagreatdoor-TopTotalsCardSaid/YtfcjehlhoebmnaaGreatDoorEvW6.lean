/-
  An evaluator upon abstract states that the kernel can run, and why what it answers holds. Conditions: as each theorem says.
-/
import Derived.Test.YtfcjehlhoebmnaaGreatDoorEvW
import Derived.Test.YtfcjehlhoebmnaaGreatDoorEvW4
import Derived.Test.YtfcjehlhoebmnaaGreatDoorEvW5
namespace Go.Proofs.YtfcjehlhoebmnaaGreatDoor.Pk
open Go Go.Proofs Go.Proofs.YtfcjehlhoebmnaaGreatDoor.Ab
set_option maxRecDepth 1000000
theorem chk18 : Ent.chk Tryz.prog gE exX 100000 ent18 = true := by decide +kernel
theorem ok18 : ent18.Ok Tryz.prog gE := Ent.chk_ok chk18
theorem chk19 : Ent.chk Tryz.prog gE exX 100000 ent19 = true := by decide +kernel
theorem ok19 : ent19.Ok Tryz.prog gE := Ent.chk_ok chk19
theorem nest20 : ∀ e ∈ [ent14, ent15, ent16, ent17, ent18, ent19], e.Ok Tryz.prog gE := by
 simp only [List.forall_mem_cons, List.not_mem_nil, false_imp_iff, implies_true, and_true]
 exact ⟨ok14, ok15, ok16, ok17, ok18, ok19⟩
theorem chk20 : Ent.chk Tryz.prog gE (exT0 [ent14, ent15, ent16, ent17, ent18, ent19] nest20) 100000 ent20 = true := by decide +kernel
theorem ok20 : ent20.Ok Tryz.prog gE := Ent.chk_ok chk20
end Go.Proofs.YtfcjehlhoebmnaaGreatDoor.Pk
