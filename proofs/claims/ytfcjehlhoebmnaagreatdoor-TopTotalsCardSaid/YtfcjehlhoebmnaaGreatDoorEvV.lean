/-
  An evaluator upon abstract states that the kernel can run, and why what it answers holds. Conditions: as each theorem says.
-/
import Derived.Test.YtfcjehlhoebmnaaGreatDoorEvW0
import Derived.Test.YtfcjehlhoebmnaaGreatDoorEvW4
import Derived.Test.YtfcjehlhoebmnaaGreatDoorEvW6
import Derived.Test.YtfcjehlhoebmnaaGreatDoorEvW9
import Derived.Test.YtfcjehlhoebmnaaGreatDoorEvW11
namespace Go.Proofs.YtfcjehlhoebmnaaGreatDoor.Pk
open Go Go.Proofs Go.Proofs.YtfcjehlhoebmnaaGreatDoor.Ab
set_option maxRecDepth 1000000
noncomputable def tabL : List Ent := [ent0, ent1, ent2, ent13, ent20, ent29, ent33]
theorem tabL_ok : ∀ e ∈ tabL, e.Ok Tryz.prog gE := by
 unfold tabL
 simp only [List.forall_mem_cons, List.not_mem_nil, false_imp_iff, implies_true, and_true]
 exact ⟨ok0, ok1, ok2, ok13, ok20, ok29, ok33⟩
noncomputable def exL : Ext Tryz.prog gE := exT0 tabL tabL_ok
def okB (o : Option (List (V × SH))) : Bool := match o with
 | some [(.bool true, _)] => true
 | _ => false
theorem okB_spec {o : Option (List (V × SH))} (h : okB o = true) : ∃ s, o = some [(.bool true, s)] := by
 unfold okB at h
 split at h
 ·exact ⟨_, rfl⟩
 ·cases h
noncomputable def s00 : SH := { n := 0, t := .e, b := 0, w := [] }
theorem livesOk : okB (callF Tryz.prog gE exL (runC Tryz.prog gE exL 100000) 14 [] s00) = true := by decide +kernel
theorem lives0 : SCalls Tryz.prog 14 [] (globHeap (gl gE)) fun x _ => x = .bool true := by
 obtain ⟨s, hs⟩ := okB_spec livesOk
 exact (run_call hs).2.mono fun x h ⟨h1, _⟩ => h1
end Go.Proofs.YtfcjehlhoebmnaaGreatDoor.Pk
