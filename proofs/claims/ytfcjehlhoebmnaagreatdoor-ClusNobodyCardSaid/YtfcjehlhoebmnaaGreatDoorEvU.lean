/-
  What functions of the program do, told of abstract states. Conditions: as each theorem says.
-/
import Derived.Test.YtfcjehlhoebmnaaGreatDoorEvT0
import Derived.Test.YtfcjehlhoebmnaaGreatDoorEvT1
import Derived.Test.YtfcjehlhoebmnaaGreatDoorEvT2
import Derived.Test.YtfcjehlhoebmnaaGreatDoorEvT3
import Derived.Test.YtfcjehlhoebmnaaGreatDoorEvT4
import Derived.Test.YtfcjehlhoebmnaaGreatDoorEvT7
namespace Go.Proofs.YtfcjehlhoebmnaaGreatDoor.Pk
open Go Go.Proofs Go.Proofs.YtfcjehlhoebmnaaGreatDoor.Ab
set_option maxRecDepth 1000000
noncomputable def tabE : List Ent := [ent0, ent1, ent2, ent3, ent4, ent7]
theorem tabE_ok : ∀ e ∈ tabE, e.Ok Tryz.prog gE := by
  unfold tabE
  simp only [List.forall_mem_cons, List.not_mem_nil, false_imp_iff, implies_true, and_true]
  exact ⟨Ent.chk_ok chk0, Ent.chk_ok chk1, Ent.chk_ok chk2, Ent.chk_ok chk3, Ent.chk_ok chk4, Ent.chk_ok chk7⟩
noncomputable def exF : Ext Tryz.prog gE := exT0 tabE tabE_ok
def okB (o : Option (List (V × SH))) : Bool := match o with
  | some [(.bool true, _)] => true
  | _ => false
theorem okB_spec {o : Option (List (V × SH))} (h : okB o = true) : ∃ s, o = some [(.bool true, s)] := by
  unfold okB at h
  split at h
  · exact ⟨_, rfl⟩
  · cases h
noncomputable def s00 : SH := { n := 0, t := .e, b := 0, w := [] }
theorem nobodyOk : okB (callF Tryz.prog gE exF (runC Tryz.prog gE exF 100000) 3 [.agg [.top, .top, .top, .top, .top, .top, .top, .top, .top, .top], .top] s00) = true := by decide +kernel
end Go.Proofs.YtfcjehlhoebmnaaGreatDoor.Pk
