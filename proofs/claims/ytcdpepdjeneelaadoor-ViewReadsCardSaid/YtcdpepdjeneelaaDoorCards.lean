/-
  DERIVED. GIVEN WITH THE SEED: THE CARDS: each row of YtcdpepdjeneelaaDoorRows.lean that lists a variable, with what it lists TIED to the program's text (the seventh form; the later family's looks); each row that meets fmt, with fmt's text TOLD by the authors' own Lean function (tested against real Go, not proved from fmt's source: count such statements apart). THE CARD IS WHAT COUNTS. Prove the row's statement (the work); the ties are given (YtcdpepdjeneelaaDoorTie.lean); close each card by the builder's one call (the guide's Derived/Test/ToyasCard.lean, 'card_holds'). Laid BY PROGRAM, IN A SANDBOX (cutbox-door.mjs). By AI agents, Wed Nov 11 2026. No macro, syntax, notation, axiom, sorry.
-/
import Derived.Test.YtcdpepdjeneelaaDoorRows
import GoSem.ClaimSeven
namespace Go.Proofs.YtcdpepdjeneelaaDoor
namespace Rows

/-- THE TIED CARD OF 'tidemilllaw11.ViewReads'. -/
def viewReadsCard : Claim7 := { stood := { row := viewReadsRow, standIns := [], harness := (true, "b033dd2b323816f53954e9624e73b951820ac2d28fb2661f8035c4bba3663670"), looks := false }, kinds := [], alts := [], laidByText := true, laidKinds := [.data], laidTests := true, laidLooks := .later }
def ViewReadsCardSaid : Prop := Claim7.holds Tryd.pinned (.plain (OpenSpec.ofChange viewReadsSpec)) viewReadsCard

/-- THE TIED CARD OF 'tidemilllaw11.ViewGrows'. -/
def viewGrowsCard : Claim7 := { stood := { row := viewGrowsRow, standIns := [], harness := (true, "b033dd2b323816f53954e9624e73b951820ac2d28fb2661f8035c4bba3663670"), looks := false }, kinds := [], alts := [], laidByText := true, laidKinds := [.data], laidTests := true, laidLooks := .later }
def ViewGrowsCardSaid : Prop := Claim7.holds Tryd.pinned (.plain (OpenSpec.ofChange viewGrowsSpec)) viewGrowsCard

/-- THE TIED CARD OF 'tidemilllaw11.ViewFences'. -/
def viewFencesCard : Claim7 := { stood := { row := viewFencesRow, standIns := [], harness := (true, "b033dd2b323816f53954e9624e73b951820ac2d28fb2661f8035c4bba3663670"), looks := false }, kinds := [], alts := [], laidByText := true, laidKinds := [.data], laidTests := true, laidLooks := .later }
def ViewFencesCardSaid : Prop := Claim7.holds Tryd.pinned (.plain (OpenSpec.ofChange viewFencesSpec)) viewFencesCard

/-- THE TIED CARD OF 'tidemilllaw11.ViewAtoms'. -/
def viewAtomsCard : Claim7 := { stood := { row := viewAtomsRow, standIns := [], harness := (true, "b033dd2b323816f53954e9624e73b951820ac2d28fb2661f8035c4bba3663670"), looks := false }, kinds := [], alts := [], laidByText := true, laidKinds := [.data], laidTests := true, laidLooks := .later }
def ViewAtomsCardSaid : Prop := Claim7.holds Tryd.pinned (.plain (OpenSpec.ofChange viewAtomsSpec)) viewAtomsCard

/-- THE TIED CARD OF 'tidemilllaw11.ViewOrder'. -/
def viewOrderCard : Claim7 := { stood := { row := viewOrderRow, standIns := [], harness := (true, "b033dd2b323816f53954e9624e73b951820ac2d28fb2661f8035c4bba3663670"), looks := false }, kinds := [], alts := [], laidByText := true, laidKinds := [.data], laidTests := true, laidLooks := .later }
def ViewOrderCardSaid : Prop := Claim7.holds Tryd.pinned (.plain (OpenSpec.ofChange viewOrderSpec)) viewOrderCard

/-- THE TIED CARD OF 'tidemilllaw11.ViewInputs'. -/
def viewInputsCard : Claim7 := { stood := { row := viewInputsRow, standIns := [], harness := (true, "b033dd2b323816f53954e9624e73b951820ac2d28fb2661f8035c4bba3663670"), looks := false }, kinds := [], alts := [], laidByText := true, laidKinds := [.data], laidTests := true, laidLooks := .later }
def ViewInputsCardSaid : Prop := Claim7.holds Tryd.pinned (.plain (OpenSpec.ofChange viewInputsSpec)) viewInputsCard

/-- THE SECOND FORM's CARD OF 'tidemilllaw11.ViewReads'. -/
def viewReadsUptoCard : Claim7 := { stood := { row := viewReadsUptoRow, standIns := [], harness := (true, "b033dd2b323816f53954e9624e73b951820ac2d28fb2661f8035c4bba3663670"), looks := false }, kinds := [], alts := [], laidByText := true, laidKinds := [.data], laidTests := true, laidLooks := .later }
def ViewReadsUptoCardSaid : Prop := Claim7.holds Tryd.pinned (.plain (OpenSpec.upto viewReadsSpec)) viewReadsUptoCard

/-- THE SECOND FORM's CARD OF 'tidemilllaw11.ViewGrows'. -/
def viewGrowsUptoCard : Claim7 := { stood := { row := viewGrowsUptoRow, standIns := [], harness := (true, "b033dd2b323816f53954e9624e73b951820ac2d28fb2661f8035c4bba3663670"), looks := false }, kinds := [], alts := [], laidByText := true, laidKinds := [.data], laidTests := true, laidLooks := .later }
def ViewGrowsUptoCardSaid : Prop := Claim7.holds Tryd.pinned (.plain (OpenSpec.upto viewGrowsSpec)) viewGrowsUptoCard

/-- THE SECOND FORM's CARD OF 'tidemilllaw11.ViewFences'. -/
def viewFencesUptoCard : Claim7 := { stood := { row := viewFencesUptoRow, standIns := [], harness := (true, "b033dd2b323816f53954e9624e73b951820ac2d28fb2661f8035c4bba3663670"), looks := false }, kinds := [], alts := [], laidByText := true, laidKinds := [.data], laidTests := true, laidLooks := .later }
def ViewFencesUptoCardSaid : Prop := Claim7.holds Tryd.pinned (.plain (OpenSpec.upto viewFencesSpec)) viewFencesUptoCard

/-- THE SECOND FORM's CARD OF 'tidemilllaw11.ViewAtoms'. -/
def viewAtomsUptoCard : Claim7 := { stood := { row := viewAtomsUptoRow, standIns := [], harness := (true, "b033dd2b323816f53954e9624e73b951820ac2d28fb2661f8035c4bba3663670"), looks := false }, kinds := [], alts := [], laidByText := true, laidKinds := [.data], laidTests := true, laidLooks := .later }
def ViewAtomsUptoCardSaid : Prop := Claim7.holds Tryd.pinned (.plain (OpenSpec.upto viewAtomsSpec)) viewAtomsUptoCard

/-- THE SECOND FORM's CARD OF 'tidemilllaw11.ViewOrder'. -/
def viewOrderUptoCard : Claim7 := { stood := { row := viewOrderUptoRow, standIns := [], harness := (true, "b033dd2b323816f53954e9624e73b951820ac2d28fb2661f8035c4bba3663670"), looks := false }, kinds := [], alts := [], laidByText := true, laidKinds := [.data], laidTests := true, laidLooks := .later }
def ViewOrderUptoCardSaid : Prop := Claim7.holds Tryd.pinned (.plain (OpenSpec.upto viewOrderSpec)) viewOrderUptoCard

/-- THE SECOND FORM's CARD OF 'tidemilllaw11.ViewInputs'. -/
def viewInputsUptoCard : Claim7 := { stood := { row := viewInputsUptoRow, standIns := [], harness := (true, "b033dd2b323816f53954e9624e73b951820ac2d28fb2661f8035c4bba3663670"), looks := false }, kinds := [], alts := [], laidByText := true, laidKinds := [.data], laidTests := true, laidLooks := .later }
def ViewInputsUptoCardSaid : Prop := Claim7.holds Tryd.pinned (.plain (OpenSpec.upto viewInputsSpec)) viewInputsUptoCard
end Rows
end Go.Proofs.YtcdpepdjeneelaaDoor
