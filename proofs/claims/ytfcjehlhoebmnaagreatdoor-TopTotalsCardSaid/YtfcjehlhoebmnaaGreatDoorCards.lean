/-
  DERIVED. GIVEN WITH THE SEED: THE CARDS: each row of YtfcjehlhoebmnaaGreatDoorRows.lean that lists a variable, with what it lists TIED to the program's text (the seventh form; the later family's looks); each row that meets fmt, with fmt's text TOLD by the authors' own Lean function (tested against real Go, not proved from fmt's source: count such statements apart). THE CARD IS WHAT COUNTS. Prove the row's statement (the work); the ties are given (YtfcjehlhoebmnaaGreatDoorTie.lean); close each card by the builder's one call (the guide's Derived/Test/ToyasCard.lean, 'card_holds'). Laid BY PROGRAM, IN A SANDBOX (cutbox-door.mjs). By AI agents, Wed Nov 11 2026. No macro, syntax, notation, axiom, sorry.
-/
import Derived.Test.YtfcjehlhoebmnaaGreatDoorRows
import GoSem.ClaimSeven
namespace Go.Proofs.YtfcjehlhoebmnaaGreatDoor
namespace Rows

/-- THE TIED CARD OF 'tidemilllaw23.ClusNobody'. -/
def clusNobodyCard : Claim7 := { stood := { row := clusNobodyRow, standIns := [], harness := (true, "09f2b7b594e17c56d3e84e56b374480a8cd04a897c6a7b583a03145dd2b548bb"), looks := true }, kinds := [], alts := [], laidByText := true, laidKinds := [.data, .data, .data], laidTests := true, laidLooks := .later }
def ClusNobodyCardSaid : Prop := Claim7.holds Tryz.pinned (.plain (OpenSpec.ofChange clusNobodySpec)) clusNobodyCard

/-- THE TIED CARD OF 'tidemilltop.TopTotals'. -/
def topTotalsCard : Claim7 := { stood := { row := topTotalsRow, standIns := [], harness := (true, "09f2b7b594e17c56d3e84e56b374480a8cd04a897c6a7b583a03145dd2b548bb"), looks := true }, kinds := [], alts := [], laidByText := true, laidKinds := [.data, .data, .data], laidTests := true, laidLooks := .later }
def TopTotalsCardSaid : Prop := Claim7.holds Tryz.pinned (.plain (OpenSpec.ofChange topTotalsSpec)) topTotalsCard

/-- THE SECOND FORM's CARD OF 'tidemilllaw23.ClusNobody'. -/
def clusNobodyUptoCard : Claim7 := { stood := { row := clusNobodyUptoRow, standIns := [], harness := (true, "09f2b7b594e17c56d3e84e56b374480a8cd04a897c6a7b583a03145dd2b548bb"), looks := true }, kinds := [], alts := [], laidByText := true, laidKinds := [.data, .data, .data], laidTests := true, laidLooks := .later }
def ClusNobodyUptoCardSaid : Prop := Claim7.holds Tryz.pinned (.plain (OpenSpec.upto clusNobodySpec)) clusNobodyUptoCard

/-- THE SECOND FORM's CARD OF 'tidemilltop.TopTotals'. -/
def topTotalsUptoCard : Claim7 := { stood := { row := topTotalsUptoRow, standIns := [], harness := (true, "09f2b7b594e17c56d3e84e56b374480a8cd04a897c6a7b583a03145dd2b548bb"), looks := true }, kinds := [], alts := [], laidByText := true, laidKinds := [.data, .data, .data], laidTests := true, laidLooks := .later }
def TopTotalsUptoCardSaid : Prop := Claim7.holds Tryz.pinned (.plain (OpenSpec.upto topTotalsSpec)) topTotalsUptoCard
end Rows
end Go.Proofs.YtfcjehlhoebmnaaGreatDoor
