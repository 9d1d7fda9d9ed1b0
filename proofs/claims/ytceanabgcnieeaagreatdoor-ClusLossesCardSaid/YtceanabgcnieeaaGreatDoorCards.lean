/-
  DERIVED. GIVEN WITH THE SEED: THE CARDS: each row of YtceanabgcnieeaaGreatDoorRows.lean that lists a variable, with what it lists TIED to the program's text (the seventh form; the later family's looks); each row that meets fmt, with fmt's text TOLD by the authors' own Lean function (tested against real Go, not proved from fmt's source: count such statements apart). THE CARD IS WHAT COUNTS. Prove the row's statement (the work); the ties are given (YtceanabgcnieeaaGreatDoorTie.lean); close each card by the builder's one call (the guide's Derived/Test/ToyasCard.lean, 'card_holds'). Laid BY PROGRAM, IN A SANDBOX (cutbox-door.mjs). By AI agents, Wed Nov 11 2026. No macro, syntax, notation, axiom, sorry.
-/
import Derived.Test.YtceanabgcnieeaaGreatDoorRows
import GoSem.ClaimSeven
namespace Go.Proofs.YtceanabgcnieeaaGreatDoor
namespace Rows

/-- THE TIED CARD OF 'tidemilllaw23.ClusLosses'. -/
def clusLossesCard : Claim7 := { stood := { row := clusLossesRow, standIns := [], harness := (true, "5f51ac3913c41f9b237b063603dfdce5e10b25e3c8f9333316e8047602e634c7"), looks := true }, kinds := [], alts := [], laidByText := true, laidKinds := [.data, .data, .data], laidTests := true, laidLooks := .later }
def ClusLossesCardSaid : Prop := Claim7.holds Tryz.pinned (.plain (OpenSpec.ofChange clusLossesSpec)) clusLossesCard

/-- THE TIED CARD OF 'tidemilllaw23.ClusFences'. -/
def clusFencesCard : Claim7 := { stood := { row := clusFencesRow, standIns := [], harness := (true, "5f51ac3913c41f9b237b063603dfdce5e10b25e3c8f9333316e8047602e634c7"), looks := true }, kinds := [], alts := [], laidByText := true, laidKinds := [.data, .data, .data], laidTests := true, laidLooks := .later }
def ClusFencesCardSaid : Prop := Claim7.holds Tryz.pinned (.plain (OpenSpec.ofChange clusFencesSpec)) clusFencesCard

/-- THE TIED CARD OF 'tidemilllaw23.ClusStops'. -/
def clusStopsCard : Claim7 := { stood := { row := clusStopsRow, standIns := [], harness := (true, "5f51ac3913c41f9b237b063603dfdce5e10b25e3c8f9333316e8047602e634c7"), looks := true }, kinds := [], alts := [], laidByText := true, laidKinds := [.data, .data, .data], laidTests := true, laidLooks := .later }
def ClusStopsCardSaid : Prop := Claim7.holds Tryz.pinned (.plain (OpenSpec.ofChange clusStopsSpec)) clusStopsCard

/-- THE TIED CARD OF 'tidemilltop.TopSums'. -/
def topSumsCard : Claim7 := { stood := { row := topSumsRow, standIns := [], harness := (true, "5f51ac3913c41f9b237b063603dfdce5e10b25e3c8f9333316e8047602e634c7"), looks := true }, kinds := [], alts := [], laidByText := true, laidKinds := [.data, .data, .data], laidTests := true, laidLooks := .later }
def TopSumsCardSaid : Prop := Claim7.holds Tryz.pinned (.plain (OpenSpec.ofChange topSumsSpec)) topSumsCard

/-- THE SECOND FORM's CARD OF 'tidemilllaw23.ClusLosses'. -/
def clusLossesUptoCard : Claim7 := { stood := { row := clusLossesUptoRow, standIns := [], harness := (true, "5f51ac3913c41f9b237b063603dfdce5e10b25e3c8f9333316e8047602e634c7"), looks := true }, kinds := [], alts := [], laidByText := true, laidKinds := [.data, .data, .data], laidTests := true, laidLooks := .later }
def ClusLossesUptoCardSaid : Prop := Claim7.holds Tryz.pinned (.plain (OpenSpec.upto clusLossesSpec)) clusLossesUptoCard

/-- THE SECOND FORM's CARD OF 'tidemilllaw23.ClusFences'. -/
def clusFencesUptoCard : Claim7 := { stood := { row := clusFencesUptoRow, standIns := [], harness := (true, "5f51ac3913c41f9b237b063603dfdce5e10b25e3c8f9333316e8047602e634c7"), looks := true }, kinds := [], alts := [], laidByText := true, laidKinds := [.data, .data, .data], laidTests := true, laidLooks := .later }
def ClusFencesUptoCardSaid : Prop := Claim7.holds Tryz.pinned (.plain (OpenSpec.upto clusFencesSpec)) clusFencesUptoCard

/-- THE SECOND FORM's CARD OF 'tidemilllaw23.ClusStops'. -/
def clusStopsUptoCard : Claim7 := { stood := { row := clusStopsUptoRow, standIns := [], harness := (true, "5f51ac3913c41f9b237b063603dfdce5e10b25e3c8f9333316e8047602e634c7"), looks := true }, kinds := [], alts := [], laidByText := true, laidKinds := [.data, .data, .data], laidTests := true, laidLooks := .later }
def ClusStopsUptoCardSaid : Prop := Claim7.holds Tryz.pinned (.plain (OpenSpec.upto clusStopsSpec)) clusStopsUptoCard

/-- THE SECOND FORM's CARD OF 'tidemilltop.TopSums'. -/
def topSumsUptoCard : Claim7 := { stood := { row := topSumsUptoRow, standIns := [], harness := (true, "5f51ac3913c41f9b237b063603dfdce5e10b25e3c8f9333316e8047602e634c7"), looks := true }, kinds := [], alts := [], laidByText := true, laidKinds := [.data, .data, .data], laidTests := true, laidLooks := .later }
def TopSumsUptoCardSaid : Prop := Claim7.holds Tryz.pinned (.plain (OpenSpec.upto topSumsSpec)) topSumsUptoCard
end Rows
end Go.Proofs.YtceanabgcnieeaaGreatDoor
