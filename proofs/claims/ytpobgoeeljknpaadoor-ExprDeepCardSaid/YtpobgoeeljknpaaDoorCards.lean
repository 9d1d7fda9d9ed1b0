/-
  DERIVED. GIVEN WITH THE SEED: THE CARDS: each row of YtpobgoeeljknpaaDoorRows.lean that lists a variable, with what it lists TIED to the program's text (the seventh form; the later family's looks); each row that meets fmt, with fmt's text TOLD by the authors' own Lean function (tested against real Go, not proved from fmt's source: count such statements apart). THE CARD IS WHAT COUNTS. Prove the row's statement (the work); the ties are given (YtpobgoeeljknpaaDoorTie.lean); close each card by the builder's one call (the guide's Derived/Test/ToyasCard.lean, 'card_holds'). Laid BY PROGRAM, IN A SANDBOX (cutbox-door.mjs). By AI agents, Wed Nov 11 2026. No macro, syntax, notation, axiom, sorry.
-/
import Derived.Test.YtpobgoeeljknpaaDoorRows
import GoSem.ClaimSeven
namespace Go.Proofs.YtpobgoeeljknpaaDoor
namespace Rows

/-- THE TIED CARD OF 'tidemilllaw04.ExprIfs'. -/
def exprIfsCard : Claim7 := { stood := { row := exprIfsRow, standIns := [], harness := (true, "3733fd40dd94f7ffb3c470ddab1238b3a4c9545535d235cca398923ea8843819"), looks := false }, kinds := [], alts := [], laidByText := true, laidKinds := [.data], laidTests := true, laidLooks := .later }
def ExprIfsCardSaid : Prop := Claim7.holds Tryd.pinned (.plain (OpenSpec.ofChange exprIfsSpec)) exprIfsCard

/-- THE TIED CARD OF 'tidemilllaw04.ExprParts'. -/
def exprPartsCard : Claim7 := { stood := { row := exprPartsRow, standIns := [], harness := (true, "3733fd40dd94f7ffb3c470ddab1238b3a4c9545535d235cca398923ea8843819"), looks := false }, kinds := [], alts := [], laidByText := true, laidKinds := [.data], laidTests := true, laidLooks := .later }
def ExprPartsCardSaid : Prop := Claim7.holds Tryd.pinned (.plain (OpenSpec.ofChange exprPartsSpec)) exprPartsCard

/-- THE TIED CARD OF 'tidemilllaw04.ExprTotal'. -/
def exprTotalCard : Claim7 := { stood := { row := exprTotalRow, standIns := [], harness := (true, "3733fd40dd94f7ffb3c470ddab1238b3a4c9545535d235cca398923ea8843819"), looks := false }, kinds := [], alts := [], laidByText := true, laidKinds := [.data], laidTests := true, laidLooks := .later }
def ExprTotalCardSaid : Prop := Claim7.holds Tryd.pinned (.plain (OpenSpec.ofChange exprTotalSpec)) exprTotalCard

/-- THE TIED CARD OF 'tidemilllaw04.ExprDeep'. -/
def exprDeepCard : Claim7 := { stood := { row := exprDeepRow, standIns := [], harness := (true, "3733fd40dd94f7ffb3c470ddab1238b3a4c9545535d235cca398923ea8843819"), looks := false }, kinds := [], alts := [], laidByText := true, laidKinds := [.data], laidTests := true, laidLooks := .later }
def ExprDeepCardSaid : Prop := Claim7.holds Tryd.pinned (.plain (OpenSpec.ofChange exprDeepSpec)) exprDeepCard

/-- THE TIED CARD OF 'tidemilllaw04.ExprValues'. -/
def exprValuesCard : Claim7 := { stood := { row := exprValuesRow, standIns := [], harness := (true, "3733fd40dd94f7ffb3c470ddab1238b3a4c9545535d235cca398923ea8843819"), looks := false }, kinds := [], alts := [], laidByText := true, laidKinds := [.data], laidTests := true, laidLooks := .later }
def ExprValuesCardSaid : Prop := Claim7.holds Tryd.pinned (.plain (OpenSpec.ofChange exprValuesSpec)) exprValuesCard

/-- THE TIED CARD OF 'tidemilllaw04.ExprBytes'. -/
def exprBytesCard : Claim7 := { stood := { row := exprBytesRow, standIns := [], harness := (true, "3733fd40dd94f7ffb3c470ddab1238b3a4c9545535d235cca398923ea8843819"), looks := false }, kinds := [], alts := [], laidByText := true, laidKinds := [.data], laidTests := true, laidLooks := .later }
def ExprBytesCardSaid : Prop := Claim7.holds Tryd.pinned (.plain (OpenSpec.ofChange exprBytesSpec)) exprBytesCard

/-- THE TIED CARD OF 'tidemilllaw04.ExprBack'. -/
def exprBackCard : Claim7 := { stood := { row := exprBackRow, standIns := [], harness := (true, "3733fd40dd94f7ffb3c470ddab1238b3a4c9545535d235cca398923ea8843819"), looks := false }, kinds := [], alts := [], laidByText := true, laidKinds := [.data], laidTests := true, laidLooks := .later }
def ExprBackCardSaid : Prop := Claim7.holds Tryd.pinned (.plain (OpenSpec.ofChange exprBackSpec)) exprBackCard

/-- THE TIED CARD OF 'tidemilllaw17.FlowFlats'. -/
def flowFlatsCard : Claim7 := { stood := { row := flowFlatsRow, standIns := [], harness := (true, "3733fd40dd94f7ffb3c470ddab1238b3a4c9545535d235cca398923ea8843819"), looks := false }, kinds := [], alts := [], laidByText := true, laidKinds := [.data], laidTests := true, laidLooks := .later }
def FlowFlatsCardSaid : Prop := Claim7.holds Tryd.pinned (.plain (OpenSpec.ofChange flowFlatsSpec)) flowFlatsCard

/-- THE TIED CARD OF 'tidemilllaw17.FlowKeeps'. -/
def flowKeepsCard : Claim7 := { stood := { row := flowKeepsRow, standIns := [], harness := (true, "3733fd40dd94f7ffb3c470ddab1238b3a4c9545535d235cca398923ea8843819"), looks := false }, kinds := [], alts := [], laidByText := true, laidKinds := [.data], laidTests := true, laidLooks := .later }
def FlowKeepsCardSaid : Prop := Claim7.holds Tryd.pinned (.plain (OpenSpec.ofChange flowKeepsSpec)) flowKeepsCard

/-- THE TIED CARD OF 'tidemilllaw17.FlowMaps'. -/
def flowMapsCard : Claim7 := { stood := { row := flowMapsRow, standIns := [], harness := (true, "3733fd40dd94f7ffb3c470ddab1238b3a4c9545535d235cca398923ea8843819"), looks := false }, kinds := [], alts := [], laidByText := true, laidKinds := [.data], laidTests := true, laidLooks := .later }
def FlowMapsCardSaid : Prop := Claim7.holds Tryd.pinned (.plain (OpenSpec.ofChange flowMapsSpec)) flowMapsCard

/-- THE TIED CARD OF 'tidemilllaw17.FlowSplits'. -/
def flowSplitsCard : Claim7 := { stood := { row := flowSplitsRow, standIns := [], harness := (true, "3733fd40dd94f7ffb3c470ddab1238b3a4c9545535d235cca398923ea8843819"), looks := false }, kinds := [], alts := [], laidByText := true, laidKinds := [.data], laidTests := true, laidLooks := .later }
def FlowSplitsCardSaid : Prop := Claim7.holds Tryd.pinned (.plain (OpenSpec.ofChange flowSplitsSpec)) flowSplitsCard

/-- THE TIED CARD OF 'tidemilllaw17.FlowApplies'. -/
def flowAppliesCard : Claim7 := { stood := { row := flowAppliesRow, standIns := [], harness := (true, "3733fd40dd94f7ffb3c470ddab1238b3a4c9545535d235cca398923ea8843819"), looks := false }, kinds := [], alts := [], laidByText := true, laidKinds := [.data], laidTests := true, laidLooks := .later }
def FlowAppliesCardSaid : Prop := Claim7.holds Tryd.pinned (.plain (OpenSpec.ofChange flowAppliesSpec)) flowAppliesCard

/-- THE SECOND FORM's CARD OF 'tidemilllaw04.ExprIfs'. -/
def exprIfsUptoCard : Claim7 := { stood := { row := exprIfsUptoRow, standIns := [], harness := (true, "3733fd40dd94f7ffb3c470ddab1238b3a4c9545535d235cca398923ea8843819"), looks := false }, kinds := [], alts := [], laidByText := true, laidKinds := [.data], laidTests := true, laidLooks := .later }
def ExprIfsUptoCardSaid : Prop := Claim7.holds Tryd.pinned (.plain (OpenSpec.upto exprIfsSpec)) exprIfsUptoCard

/-- THE SECOND FORM's CARD OF 'tidemilllaw04.ExprParts'. -/
def exprPartsUptoCard : Claim7 := { stood := { row := exprPartsUptoRow, standIns := [], harness := (true, "3733fd40dd94f7ffb3c470ddab1238b3a4c9545535d235cca398923ea8843819"), looks := false }, kinds := [], alts := [], laidByText := true, laidKinds := [.data], laidTests := true, laidLooks := .later }
def ExprPartsUptoCardSaid : Prop := Claim7.holds Tryd.pinned (.plain (OpenSpec.upto exprPartsSpec)) exprPartsUptoCard

/-- THE SECOND FORM's CARD OF 'tidemilllaw04.ExprTotal'. -/
def exprTotalUptoCard : Claim7 := { stood := { row := exprTotalUptoRow, standIns := [], harness := (true, "3733fd40dd94f7ffb3c470ddab1238b3a4c9545535d235cca398923ea8843819"), looks := false }, kinds := [], alts := [], laidByText := true, laidKinds := [.data], laidTests := true, laidLooks := .later }
def ExprTotalUptoCardSaid : Prop := Claim7.holds Tryd.pinned (.plain (OpenSpec.upto exprTotalSpec)) exprTotalUptoCard

/-- THE SECOND FORM's CARD OF 'tidemilllaw04.ExprDeep'. -/
def exprDeepUptoCard : Claim7 := { stood := { row := exprDeepUptoRow, standIns := [], harness := (true, "3733fd40dd94f7ffb3c470ddab1238b3a4c9545535d235cca398923ea8843819"), looks := false }, kinds := [], alts := [], laidByText := true, laidKinds := [.data], laidTests := true, laidLooks := .later }
def ExprDeepUptoCardSaid : Prop := Claim7.holds Tryd.pinned (.plain (OpenSpec.upto exprDeepSpec)) exprDeepUptoCard

/-- THE SECOND FORM's CARD OF 'tidemilllaw04.ExprValues'. -/
def exprValuesUptoCard : Claim7 := { stood := { row := exprValuesUptoRow, standIns := [], harness := (true, "3733fd40dd94f7ffb3c470ddab1238b3a4c9545535d235cca398923ea8843819"), looks := false }, kinds := [], alts := [], laidByText := true, laidKinds := [.data], laidTests := true, laidLooks := .later }
def ExprValuesUptoCardSaid : Prop := Claim7.holds Tryd.pinned (.plain (OpenSpec.upto exprValuesSpec)) exprValuesUptoCard

/-- THE SECOND FORM's CARD OF 'tidemilllaw04.ExprBytes'. -/
def exprBytesUptoCard : Claim7 := { stood := { row := exprBytesUptoRow, standIns := [], harness := (true, "3733fd40dd94f7ffb3c470ddab1238b3a4c9545535d235cca398923ea8843819"), looks := false }, kinds := [], alts := [], laidByText := true, laidKinds := [.data], laidTests := true, laidLooks := .later }
def ExprBytesUptoCardSaid : Prop := Claim7.holds Tryd.pinned (.plain (OpenSpec.upto exprBytesSpec)) exprBytesUptoCard

/-- THE SECOND FORM's CARD OF 'tidemilllaw04.ExprBack'. -/
def exprBackUptoCard : Claim7 := { stood := { row := exprBackUptoRow, standIns := [], harness := (true, "3733fd40dd94f7ffb3c470ddab1238b3a4c9545535d235cca398923ea8843819"), looks := false }, kinds := [], alts := [], laidByText := true, laidKinds := [.data], laidTests := true, laidLooks := .later }
def ExprBackUptoCardSaid : Prop := Claim7.holds Tryd.pinned (.plain (OpenSpec.upto exprBackSpec)) exprBackUptoCard

/-- THE SECOND FORM's CARD OF 'tidemilllaw17.FlowFlats'. -/
def flowFlatsUptoCard : Claim7 := { stood := { row := flowFlatsUptoRow, standIns := [], harness := (true, "3733fd40dd94f7ffb3c470ddab1238b3a4c9545535d235cca398923ea8843819"), looks := false }, kinds := [], alts := [], laidByText := true, laidKinds := [.data], laidTests := true, laidLooks := .later }
def FlowFlatsUptoCardSaid : Prop := Claim7.holds Tryd.pinned (.plain (OpenSpec.upto flowFlatsSpec)) flowFlatsUptoCard

/-- THE SECOND FORM's CARD OF 'tidemilllaw17.FlowKeeps'. -/
def flowKeepsUptoCard : Claim7 := { stood := { row := flowKeepsUptoRow, standIns := [], harness := (true, "3733fd40dd94f7ffb3c470ddab1238b3a4c9545535d235cca398923ea8843819"), looks := false }, kinds := [], alts := [], laidByText := true, laidKinds := [.data], laidTests := true, laidLooks := .later }
def FlowKeepsUptoCardSaid : Prop := Claim7.holds Tryd.pinned (.plain (OpenSpec.upto flowKeepsSpec)) flowKeepsUptoCard

/-- THE SECOND FORM's CARD OF 'tidemilllaw17.FlowMaps'. -/
def flowMapsUptoCard : Claim7 := { stood := { row := flowMapsUptoRow, standIns := [], harness := (true, "3733fd40dd94f7ffb3c470ddab1238b3a4c9545535d235cca398923ea8843819"), looks := false }, kinds := [], alts := [], laidByText := true, laidKinds := [.data], laidTests := true, laidLooks := .later }
def FlowMapsUptoCardSaid : Prop := Claim7.holds Tryd.pinned (.plain (OpenSpec.upto flowMapsSpec)) flowMapsUptoCard

/-- THE SECOND FORM's CARD OF 'tidemilllaw17.FlowSplits'. -/
def flowSplitsUptoCard : Claim7 := { stood := { row := flowSplitsUptoRow, standIns := [], harness := (true, "3733fd40dd94f7ffb3c470ddab1238b3a4c9545535d235cca398923ea8843819"), looks := false }, kinds := [], alts := [], laidByText := true, laidKinds := [.data], laidTests := true, laidLooks := .later }
def FlowSplitsUptoCardSaid : Prop := Claim7.holds Tryd.pinned (.plain (OpenSpec.upto flowSplitsSpec)) flowSplitsUptoCard

/-- THE SECOND FORM's CARD OF 'tidemilllaw17.FlowApplies'. -/
def flowAppliesUptoCard : Claim7 := { stood := { row := flowAppliesUptoRow, standIns := [], harness := (true, "3733fd40dd94f7ffb3c470ddab1238b3a4c9545535d235cca398923ea8843819"), looks := false }, kinds := [], alts := [], laidByText := true, laidKinds := [.data], laidTests := true, laidLooks := .later }
def FlowAppliesUptoCardSaid : Prop := Claim7.holds Tryd.pinned (.plain (OpenSpec.upto flowAppliesSpec)) flowAppliesUptoCard
end Rows
end Go.Proofs.YtpobgoeeljknpaaDoor
