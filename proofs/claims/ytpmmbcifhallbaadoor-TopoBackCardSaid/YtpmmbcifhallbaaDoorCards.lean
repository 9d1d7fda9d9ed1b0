/-
  DERIVED. GIVEN WITH THE SEED: THE CARDS: each row of YtpmmbcifhallbaaDoorRows.lean that lists a variable, with what it lists TIED to the program's text (the seventh form; the later family's looks); each row that meets fmt, with fmt's text TOLD by the authors' own Lean function (tested against real Go, not proved from fmt's source: count such statements apart). THE CARD IS WHAT COUNTS. Prove the row's statement (the work); the ties are given (YtpmmbcifhallbaaDoorTie.lean); close each card by the builder's one call (the guide's Derived/Test/ToyasCard.lean, 'card_holds'). Laid BY PROGRAM, IN A SANDBOX (cutbox-door.mjs). By AI agents, Wed Nov 11 2026. No macro, syntax, notation, axiom, sorry.
-/
import Derived.Test.YtpmmbcifhallbaaDoorRows
import GoSem.ClaimSeven
namespace Go.Proofs.YtpmmbcifhallbaaDoor
namespace Rows

/-- THE TIED CARD OF 'tidemilllaw05.TopoChecks'. -/
def topoChecksCard : Claim7 := { stood := { row := topoChecksRow, standIns := [], harness := (true, "56233aa3a61df3f6510d7582cb026bed91d4cd966c9ad942985642e6a2480e73"), looks := false }, kinds := [], alts := [], laidByText := true, laidKinds := [.data, .data], laidTests := true, laidLooks := .later }
def TopoChecksCardSaid : Prop := Claim7.holds Tryd.pinned (.plain (OpenSpec.ofChange topoChecksSpec)) topoChecksCard

/-- THE TIED CARD OF 'tidemilllaw05.TopoBack'. -/
def topoBackCard : Claim7 := { stood := { row := topoBackRow, standIns := [], harness := (true, "56233aa3a61df3f6510d7582cb026bed91d4cd966c9ad942985642e6a2480e73"), looks := false }, kinds := [], alts := [], laidByText := true, laidKinds := [.data, .data], laidTests := true, laidLooks := .later }
def TopoBackCardSaid : Prop := Claim7.holds Tryd.pinned (.plain (OpenSpec.ofChange topoBackSpec)) topoBackCard

/-- THE TIED CARD OF 'tidemilllaw05.TopoRings'. -/
def topoRingsCard : Claim7 := { stood := { row := topoRingsRow, standIns := [], harness := (true, "56233aa3a61df3f6510d7582cb026bed91d4cd966c9ad942985642e6a2480e73"), looks := false }, kinds := [], alts := [], laidByText := true, laidKinds := [.data, .data], laidTests := true, laidLooks := .later }
def TopoRingsCardSaid : Prop := Claim7.holds Tryd.pinned (.plain (OpenSpec.ofChange topoRingsSpec)) topoRingsCard

/-- THE TIED CARD OF 'tidemilllaw05.TopoMore'. -/
def topoMoreCard : Claim7 := { stood := { row := topoMoreRow, standIns := [], harness := (true, "56233aa3a61df3f6510d7582cb026bed91d4cd966c9ad942985642e6a2480e73"), looks := false }, kinds := [], alts := [], laidByText := true, laidKinds := [.data, .data], laidTests := true, laidLooks := .later }
def TopoMoreCardSaid : Prop := Claim7.holds Tryd.pinned (.plain (OpenSpec.ofChange topoMoreSpec)) topoMoreCard

/-- THE TIED CARD OF 'tidemilllaw05.TopoSinks'. -/
def topoSinksCard : Claim7 := { stood := { row := topoSinksRow, standIns := [], harness := (true, "56233aa3a61df3f6510d7582cb026bed91d4cd966c9ad942985642e6a2480e73"), looks := false }, kinds := [], alts := [], laidByText := true, laidKinds := [.data, .data], laidTests := true, laidLooks := .later }
def TopoSinksCardSaid : Prop := Claim7.holds Tryd.pinned (.plain (OpenSpec.ofChange topoSinksSpec)) topoSinksCard

/-- THE TIED CARD OF 'tidemilllaw16.CutParts'. -/
def cutPartsCard : Claim7 := { stood := { row := cutPartsRow, standIns := [], harness := (true, "56233aa3a61df3f6510d7582cb026bed91d4cd966c9ad942985642e6a2480e73"), looks := false }, kinds := [], alts := [], laidByText := true, laidKinds := [.data, .data], laidTests := true, laidLooks := .later }
def CutPartsCardSaid : Prop := Claim7.holds Tryd.pinned (.plain (OpenSpec.ofChange cutPartsSpec)) cutPartsCard

/-- THE TIED CARD OF 'tidemilllaw16.CutLogs'. -/
def cutLogsCard : Claim7 := { stood := { row := cutLogsRow, standIns := [], harness := (true, "56233aa3a61df3f6510d7582cb026bed91d4cd966c9ad942985642e6a2480e73"), looks := false }, kinds := [], alts := [], laidByText := true, laidKinds := [.data, .data], laidTests := true, laidLooks := .later }
def CutLogsCardSaid : Prop := Claim7.holds Tryd.pinned (.plain (OpenSpec.ofChange cutLogsSpec)) cutLogsCard

/-- THE TIED CARD OF 'tidemilllaw16.CutApart'. -/
def cutApartCard : Claim7 := { stood := { row := cutApartRow, standIns := [], harness := (true, "56233aa3a61df3f6510d7582cb026bed91d4cd966c9ad942985642e6a2480e73"), looks := false }, kinds := [], alts := [], laidByText := true, laidKinds := [.data, .data], laidTests := true, laidLooks := .later }
def CutApartCardSaid : Prop := Claim7.holds Tryd.pinned (.plain (OpenSpec.ofChange cutApartSpec)) cutApartCard

/-- THE TIED CARD OF 'tidemilllaw16.CutNumbers'. -/
def cutNumbersCard : Claim7 := { stood := { row := cutNumbersRow, standIns := [], harness := (true, "56233aa3a61df3f6510d7582cb026bed91d4cd966c9ad942985642e6a2480e73"), looks := false }, kinds := [], alts := [], laidByText := true, laidKinds := [.data, .data], laidTests := true, laidLooks := .later }
def CutNumbersCardSaid : Prop := Claim7.holds Tryd.pinned (.plain (OpenSpec.ofChange cutNumbersSpec)) cutNumbersCard

/-- THE TIED CARD OF 'tidemilllaw16.CutKeys'. -/
def cutKeysCard : Claim7 := { stood := { row := cutKeysRow, standIns := [], harness := (true, "56233aa3a61df3f6510d7582cb026bed91d4cd966c9ad942985642e6a2480e73"), looks := false }, kinds := [], alts := [], laidByText := true, laidKinds := [.data, .data], laidTests := true, laidLooks := .later }
def CutKeysCardSaid : Prop := Claim7.holds Tryd.pinned (.plain (OpenSpec.ofChange cutKeysSpec)) cutKeysCard

/-- THE TIED CARD OF 'tidemilllaw16.CutSources'. -/
def cutSourcesCard : Claim7 := { stood := { row := cutSourcesRow, standIns := [], harness := (true, "56233aa3a61df3f6510d7582cb026bed91d4cd966c9ad942985642e6a2480e73"), looks := false }, kinds := [], alts := [], laidByText := true, laidKinds := [.data, .data], laidTests := true, laidLooks := .later }
def CutSourcesCardSaid : Prop := Claim7.holds Tryd.pinned (.plain (OpenSpec.ofChange cutSourcesSpec)) cutSourcesCard

/-- THE SECOND FORM's CARD OF 'tidemilllaw05.TopoChecks'. -/
def topoChecksUptoCard : Claim7 := { stood := { row := topoChecksUptoRow, standIns := [], harness := (true, "56233aa3a61df3f6510d7582cb026bed91d4cd966c9ad942985642e6a2480e73"), looks := false }, kinds := [], alts := [], laidByText := true, laidKinds := [.data, .data], laidTests := true, laidLooks := .later }
def TopoChecksUptoCardSaid : Prop := Claim7.holds Tryd.pinned (.plain (OpenSpec.upto topoChecksSpec)) topoChecksUptoCard

/-- THE SECOND FORM's CARD OF 'tidemilllaw05.TopoBack'. -/
def topoBackUptoCard : Claim7 := { stood := { row := topoBackUptoRow, standIns := [], harness := (true, "56233aa3a61df3f6510d7582cb026bed91d4cd966c9ad942985642e6a2480e73"), looks := false }, kinds := [], alts := [], laidByText := true, laidKinds := [.data, .data], laidTests := true, laidLooks := .later }
def TopoBackUptoCardSaid : Prop := Claim7.holds Tryd.pinned (.plain (OpenSpec.upto topoBackSpec)) topoBackUptoCard

/-- THE SECOND FORM's CARD OF 'tidemilllaw05.TopoRings'. -/
def topoRingsUptoCard : Claim7 := { stood := { row := topoRingsUptoRow, standIns := [], harness := (true, "56233aa3a61df3f6510d7582cb026bed91d4cd966c9ad942985642e6a2480e73"), looks := false }, kinds := [], alts := [], laidByText := true, laidKinds := [.data, .data], laidTests := true, laidLooks := .later }
def TopoRingsUptoCardSaid : Prop := Claim7.holds Tryd.pinned (.plain (OpenSpec.upto topoRingsSpec)) topoRingsUptoCard

/-- THE SECOND FORM's CARD OF 'tidemilllaw05.TopoMore'. -/
def topoMoreUptoCard : Claim7 := { stood := { row := topoMoreUptoRow, standIns := [], harness := (true, "56233aa3a61df3f6510d7582cb026bed91d4cd966c9ad942985642e6a2480e73"), looks := false }, kinds := [], alts := [], laidByText := true, laidKinds := [.data, .data], laidTests := true, laidLooks := .later }
def TopoMoreUptoCardSaid : Prop := Claim7.holds Tryd.pinned (.plain (OpenSpec.upto topoMoreSpec)) topoMoreUptoCard

/-- THE SECOND FORM's CARD OF 'tidemilllaw05.TopoSinks'. -/
def topoSinksUptoCard : Claim7 := { stood := { row := topoSinksUptoRow, standIns := [], harness := (true, "56233aa3a61df3f6510d7582cb026bed91d4cd966c9ad942985642e6a2480e73"), looks := false }, kinds := [], alts := [], laidByText := true, laidKinds := [.data, .data], laidTests := true, laidLooks := .later }
def TopoSinksUptoCardSaid : Prop := Claim7.holds Tryd.pinned (.plain (OpenSpec.upto topoSinksSpec)) topoSinksUptoCard

/-- THE SECOND FORM's CARD OF 'tidemilllaw16.CutParts'. -/
def cutPartsUptoCard : Claim7 := { stood := { row := cutPartsUptoRow, standIns := [], harness := (true, "56233aa3a61df3f6510d7582cb026bed91d4cd966c9ad942985642e6a2480e73"), looks := false }, kinds := [], alts := [], laidByText := true, laidKinds := [.data, .data], laidTests := true, laidLooks := .later }
def CutPartsUptoCardSaid : Prop := Claim7.holds Tryd.pinned (.plain (OpenSpec.upto cutPartsSpec)) cutPartsUptoCard

/-- THE SECOND FORM's CARD OF 'tidemilllaw16.CutLogs'. -/
def cutLogsUptoCard : Claim7 := { stood := { row := cutLogsUptoRow, standIns := [], harness := (true, "56233aa3a61df3f6510d7582cb026bed91d4cd966c9ad942985642e6a2480e73"), looks := false }, kinds := [], alts := [], laidByText := true, laidKinds := [.data, .data], laidTests := true, laidLooks := .later }
def CutLogsUptoCardSaid : Prop := Claim7.holds Tryd.pinned (.plain (OpenSpec.upto cutLogsSpec)) cutLogsUptoCard

/-- THE SECOND FORM's CARD OF 'tidemilllaw16.CutApart'. -/
def cutApartUptoCard : Claim7 := { stood := { row := cutApartUptoRow, standIns := [], harness := (true, "56233aa3a61df3f6510d7582cb026bed91d4cd966c9ad942985642e6a2480e73"), looks := false }, kinds := [], alts := [], laidByText := true, laidKinds := [.data, .data], laidTests := true, laidLooks := .later }
def CutApartUptoCardSaid : Prop := Claim7.holds Tryd.pinned (.plain (OpenSpec.upto cutApartSpec)) cutApartUptoCard

/-- THE SECOND FORM's CARD OF 'tidemilllaw16.CutNumbers'. -/
def cutNumbersUptoCard : Claim7 := { stood := { row := cutNumbersUptoRow, standIns := [], harness := (true, "56233aa3a61df3f6510d7582cb026bed91d4cd966c9ad942985642e6a2480e73"), looks := false }, kinds := [], alts := [], laidByText := true, laidKinds := [.data, .data], laidTests := true, laidLooks := .later }
def CutNumbersUptoCardSaid : Prop := Claim7.holds Tryd.pinned (.plain (OpenSpec.upto cutNumbersSpec)) cutNumbersUptoCard

/-- THE SECOND FORM's CARD OF 'tidemilllaw16.CutKeys'. -/
def cutKeysUptoCard : Claim7 := { stood := { row := cutKeysUptoRow, standIns := [], harness := (true, "56233aa3a61df3f6510d7582cb026bed91d4cd966c9ad942985642e6a2480e73"), looks := false }, kinds := [], alts := [], laidByText := true, laidKinds := [.data, .data], laidTests := true, laidLooks := .later }
def CutKeysUptoCardSaid : Prop := Claim7.holds Tryd.pinned (.plain (OpenSpec.upto cutKeysSpec)) cutKeysUptoCard

/-- THE SECOND FORM's CARD OF 'tidemilllaw16.CutSources'. -/
def cutSourcesUptoCard : Claim7 := { stood := { row := cutSourcesUptoRow, standIns := [], harness := (true, "56233aa3a61df3f6510d7582cb026bed91d4cd966c9ad942985642e6a2480e73"), looks := false }, kinds := [], alts := [], laidByText := true, laidKinds := [.data, .data], laidTests := true, laidLooks := .later }
def CutSourcesUptoCardSaid : Prop := Claim7.holds Tryd.pinned (.plain (OpenSpec.upto cutSourcesSpec)) cutSourcesUptoCard
end Rows
end Go.Proofs.YtpmmbcifhallbaaDoor
