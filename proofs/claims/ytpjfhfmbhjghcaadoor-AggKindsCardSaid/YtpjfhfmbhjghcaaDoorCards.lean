/-
  DERIVED. GIVEN WITH THE SEED: THE CARDS: each row of YtpjfhfmbhjghcaaDoorRows.lean that lists a variable, with what it lists TIED to the program's text (the seventh form; the later family's looks); each row that meets fmt, with fmt's text TOLD by the authors' own Lean function (tested against real Go, not proved from fmt's source: count such statements apart). THE CARD IS WHAT COUNTS. Prove the row's statement (the work); the ties are given (YtpjfhfmbhjghcaaDoorTie.lean); close each card by the builder's one call (the guide's Derived/Test/ToyasCard.lean, 'card_holds'). Laid BY PROGRAM, IN A SANDBOX (cutbox-door.mjs). By AI agents, Wed Nov 11 2026. No macro, syntax, notation, axiom, sorry.
-/
import Derived.Test.YtpjfhfmbhjghcaaDoorRows
import GoSem.ClaimSeven
namespace Go.Proofs.YtpjfhfmbhjghcaaDoor
namespace Rows

/-- THE TIED CARD OF 'tidemilllaw18.AggSums'. -/
def aggSumsCard : Claim7 := { stood := { row := aggSumsRow, standIns := [], harness := (true, "feaf00fc179a5ae09152c3853f179ff37be9ac8c49e8cb3ec6226cec65c6cf94"), looks := true }, kinds := [], alts := [], laidByText := true, laidKinds := [.data], laidTests := true, laidLooks := .later }
def AggSumsCardSaid : Prop := Claim7.holds Tryd.pinned (.plain (OpenSpec.ofChange aggSumsSpec)) aggSumsCard

/-- THE TIED CARD OF 'tidemilllaw18.AggKinds'. -/
def aggKindsCard : Claim7 := { stood := { row := aggKindsRow, standIns := [], harness := (true, "feaf00fc179a5ae09152c3853f179ff37be9ac8c49e8cb3ec6226cec65c6cf94"), looks := true }, kinds := [], alts := [], laidByText := true, laidKinds := [.data], laidTests := true, laidLooks := .later }
def AggKindsCardSaid : Prop := Claim7.holds Tryd.pinned (.plain (OpenSpec.ofChange aggKindsSpec)) aggKindsCard

/-- THE SECOND FORM's CARD OF 'tidemilllaw18.AggSums'. -/
def aggSumsUptoCard : Claim7 := { stood := { row := aggSumsUptoRow, standIns := [], harness := (true, "feaf00fc179a5ae09152c3853f179ff37be9ac8c49e8cb3ec6226cec65c6cf94"), looks := true }, kinds := [], alts := [], laidByText := true, laidKinds := [.data], laidTests := true, laidLooks := .later }
def AggSumsUptoCardSaid : Prop := Claim7.holds Tryd.pinned (.plain (OpenSpec.upto aggSumsSpec)) aggSumsUptoCard

/-- THE SECOND FORM's CARD OF 'tidemilllaw18.AggKinds'. -/
def aggKindsUptoCard : Claim7 := { stood := { row := aggKindsUptoRow, standIns := [], harness := (true, "feaf00fc179a5ae09152c3853f179ff37be9ac8c49e8cb3ec6226cec65c6cf94"), looks := true }, kinds := [], alts := [], laidByText := true, laidKinds := [.data], laidTests := true, laidLooks := .later }
def AggKindsUptoCardSaid : Prop := Claim7.holds Tryd.pinned (.plain (OpenSpec.upto aggKindsSpec)) aggKindsUptoCard
end Rows
end Go.Proofs.YtpjfhfmbhjghcaaDoor
