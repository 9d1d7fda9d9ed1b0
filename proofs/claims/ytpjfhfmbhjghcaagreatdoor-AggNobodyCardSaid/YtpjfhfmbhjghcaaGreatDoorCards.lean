/-
  DERIVED. GIVEN WITH THE SEED: THE CARDS: each row of YtpjfhfmbhjghcaaGreatDoorRows.lean that lists a variable, with what it lists TIED to the program's text (the seventh form; the later family's looks); each row that meets fmt, with fmt's text TOLD by the authors' own Lean function (tested against real Go, not proved from fmt's source: count such statements apart). THE CARD IS WHAT COUNTS. Prove the row's statement (the work); the ties are given (YtpjfhfmbhjghcaaGreatDoorTie.lean); close each card by the builder's one call (the guide's Derived/Test/ToyasCard.lean, 'card_holds'). Laid BY PROGRAM, IN A SANDBOX (cutbox-door.mjs). By AI agents, Wed Nov 11 2026. No macro, syntax, notation, axiom, sorry.
-/
import Derived.Test.YtpjfhfmbhjghcaaGreatDoorRows
import GoSem.ClaimSeven
namespace Go.Proofs.YtpjfhfmbhjghcaaGreatDoor
namespace Rows

/-- THE TIED CARD OF 'tidemilllaw18.AggAgain'. -/
def aggAgainCard : Claim7 := { stood := { row := aggAgainRow, standIns := [], harness := (true, "733b10d9a96162bad6c363b84a23fd52c3b798b67470ae1cb890c1f4d5f51fbc"), looks := true }, kinds := [], alts := [], laidByText := true, laidKinds := [.data], laidTests := true, laidLooks := .later }
def AggAgainCardSaid : Prop := Claim7.holds Tryz.pinned (.plain (OpenSpec.ofChange aggAgainSpec)) aggAgainCard

/-- THE TIED CARD OF 'tidemilllaw18.AggEnds'. -/
def aggEndsCard : Claim7 := { stood := { row := aggEndsRow, standIns := [], harness := (true, "733b10d9a96162bad6c363b84a23fd52c3b798b67470ae1cb890c1f4d5f51fbc"), looks := true }, kinds := [], alts := [], laidByText := true, laidKinds := [.data], laidTests := true, laidLooks := .later }
def AggEndsCardSaid : Prop := Claim7.holds Tryz.pinned (.plain (OpenSpec.ofChange aggEndsSpec)) aggEndsCard

/-- THE TIED CARD OF 'tidemilllaw18.AggFails'. -/
def aggFailsCard : Claim7 := { stood := { row := aggFailsRow, standIns := [], harness := (true, "733b10d9a96162bad6c363b84a23fd52c3b798b67470ae1cb890c1f4d5f51fbc"), looks := true }, kinds := [], alts := [], laidByText := true, laidKinds := [.data], laidTests := true, laidLooks := .later }
def AggFailsCardSaid : Prop := Claim7.holds Tryz.pinned (.plain (OpenSpec.ofChange aggFailsSpec)) aggFailsCard

/-- THE TIED CARD OF 'tidemilllaw18.AggNobody'. -/
def aggNobodyCard : Claim7 := { stood := { row := aggNobodyRow, standIns := [], harness := (true, "733b10d9a96162bad6c363b84a23fd52c3b798b67470ae1cb890c1f4d5f51fbc"), looks := true }, kinds := [], alts := [], laidByText := true, laidKinds := [.data], laidTests := true, laidLooks := .later }
def AggNobodyCardSaid : Prop := Claim7.holds Tryz.pinned (.plain (OpenSpec.ofChange aggNobodySpec)) aggNobodyCard

/-- THE TIED CARD OF 'tidemilllaw20.ModelAgain'. -/
def modelAgainCard : Claim7 := { stood := { row := modelAgainRow, standIns := [], harness := (true, "733b10d9a96162bad6c363b84a23fd52c3b798b67470ae1cb890c1f4d5f51fbc"), looks := true }, kinds := [], alts := [], laidByText := true, laidKinds := [.data, .data], laidTests := true, laidLooks := .later }
def ModelAgainCardSaid : Prop := Claim7.holds Tryz.pinned (.plain (OpenSpec.ofChange modelAgainSpec)) modelAgainCard

/-- THE TIED CARD OF 'tidemilllaw20.ModelSame'. -/
def modelSameCard : Claim7 := { stood := { row := modelSameRow, standIns := [], harness := (true, "733b10d9a96162bad6c363b84a23fd52c3b798b67470ae1cb890c1f4d5f51fbc"), looks := true }, kinds := [], alts := [], laidByText := true, laidKinds := [.data, .data], laidTests := true, laidLooks := .later }
def ModelSameCardSaid : Prop := Claim7.holds Tryz.pinned (.plain (OpenSpec.ofChange modelSameSpec)) modelSameCard

/-- THE TIED CARD OF 'tidemilllaw20.ModelOuts'. -/
def modelOutsCard : Claim7 := { stood := { row := modelOutsRow, standIns := [], harness := (true, "733b10d9a96162bad6c363b84a23fd52c3b798b67470ae1cb890c1f4d5f51fbc"), looks := true }, kinds := [], alts := [], laidByText := true, laidKinds := [.data, .data], laidTests := true, laidLooks := .later }
def ModelOutsCardSaid : Prop := Claim7.holds Tryz.pinned (.plain (OpenSpec.ofChange modelOutsSpec)) modelOutsCard

/-- THE TIED CARD OF 'tidemilllaw20.ModelNobody'. -/
def modelNobodyCard : Claim7 := { stood := { row := modelNobodyRow, standIns := [], harness := (true, "733b10d9a96162bad6c363b84a23fd52c3b798b67470ae1cb890c1f4d5f51fbc"), looks := true }, kinds := [], alts := [], laidByText := true, laidKinds := [.data, .data], laidTests := true, laidLooks := .later }
def ModelNobodyCardSaid : Prop := Claim7.holds Tryz.pinned (.plain (OpenSpec.ofChange modelNobodySpec)) modelNobodyCard

/-- THE TIED CARD OF 'tidemilllaw20.ModelChains'. -/
def modelChainsCard : Claim7 := { stood := { row := modelChainsRow, standIns := [], harness := (true, "733b10d9a96162bad6c363b84a23fd52c3b798b67470ae1cb890c1f4d5f51fbc"), looks := true }, kinds := [], alts := [], laidByText := true, laidKinds := [.data, .data], laidTests := true, laidLooks := .later }
def ModelChainsCardSaid : Prop := Claim7.holds Tryz.pinned (.plain (OpenSpec.ofChange modelChainsSpec)) modelChainsCard

/-- THE SECOND FORM's CARD OF 'tidemilllaw18.AggAgain'. -/
def aggAgainUptoCard : Claim7 := { stood := { row := aggAgainUptoRow, standIns := [], harness := (true, "733b10d9a96162bad6c363b84a23fd52c3b798b67470ae1cb890c1f4d5f51fbc"), looks := true }, kinds := [], alts := [], laidByText := true, laidKinds := [.data], laidTests := true, laidLooks := .later }
def AggAgainUptoCardSaid : Prop := Claim7.holds Tryz.pinned (.plain (OpenSpec.upto aggAgainSpec)) aggAgainUptoCard

/-- THE SECOND FORM's CARD OF 'tidemilllaw18.AggEnds'. -/
def aggEndsUptoCard : Claim7 := { stood := { row := aggEndsUptoRow, standIns := [], harness := (true, "733b10d9a96162bad6c363b84a23fd52c3b798b67470ae1cb890c1f4d5f51fbc"), looks := true }, kinds := [], alts := [], laidByText := true, laidKinds := [.data], laidTests := true, laidLooks := .later }
def AggEndsUptoCardSaid : Prop := Claim7.holds Tryz.pinned (.plain (OpenSpec.upto aggEndsSpec)) aggEndsUptoCard

/-- THE SECOND FORM's CARD OF 'tidemilllaw18.AggFails'. -/
def aggFailsUptoCard : Claim7 := { stood := { row := aggFailsUptoRow, standIns := [], harness := (true, "733b10d9a96162bad6c363b84a23fd52c3b798b67470ae1cb890c1f4d5f51fbc"), looks := true }, kinds := [], alts := [], laidByText := true, laidKinds := [.data], laidTests := true, laidLooks := .later }
def AggFailsUptoCardSaid : Prop := Claim7.holds Tryz.pinned (.plain (OpenSpec.upto aggFailsSpec)) aggFailsUptoCard

/-- THE SECOND FORM's CARD OF 'tidemilllaw18.AggNobody'. -/
def aggNobodyUptoCard : Claim7 := { stood := { row := aggNobodyUptoRow, standIns := [], harness := (true, "733b10d9a96162bad6c363b84a23fd52c3b798b67470ae1cb890c1f4d5f51fbc"), looks := true }, kinds := [], alts := [], laidByText := true, laidKinds := [.data], laidTests := true, laidLooks := .later }
def AggNobodyUptoCardSaid : Prop := Claim7.holds Tryz.pinned (.plain (OpenSpec.upto aggNobodySpec)) aggNobodyUptoCard

/-- THE SECOND FORM's CARD OF 'tidemilllaw20.ModelAgain'. -/
def modelAgainUptoCard : Claim7 := { stood := { row := modelAgainUptoRow, standIns := [], harness := (true, "733b10d9a96162bad6c363b84a23fd52c3b798b67470ae1cb890c1f4d5f51fbc"), looks := true }, kinds := [], alts := [], laidByText := true, laidKinds := [.data, .data], laidTests := true, laidLooks := .later }
def ModelAgainUptoCardSaid : Prop := Claim7.holds Tryz.pinned (.plain (OpenSpec.upto modelAgainSpec)) modelAgainUptoCard

/-- THE SECOND FORM's CARD OF 'tidemilllaw20.ModelSame'. -/
def modelSameUptoCard : Claim7 := { stood := { row := modelSameUptoRow, standIns := [], harness := (true, "733b10d9a96162bad6c363b84a23fd52c3b798b67470ae1cb890c1f4d5f51fbc"), looks := true }, kinds := [], alts := [], laidByText := true, laidKinds := [.data, .data], laidTests := true, laidLooks := .later }
def ModelSameUptoCardSaid : Prop := Claim7.holds Tryz.pinned (.plain (OpenSpec.upto modelSameSpec)) modelSameUptoCard

/-- THE SECOND FORM's CARD OF 'tidemilllaw20.ModelOuts'. -/
def modelOutsUptoCard : Claim7 := { stood := { row := modelOutsUptoRow, standIns := [], harness := (true, "733b10d9a96162bad6c363b84a23fd52c3b798b67470ae1cb890c1f4d5f51fbc"), looks := true }, kinds := [], alts := [], laidByText := true, laidKinds := [.data, .data], laidTests := true, laidLooks := .later }
def ModelOutsUptoCardSaid : Prop := Claim7.holds Tryz.pinned (.plain (OpenSpec.upto modelOutsSpec)) modelOutsUptoCard

/-- THE SECOND FORM's CARD OF 'tidemilllaw20.ModelNobody'. -/
def modelNobodyUptoCard : Claim7 := { stood := { row := modelNobodyUptoRow, standIns := [], harness := (true, "733b10d9a96162bad6c363b84a23fd52c3b798b67470ae1cb890c1f4d5f51fbc"), looks := true }, kinds := [], alts := [], laidByText := true, laidKinds := [.data, .data], laidTests := true, laidLooks := .later }
def ModelNobodyUptoCardSaid : Prop := Claim7.holds Tryz.pinned (.plain (OpenSpec.upto modelNobodySpec)) modelNobodyUptoCard

/-- THE SECOND FORM's CARD OF 'tidemilllaw20.ModelChains'. -/
def modelChainsUptoCard : Claim7 := { stood := { row := modelChainsUptoRow, standIns := [], harness := (true, "733b10d9a96162bad6c363b84a23fd52c3b798b67470ae1cb890c1f4d5f51fbc"), looks := true }, kinds := [], alts := [], laidByText := true, laidKinds := [.data, .data], laidTests := true, laidLooks := .later }
def ModelChainsUptoCardSaid : Prop := Claim7.holds Tryz.pinned (.plain (OpenSpec.upto modelChainsSpec)) modelChainsUptoCard
end Rows
end Go.Proofs.YtpjfhfmbhjghcaaGreatDoor
