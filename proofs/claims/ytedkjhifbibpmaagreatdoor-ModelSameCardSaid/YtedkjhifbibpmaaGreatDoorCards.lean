/-
  DERIVED. GIVEN WITH THE SEED: THE CARDS: each row of YtedkjhifbibpmaaGreatDoorRows.lean that lists a variable, with what it lists TIED to the program's text (the seventh form; the later family's looks); each row that meets fmt, with fmt's text TOLD by the authors' own Lean function (tested against real Go, not proved from fmt's source: count such statements apart). THE CARD IS WHAT COUNTS. Prove the row's statement (the work); the ties are given (YtedkjhifbibpmaaGreatDoorTie.lean); close each card by the builder's one call (the guide's Derived/Test/ToyasCard.lean, 'card_holds'). Laid BY PROGRAM, IN A SANDBOX (cutbox-door.mjs). By AI agents, Wed Nov 11 2026. No macro, syntax, notation, axiom, sorry.
-/
import Derived.Test.YtedkjhifbibpmaaGreatDoorRows
import GoSem.ClaimSeven
namespace Go.Proofs.YtedkjhifbibpmaaGreatDoor
namespace Rows

/-- THE TIED CARD OF 'tidemilllaw18.AggAgain'. -/
def aggAgainCard : Claim7 := { stood := { row := aggAgainRow, standIns := [], harness := (true, "8923e2e30c7a6e0fb8e5ae7e643ceaace539bebdfb781f7ae8fa9f0b39cf3159"), looks := true }, kinds := [], alts := [], laidByText := true, laidKinds := [.data], laidTests := true, laidLooks := .later }
def AggAgainCardSaid : Prop := Claim7.holds Tryz.pinned (.plain (OpenSpec.ofChange aggAgainSpec)) aggAgainCard

/-- THE TIED CARD OF 'tidemilllaw18.AggEnds'. -/
def aggEndsCard : Claim7 := { stood := { row := aggEndsRow, standIns := [], harness := (true, "8923e2e30c7a6e0fb8e5ae7e643ceaace539bebdfb781f7ae8fa9f0b39cf3159"), looks := true }, kinds := [], alts := [], laidByText := true, laidKinds := [.data], laidTests := true, laidLooks := .later }
def AggEndsCardSaid : Prop := Claim7.holds Tryz.pinned (.plain (OpenSpec.ofChange aggEndsSpec)) aggEndsCard

/-- THE TIED CARD OF 'tidemilllaw18.AggFails'. -/
def aggFailsCard : Claim7 := { stood := { row := aggFailsRow, standIns := [], harness := (true, "8923e2e30c7a6e0fb8e5ae7e643ceaace539bebdfb781f7ae8fa9f0b39cf3159"), looks := true }, kinds := [], alts := [], laidByText := true, laidKinds := [.data], laidTests := true, laidLooks := .later }
def AggFailsCardSaid : Prop := Claim7.holds Tryz.pinned (.plain (OpenSpec.ofChange aggFailsSpec)) aggFailsCard

/-- THE TIED CARD OF 'tidemilllaw20.ModelAgain'. -/
def modelAgainCard : Claim7 := { stood := { row := modelAgainRow, standIns := [], harness := (true, "8923e2e30c7a6e0fb8e5ae7e643ceaace539bebdfb781f7ae8fa9f0b39cf3159"), looks := true }, kinds := [], alts := [], laidByText := true, laidKinds := [.data, .data], laidTests := true, laidLooks := .later }
def ModelAgainCardSaid : Prop := Claim7.holds Tryz.pinned (.plain (OpenSpec.ofChange modelAgainSpec)) modelAgainCard

/-- THE TIED CARD OF 'tidemilllaw20.ModelSame'. -/
def modelSameCard : Claim7 := { stood := { row := modelSameRow, standIns := [], harness := (true, "8923e2e30c7a6e0fb8e5ae7e643ceaace539bebdfb781f7ae8fa9f0b39cf3159"), looks := true }, kinds := [], alts := [], laidByText := true, laidKinds := [.data, .data], laidTests := true, laidLooks := .later }
def ModelSameCardSaid : Prop := Claim7.holds Tryz.pinned (.plain (OpenSpec.ofChange modelSameSpec)) modelSameCard

/-- THE TIED CARD OF 'tidemilllaw20.ModelOuts'. -/
def modelOutsCard : Claim7 := { stood := { row := modelOutsRow, standIns := [], harness := (true, "8923e2e30c7a6e0fb8e5ae7e643ceaace539bebdfb781f7ae8fa9f0b39cf3159"), looks := true }, kinds := [], alts := [], laidByText := true, laidKinds := [.data, .data], laidTests := true, laidLooks := .later }
def ModelOutsCardSaid : Prop := Claim7.holds Tryz.pinned (.plain (OpenSpec.ofChange modelOutsSpec)) modelOutsCard

/-- THE TIED CARD OF 'tidemilllaw20.ModelNobody'. -/
def modelNobodyCard : Claim7 := { stood := { row := modelNobodyRow, standIns := [], harness := (true, "8923e2e30c7a6e0fb8e5ae7e643ceaace539bebdfb781f7ae8fa9f0b39cf3159"), looks := true }, kinds := [], alts := [], laidByText := true, laidKinds := [.data, .data], laidTests := true, laidLooks := .later }
def ModelNobodyCardSaid : Prop := Claim7.holds Tryz.pinned (.plain (OpenSpec.ofChange modelNobodySpec)) modelNobodyCard

/-- THE TIED CARD OF 'tidemilllaw20.ModelChains'. -/
def modelChainsCard : Claim7 := { stood := { row := modelChainsRow, standIns := [], harness := (true, "8923e2e30c7a6e0fb8e5ae7e643ceaace539bebdfb781f7ae8fa9f0b39cf3159"), looks := true }, kinds := [], alts := [], laidByText := true, laidKinds := [.data, .data], laidTests := true, laidLooks := .later }
def ModelChainsCardSaid : Prop := Claim7.holds Tryz.pinned (.plain (OpenSpec.ofChange modelChainsSpec)) modelChainsCard

/-- THE TIED CARD OF 'tidemilllaw21.TaskAgain'. -/
def taskAgainCard : Claim7 := { stood := { row := taskAgainRow, standIns := [], harness := (true, "8923e2e30c7a6e0fb8e5ae7e643ceaace539bebdfb781f7ae8fa9f0b39cf3159"), looks := true }, kinds := [], alts := [], laidByText := true, laidKinds := [.data, .data, .data], laidTests := true, laidLooks := .later }
def TaskAgainCardSaid : Prop := Claim7.holds Tryz.pinned (.plain (OpenSpec.ofChange taskAgainSpec)) taskAgainCard

/-- THE TIED CARD OF 'tidemilllaw21.TaskOffs'. -/
def taskOffsCard : Claim7 := { stood := { row := taskOffsRow, standIns := [], harness := (true, "8923e2e30c7a6e0fb8e5ae7e643ceaace539bebdfb781f7ae8fa9f0b39cf3159"), looks := true }, kinds := [], alts := [], laidByText := true, laidKinds := [.data, .data, .data], laidTests := true, laidLooks := .later }
def TaskOffsCardSaid : Prop := Claim7.holds Tryz.pinned (.plain (OpenSpec.ofChange taskOffsSpec)) taskOffsCard

/-- THE TIED CARD OF 'tidemilllaw21.TaskNobody'. -/
def taskNobodyCard : Claim7 := { stood := { row := taskNobodyRow, standIns := [], harness := (true, "8923e2e30c7a6e0fb8e5ae7e643ceaace539bebdfb781f7ae8fa9f0b39cf3159"), looks := true }, kinds := [], alts := [], laidByText := true, laidKinds := [.data, .data, .data], laidTests := true, laidLooks := .later }
def TaskNobodyCardSaid : Prop := Claim7.holds Tryz.pinned (.plain (OpenSpec.ofChange taskNobodySpec)) taskNobodyCard

/-- THE TIED CARD OF 'tidemilllaw21.TaskFrees'. -/
def taskFreesCard : Claim7 := { stood := { row := taskFreesRow, standIns := [], harness := (true, "8923e2e30c7a6e0fb8e5ae7e643ceaace539bebdfb781f7ae8fa9f0b39cf3159"), looks := true }, kinds := [], alts := [], laidByText := true, laidKinds := [.data, .data, .data], laidTests := true, laidLooks := .later }
def TaskFreesCardSaid : Prop := Claim7.holds Tryz.pinned (.plain (OpenSpec.ofChange taskFreesSpec)) taskFreesCard

/-- THE SECOND FORM's CARD OF 'tidemilllaw18.AggAgain'. -/
def aggAgainUptoCard : Claim7 := { stood := { row := aggAgainUptoRow, standIns := [], harness := (true, "8923e2e30c7a6e0fb8e5ae7e643ceaace539bebdfb781f7ae8fa9f0b39cf3159"), looks := true }, kinds := [], alts := [], laidByText := true, laidKinds := [.data], laidTests := true, laidLooks := .later }
def AggAgainUptoCardSaid : Prop := Claim7.holds Tryz.pinned (.plain (OpenSpec.upto aggAgainSpec)) aggAgainUptoCard

/-- THE SECOND FORM's CARD OF 'tidemilllaw18.AggEnds'. -/
def aggEndsUptoCard : Claim7 := { stood := { row := aggEndsUptoRow, standIns := [], harness := (true, "8923e2e30c7a6e0fb8e5ae7e643ceaace539bebdfb781f7ae8fa9f0b39cf3159"), looks := true }, kinds := [], alts := [], laidByText := true, laidKinds := [.data], laidTests := true, laidLooks := .later }
def AggEndsUptoCardSaid : Prop := Claim7.holds Tryz.pinned (.plain (OpenSpec.upto aggEndsSpec)) aggEndsUptoCard

/-- THE SECOND FORM's CARD OF 'tidemilllaw18.AggFails'. -/
def aggFailsUptoCard : Claim7 := { stood := { row := aggFailsUptoRow, standIns := [], harness := (true, "8923e2e30c7a6e0fb8e5ae7e643ceaace539bebdfb781f7ae8fa9f0b39cf3159"), looks := true }, kinds := [], alts := [], laidByText := true, laidKinds := [.data], laidTests := true, laidLooks := .later }
def AggFailsUptoCardSaid : Prop := Claim7.holds Tryz.pinned (.plain (OpenSpec.upto aggFailsSpec)) aggFailsUptoCard

/-- THE SECOND FORM's CARD OF 'tidemilllaw20.ModelAgain'. -/
def modelAgainUptoCard : Claim7 := { stood := { row := modelAgainUptoRow, standIns := [], harness := (true, "8923e2e30c7a6e0fb8e5ae7e643ceaace539bebdfb781f7ae8fa9f0b39cf3159"), looks := true }, kinds := [], alts := [], laidByText := true, laidKinds := [.data, .data], laidTests := true, laidLooks := .later }
def ModelAgainUptoCardSaid : Prop := Claim7.holds Tryz.pinned (.plain (OpenSpec.upto modelAgainSpec)) modelAgainUptoCard

/-- THE SECOND FORM's CARD OF 'tidemilllaw20.ModelSame'. -/
def modelSameUptoCard : Claim7 := { stood := { row := modelSameUptoRow, standIns := [], harness := (true, "8923e2e30c7a6e0fb8e5ae7e643ceaace539bebdfb781f7ae8fa9f0b39cf3159"), looks := true }, kinds := [], alts := [], laidByText := true, laidKinds := [.data, .data], laidTests := true, laidLooks := .later }
def ModelSameUptoCardSaid : Prop := Claim7.holds Tryz.pinned (.plain (OpenSpec.upto modelSameSpec)) modelSameUptoCard

/-- THE SECOND FORM's CARD OF 'tidemilllaw20.ModelOuts'. -/
def modelOutsUptoCard : Claim7 := { stood := { row := modelOutsUptoRow, standIns := [], harness := (true, "8923e2e30c7a6e0fb8e5ae7e643ceaace539bebdfb781f7ae8fa9f0b39cf3159"), looks := true }, kinds := [], alts := [], laidByText := true, laidKinds := [.data, .data], laidTests := true, laidLooks := .later }
def ModelOutsUptoCardSaid : Prop := Claim7.holds Tryz.pinned (.plain (OpenSpec.upto modelOutsSpec)) modelOutsUptoCard

/-- THE SECOND FORM's CARD OF 'tidemilllaw20.ModelNobody'. -/
def modelNobodyUptoCard : Claim7 := { stood := { row := modelNobodyUptoRow, standIns := [], harness := (true, "8923e2e30c7a6e0fb8e5ae7e643ceaace539bebdfb781f7ae8fa9f0b39cf3159"), looks := true }, kinds := [], alts := [], laidByText := true, laidKinds := [.data, .data], laidTests := true, laidLooks := .later }
def ModelNobodyUptoCardSaid : Prop := Claim7.holds Tryz.pinned (.plain (OpenSpec.upto modelNobodySpec)) modelNobodyUptoCard

/-- THE SECOND FORM's CARD OF 'tidemilllaw20.ModelChains'. -/
def modelChainsUptoCard : Claim7 := { stood := { row := modelChainsUptoRow, standIns := [], harness := (true, "8923e2e30c7a6e0fb8e5ae7e643ceaace539bebdfb781f7ae8fa9f0b39cf3159"), looks := true }, kinds := [], alts := [], laidByText := true, laidKinds := [.data, .data], laidTests := true, laidLooks := .later }
def ModelChainsUptoCardSaid : Prop := Claim7.holds Tryz.pinned (.plain (OpenSpec.upto modelChainsSpec)) modelChainsUptoCard

/-- THE SECOND FORM's CARD OF 'tidemilllaw21.TaskAgain'. -/
def taskAgainUptoCard : Claim7 := { stood := { row := taskAgainUptoRow, standIns := [], harness := (true, "8923e2e30c7a6e0fb8e5ae7e643ceaace539bebdfb781f7ae8fa9f0b39cf3159"), looks := true }, kinds := [], alts := [], laidByText := true, laidKinds := [.data, .data, .data], laidTests := true, laidLooks := .later }
def TaskAgainUptoCardSaid : Prop := Claim7.holds Tryz.pinned (.plain (OpenSpec.upto taskAgainSpec)) taskAgainUptoCard

/-- THE SECOND FORM's CARD OF 'tidemilllaw21.TaskOffs'. -/
def taskOffsUptoCard : Claim7 := { stood := { row := taskOffsUptoRow, standIns := [], harness := (true, "8923e2e30c7a6e0fb8e5ae7e643ceaace539bebdfb781f7ae8fa9f0b39cf3159"), looks := true }, kinds := [], alts := [], laidByText := true, laidKinds := [.data, .data, .data], laidTests := true, laidLooks := .later }
def TaskOffsUptoCardSaid : Prop := Claim7.holds Tryz.pinned (.plain (OpenSpec.upto taskOffsSpec)) taskOffsUptoCard

/-- THE SECOND FORM's CARD OF 'tidemilllaw21.TaskNobody'. -/
def taskNobodyUptoCard : Claim7 := { stood := { row := taskNobodyUptoRow, standIns := [], harness := (true, "8923e2e30c7a6e0fb8e5ae7e643ceaace539bebdfb781f7ae8fa9f0b39cf3159"), looks := true }, kinds := [], alts := [], laidByText := true, laidKinds := [.data, .data, .data], laidTests := true, laidLooks := .later }
def TaskNobodyUptoCardSaid : Prop := Claim7.holds Tryz.pinned (.plain (OpenSpec.upto taskNobodySpec)) taskNobodyUptoCard

/-- THE SECOND FORM's CARD OF 'tidemilllaw21.TaskFrees'. -/
def taskFreesUptoCard : Claim7 := { stood := { row := taskFreesUptoRow, standIns := [], harness := (true, "8923e2e30c7a6e0fb8e5ae7e643ceaace539bebdfb781f7ae8fa9f0b39cf3159"), looks := true }, kinds := [], alts := [], laidByText := true, laidKinds := [.data, .data, .data], laidTests := true, laidLooks := .later }
def TaskFreesUptoCardSaid : Prop := Claim7.holds Tryz.pinned (.plain (OpenSpec.upto taskFreesSpec)) taskFreesUptoCard
end Rows
end Go.Proofs.YtedkjhifbibpmaaGreatDoor
