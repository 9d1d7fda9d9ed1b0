/-
  DERIVED. GIVEN WITH THE SEED: THE CARDS: each row of YtemdgidnhgcafaaGreatDoorRows.lean that lists a variable, with what it lists TIED to the program's text (the seventh form; the later family's looks); each row that meets fmt, with fmt's text TOLD by the authors' own Lean function (tested against real Go, not proved from fmt's source: count such statements apart). THE CARD IS WHAT COUNTS. Prove the row's statement (the work); the ties are given (YtemdgidnhgcafaaGreatDoorTie.lean); close each card by the builder's one call (the guide's Derived/Test/ToyasCard.lean, 'card_holds'). Laid BY PROGRAM, IN A SANDBOX (cutbox-door.mjs). By AI agents, Wed Nov 11 2026. No macro, syntax, notation, axiom, sorry.
-/
import Derived.Test.YtemdgidnhgcafaaGreatDoorRows
import GoSem.ClaimSeven
namespace Go.Proofs.YtemdgidnhgcafaaGreatDoor
namespace Rows

/-- THE TIED CARD OF 'tidemilllaw21.TaskAgain'. -/
def taskAgainCard : Claim7 := { stood := { row := taskAgainRow, standIns := [], harness := (true, "29664076d0a0814b4aab1ddfab2a654fc9496e318b9c184ded63d9d3baea31a2"), looks := true }, kinds := [], alts := [], laidByText := true, laidKinds := [.data, .data, .data], laidTests := true, laidLooks := .later }
def TaskAgainCardSaid : Prop := Claim7.holds Tryz.pinned (.plain (OpenSpec.ofChange taskAgainSpec)) taskAgainCard

/-- THE TIED CARD OF 'tidemilllaw21.TaskOffs'. -/
def taskOffsCard : Claim7 := { stood := { row := taskOffsRow, standIns := [], harness := (true, "29664076d0a0814b4aab1ddfab2a654fc9496e318b9c184ded63d9d3baea31a2"), looks := true }, kinds := [], alts := [], laidByText := true, laidKinds := [.data, .data, .data], laidTests := true, laidLooks := .later }
def TaskOffsCardSaid : Prop := Claim7.holds Tryz.pinned (.plain (OpenSpec.ofChange taskOffsSpec)) taskOffsCard

/-- THE TIED CARD OF 'tidemilllaw21.TaskNobody'. -/
def taskNobodyCard : Claim7 := { stood := { row := taskNobodyRow, standIns := [], harness := (true, "29664076d0a0814b4aab1ddfab2a654fc9496e318b9c184ded63d9d3baea31a2"), looks := true }, kinds := [], alts := [], laidByText := true, laidKinds := [.data, .data, .data], laidTests := true, laidLooks := .later }
def TaskNobodyCardSaid : Prop := Claim7.holds Tryz.pinned (.plain (OpenSpec.ofChange taskNobodySpec)) taskNobodyCard

/-- THE TIED CARD OF 'tidemilllaw21.TaskFrees'. -/
def taskFreesCard : Claim7 := { stood := { row := taskFreesRow, standIns := [], harness := (true, "29664076d0a0814b4aab1ddfab2a654fc9496e318b9c184ded63d9d3baea31a2"), looks := true }, kinds := [], alts := [], laidByText := true, laidKinds := [.data, .data, .data], laidTests := true, laidLooks := .later }
def TaskFreesCardSaid : Prop := Claim7.holds Tryz.pinned (.plain (OpenSpec.ofChange taskFreesSpec)) taskFreesCard

/-- THE SECOND FORM's CARD OF 'tidemilllaw21.TaskAgain'. -/
def taskAgainUptoCard : Claim7 := { stood := { row := taskAgainUptoRow, standIns := [], harness := (true, "29664076d0a0814b4aab1ddfab2a654fc9496e318b9c184ded63d9d3baea31a2"), looks := true }, kinds := [], alts := [], laidByText := true, laidKinds := [.data, .data, .data], laidTests := true, laidLooks := .later }
def TaskAgainUptoCardSaid : Prop := Claim7.holds Tryz.pinned (.plain (OpenSpec.upto taskAgainSpec)) taskAgainUptoCard

/-- THE SECOND FORM's CARD OF 'tidemilllaw21.TaskOffs'. -/
def taskOffsUptoCard : Claim7 := { stood := { row := taskOffsUptoRow, standIns := [], harness := (true, "29664076d0a0814b4aab1ddfab2a654fc9496e318b9c184ded63d9d3baea31a2"), looks := true }, kinds := [], alts := [], laidByText := true, laidKinds := [.data, .data, .data], laidTests := true, laidLooks := .later }
def TaskOffsUptoCardSaid : Prop := Claim7.holds Tryz.pinned (.plain (OpenSpec.upto taskOffsSpec)) taskOffsUptoCard

/-- THE SECOND FORM's CARD OF 'tidemilllaw21.TaskNobody'. -/
def taskNobodyUptoCard : Claim7 := { stood := { row := taskNobodyUptoRow, standIns := [], harness := (true, "29664076d0a0814b4aab1ddfab2a654fc9496e318b9c184ded63d9d3baea31a2"), looks := true }, kinds := [], alts := [], laidByText := true, laidKinds := [.data, .data, .data], laidTests := true, laidLooks := .later }
def TaskNobodyUptoCardSaid : Prop := Claim7.holds Tryz.pinned (.plain (OpenSpec.upto taskNobodySpec)) taskNobodyUptoCard

/-- THE SECOND FORM's CARD OF 'tidemilllaw21.TaskFrees'. -/
def taskFreesUptoCard : Claim7 := { stood := { row := taskFreesUptoRow, standIns := [], harness := (true, "29664076d0a0814b4aab1ddfab2a654fc9496e318b9c184ded63d9d3baea31a2"), looks := true }, kinds := [], alts := [], laidByText := true, laidKinds := [.data, .data, .data], laidTests := true, laidLooks := .later }
def TaskFreesUptoCardSaid : Prop := Claim7.holds Tryz.pinned (.plain (OpenSpec.upto taskFreesSpec)) taskFreesUptoCard
end Rows
end Go.Proofs.YtemdgidnhgcafaaGreatDoor
