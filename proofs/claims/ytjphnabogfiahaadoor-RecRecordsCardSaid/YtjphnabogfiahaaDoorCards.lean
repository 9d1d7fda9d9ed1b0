/-
  DERIVED. GIVEN WITH THE SEED: THE CARDS: each row of YtjphnabogfiahaaDoorRows.lean that lists a variable, with what it lists TIED to the program's text (the seventh form; the later family's looks); each row that meets fmt, with fmt's text TOLD by the authors' own Lean function (tested against real Go, not proved from fmt's source: count such statements apart). THE CARD IS WHAT COUNTS. Prove the row's statement (the work); the ties are given (YtjphnabogfiahaaDoorTie.lean); close each card by the builder's one call (the guide's Derived/Test/ToyasCard.lean, 'card_holds'). Laid BY PROGRAM, IN A SANDBOX (cutbox-door.mjs). By AI agents, Wed Nov 11 2026. No macro, syntax, notation, axiom, sorry.
-/
import Derived.Test.YtjphnabogfiahaaDoorRows
import GoSem.ClaimSeven
namespace Go.Proofs.YtjphnabogfiahaaDoor
namespace Rows

/-- THE TIED CARD OF 'tidemilllaw03.RecRecords'. -/
def recRecordsCard : Claim7 := { stood := { row := recRecordsRow, standIns := [], harness := (true, "210a24fbb9d73ef6a74456a061d6cee316ca1d16d6f696141622e2338f14497c"), looks := false }, kinds := [], alts := [], laidByText := true, laidKinds := [.data], laidTests := true, laidLooks := .later }
def RecRecordsCardSaid : Prop := Claim7.holds Tryd.pinned (.plain (OpenSpec.ofChange recRecordsSpec)) recRecordsCard

/-- THE TIED CARD OF 'tidemilllaw03.RecEntries'. -/
def recEntriesCard : Claim7 := { stood := { row := recEntriesRow, standIns := [], harness := (true, "210a24fbb9d73ef6a74456a061d6cee316ca1d16d6f696141622e2338f14497c"), looks := false }, kinds := [], alts := [], laidByText := true, laidKinds := [.data], laidTests := true, laidLooks := .later }
def RecEntriesCardSaid : Prop := Claim7.holds Tryd.pinned (.plain (OpenSpec.ofChange recEntriesSpec)) recEntriesCard

/-- THE TIED CARD OF 'tidemilllaw03.RecBack'. -/
def recBackCard : Claim7 := { stood := { row := recBackRow, standIns := [], harness := (true, "210a24fbb9d73ef6a74456a061d6cee316ca1d16d6f696141622e2338f14497c"), looks := false }, kinds := [], alts := [], laidByText := true, laidKinds := [.data], laidTests := true, laidLooks := .later }
def RecBackCardSaid : Prop := Claim7.holds Tryd.pinned (.plain (OpenSpec.ofChange recBackSpec)) recBackCard

/-- THE TIED CARD OF 'tidemilllaw03.RecOnes'. -/
def recOnesCard : Claim7 := { stood := { row := recOnesRow, standIns := [], harness := (true, "210a24fbb9d73ef6a74456a061d6cee316ca1d16d6f696141622e2338f14497c"), looks := false }, kinds := [], alts := [], laidByText := true, laidKinds := [.data], laidTests := true, laidLooks := .later }
def RecOnesCardSaid : Prop := Claim7.holds Tryd.pinned (.plain (OpenSpec.ofChange recOnesSpec)) recOnesCard

/-- THE TIED CARD OF 'tidemilllaw03.RecKinds'. -/
def recKindsCard : Claim7 := { stood := { row := recKindsRow, standIns := [], harness := (true, "210a24fbb9d73ef6a74456a061d6cee316ca1d16d6f696141622e2338f14497c"), looks := false }, kinds := [], alts := [], laidByText := true, laidKinds := [.data], laidTests := true, laidLooks := .later }
def RecKindsCardSaid : Prop := Claim7.holds Tryd.pinned (.plain (OpenSpec.ofChange recKindsSpec)) recKindsCard

/-- THE TIED CARD OF 'tidemilllaw03.RecFences'. -/
def recFencesCard : Claim7 := { stood := { row := recFencesRow, standIns := [], harness := (true, "210a24fbb9d73ef6a74456a061d6cee316ca1d16d6f696141622e2338f14497c"), looks := false }, kinds := [], alts := [], laidByText := true, laidKinds := [.data], laidTests := true, laidLooks := .later }
def RecFencesCardSaid : Prop := Claim7.holds Tryd.pinned (.plain (OpenSpec.ofChange recFencesSpec)) recFencesCard

/-- THE SECOND FORM's CARD OF 'tidemilllaw03.RecRecords'. -/
def recRecordsUptoCard : Claim7 := { stood := { row := recRecordsUptoRow, standIns := [], harness := (true, "210a24fbb9d73ef6a74456a061d6cee316ca1d16d6f696141622e2338f14497c"), looks := false }, kinds := [], alts := [], laidByText := true, laidKinds := [.data], laidTests := true, laidLooks := .later }
def RecRecordsUptoCardSaid : Prop := Claim7.holds Tryd.pinned (.plain (OpenSpec.upto recRecordsSpec)) recRecordsUptoCard

/-- THE SECOND FORM's CARD OF 'tidemilllaw03.RecEntries'. -/
def recEntriesUptoCard : Claim7 := { stood := { row := recEntriesUptoRow, standIns := [], harness := (true, "210a24fbb9d73ef6a74456a061d6cee316ca1d16d6f696141622e2338f14497c"), looks := false }, kinds := [], alts := [], laidByText := true, laidKinds := [.data], laidTests := true, laidLooks := .later }
def RecEntriesUptoCardSaid : Prop := Claim7.holds Tryd.pinned (.plain (OpenSpec.upto recEntriesSpec)) recEntriesUptoCard

/-- THE SECOND FORM's CARD OF 'tidemilllaw03.RecBack'. -/
def recBackUptoCard : Claim7 := { stood := { row := recBackUptoRow, standIns := [], harness := (true, "210a24fbb9d73ef6a74456a061d6cee316ca1d16d6f696141622e2338f14497c"), looks := false }, kinds := [], alts := [], laidByText := true, laidKinds := [.data], laidTests := true, laidLooks := .later }
def RecBackUptoCardSaid : Prop := Claim7.holds Tryd.pinned (.plain (OpenSpec.upto recBackSpec)) recBackUptoCard

/-- THE SECOND FORM's CARD OF 'tidemilllaw03.RecOnes'. -/
def recOnesUptoCard : Claim7 := { stood := { row := recOnesUptoRow, standIns := [], harness := (true, "210a24fbb9d73ef6a74456a061d6cee316ca1d16d6f696141622e2338f14497c"), looks := false }, kinds := [], alts := [], laidByText := true, laidKinds := [.data], laidTests := true, laidLooks := .later }
def RecOnesUptoCardSaid : Prop := Claim7.holds Tryd.pinned (.plain (OpenSpec.upto recOnesSpec)) recOnesUptoCard

/-- THE SECOND FORM's CARD OF 'tidemilllaw03.RecKinds'. -/
def recKindsUptoCard : Claim7 := { stood := { row := recKindsUptoRow, standIns := [], harness := (true, "210a24fbb9d73ef6a74456a061d6cee316ca1d16d6f696141622e2338f14497c"), looks := false }, kinds := [], alts := [], laidByText := true, laidKinds := [.data], laidTests := true, laidLooks := .later }
def RecKindsUptoCardSaid : Prop := Claim7.holds Tryd.pinned (.plain (OpenSpec.upto recKindsSpec)) recKindsUptoCard

/-- THE SECOND FORM's CARD OF 'tidemilllaw03.RecFences'. -/
def recFencesUptoCard : Claim7 := { stood := { row := recFencesUptoRow, standIns := [], harness := (true, "210a24fbb9d73ef6a74456a061d6cee316ca1d16d6f696141622e2338f14497c"), looks := false }, kinds := [], alts := [], laidByText := true, laidKinds := [.data], laidTests := true, laidLooks := .later }
def RecFencesUptoCardSaid : Prop := Claim7.holds Tryd.pinned (.plain (OpenSpec.upto recFencesSpec)) recFencesUptoCard
end Rows
end Go.Proofs.YtjphnabogfiahaaDoor
