/-
  DERIVED. GIVEN WITH THE SEED: THE CARDS: each row of YthnleejpeocaeaaDoorRows.lean that lists a variable, with what it lists TIED to the program's text (the seventh form; the later family's looks); each row that meets fmt, with fmt's text TOLD by the authors' own Lean function (tested against real Go, not proved from fmt's source: count such statements apart). THE CARD IS WHAT COUNTS. Prove the row's statement (the work); the ties are given (YthnleejpeocaeaaDoorTie.lean); close each card by the builder's one call (the guide's Derived/Test/ToyasCard.lean, 'card_holds'). Laid BY PROGRAM, IN A SANDBOX (cutbox-door.mjs). By AI agents, Wed Nov 11 2026. No macro, syntax, notation, axiom, sorry.
-/
import Derived.Test.YthnleejpeocaeaaDoorRows
import GoSem.ClaimSeven
namespace Go.Proofs.YthnleejpeocaeaaDoor
namespace Rows

/-- THE TIED CARD OF 'tidemilllaw17.FlowChains'. -/
def flowChainsCard : Claim7 := { stood := { row := flowChainsRow, standIns := [], harness := (true, "68c9fb351dc9b225e949b2e980012de81bb718b3c4683df169407c9e5d1ff7ee"), looks := false }, kinds := [], alts := [], laidByText := true, laidKinds := [.data], laidTests := true, laidLooks := .later }
def FlowChainsCardSaid : Prop := Claim7.holds Tryd.pinned (.plain (OpenSpec.ofChange flowChainsSpec)) flowChainsCard

/-- THE SECOND FORM's CARD OF 'tidemilllaw17.FlowChains'. -/
def flowChainsUptoCard : Claim7 := { stood := { row := flowChainsUptoRow, standIns := [], harness := (true, "68c9fb351dc9b225e949b2e980012de81bb718b3c4683df169407c9e5d1ff7ee"), looks := false }, kinds := [], alts := [], laidByText := true, laidKinds := [.data], laidTests := true, laidLooks := .later }
def FlowChainsUptoCardSaid : Prop := Claim7.holds Tryd.pinned (.plain (OpenSpec.upto flowChainsSpec)) flowChainsUptoCard
end Rows
end Go.Proofs.YthnleejpeocaeaaDoor
