/-
  NARROWER THAN 'FOR EVERY INPUT', by the rows' own cells (each row's printed sentence says how): ViewReads: laid · ViewGrows: laid · ViewFences: laid · ViewAtoms: laid · ViewOrder: laid · ViewInputs: laid.
  DERIVED. THE GIVEN ROWS OF THIS SEAT. 6 by the template 'for every input the law returns true; each argument reads behind the call as it read before'; 0 by the template 'total and deterministic' (their statements: YtcdpepdjeneelaaDoorTotals.lean).
  GIVEN WITH THE SEED: the statements are not yours to turn. If you find one false, say at which input.
  Laid BY PROGRAM, IN A SANDBOX (cutbox-rows.mjs): the forced cells as the released guide's own fill.sh prints them over the translation 2cb314394ee9af56… (all of the seat's roots in one cut). By AI agents, Wed Nov 11 2026. No macro, syntax, notation, axiom, sorry.
-/
import Derived.Test.YtcdpepdjeneelaaDoorChecked
import GoSem.Claim
import GoSem.ClaimJoined
import GoSem.ClaimMapViews
import Derived.JoinedTies
import Derived.KernelRfl
namespace Go.Proofs.YtcdpepdjeneelaaDoor
/- THE CELL 'sum', in the pinned program and in every row, IS THE sha256 OF THE DUMP (.gsa) THAT YtcdpepdjeneelaaDoorProg.lean LOADS. Nothing in Lean hashes anything: it is a label: what it is worth is what the hold of that sum in a sandbox is worth. -/
noncomputable def Tryd.pinned : Pinned := { name := "ytcdpepdjeneelaadoor", sum := "2cb314394ee9af56440bc24a7c330d78b851ffc38b87504868e5d1c5fa4ef0f0", checked := Tryd.checked }
namespace Rows
def none {H : Type} : Left H := { results := [], args := [] }

/- WHAT THE LISTED PACKAGE-LEVEL VARIABLES READ AS WHEN THE CALL BEGINS. Each datum BY PROGRAM (the guide's laid-datum.mjs) off the statement by which the dump's own 'gosem.cut.vars' lays the variable. In a bare row this is a premise. The card (YtcdpepdjeneelaaDoorCards.lean) ties it to the program's text. -/
def laid_tidemill_rec_uses {H : Type} : DataW H := .agg [.lit (.int .i64 0), .lit (.int .i64 24), .lit (.int .i64 63), .lit (.int .i64 199), .lit (.int .i64 7), .lit (.int .i64 3), .lit (.int .i64 0)]

/-- 'tidemilllaw11.ViewReads': WHATEVER THE INPUT: true; the input reads as it did. -/
def viewReadsSpec : ChangeSpec := { name := "viewReads", fn := fun _ => fun
  | [d] => { results := [.lit (.bool true)], args := [d] }
  | _ => none }
def viewReadsRow : OpenClaim := { program := "ytcdpepdjeneelaadoor", sum := "2cb314394ee9af56440bc24a7c330d78b851ffc38b87504868e5d1c5fa4ef0f0", func := "tidemill/tidemilllaw11.ViewReads", spec := "viewReads", unfollowed := true, recurses := true, named := ["tidemill/rec.uses"], apart := false, laid := [("tidemill/rec.uses", laid_tidemill_rec_uses)] }
def ViewReadsSaid : Prop := viewReadsRow.holds Tryd.pinned (OpenSpec.ofChange viewReadsSpec)

/-- ITS FALSE NEIGHBOUR: 'it returns false'. Refute it at one input. -/
def viewReadsWrong : ChangeSpec := { name := "viewReads", fn := fun _ => fun
  | [d] => { results := [.lit (.bool false)], args := [d] }
  | _ => none }
def ViewReadsWrongFalsely : Prop := viewReadsRow.holds Tryd.pinned (OpenSpec.ofChange viewReadsWrong)

/-- 'tidemilllaw11.ViewGrows': WHATEVER THE INPUT: true; the input reads as it did. -/
def viewGrowsSpec : ChangeSpec := { name := "viewGrows", fn := fun _ => fun
  | [d1, d2] => { results := [.lit (.bool true)], args := [d1, d2] }
  | _ => none }
def viewGrowsRow : OpenClaim := { program := "ytcdpepdjeneelaadoor", sum := "2cb314394ee9af56440bc24a7c330d78b851ffc38b87504868e5d1c5fa4ef0f0", func := "tidemill/tidemilllaw11.ViewGrows", spec := "viewGrows", unfollowed := true, recurses := true, named := ["tidemill/rec.uses"], apart := false, laid := [("tidemill/rec.uses", laid_tidemill_rec_uses)] }
def ViewGrowsSaid : Prop := viewGrowsRow.holds Tryd.pinned (OpenSpec.ofChange viewGrowsSpec)

/-- ITS FALSE NEIGHBOUR: 'it returns false'. Refute it at one input. -/
def viewGrowsWrong : ChangeSpec := { name := "viewGrows", fn := fun _ => fun
  | [d1, d2] => { results := [.lit (.bool false)], args := [d1, d2] }
  | _ => none }
def ViewGrowsWrongFalsely : Prop := viewGrowsRow.holds Tryd.pinned (OpenSpec.ofChange viewGrowsWrong)

/-- 'tidemilllaw11.ViewFences': WHATEVER THE INPUT: true; the input reads as it did. -/
def viewFencesSpec : ChangeSpec := { name := "viewFences", fn := fun _ => fun
  | [d1, d2, d3, d4] => { results := [.lit (.bool true)], args := [d1, d2, d3, d4] }
  | _ => none }
def viewFencesRow : OpenClaim := { program := "ytcdpepdjeneelaadoor", sum := "2cb314394ee9af56440bc24a7c330d78b851ffc38b87504868e5d1c5fa4ef0f0", func := "tidemill/tidemilllaw11.ViewFences", spec := "viewFences", unfollowed := true, recurses := true, named := ["tidemill/rec.uses"], apart := false, laid := [("tidemill/rec.uses", laid_tidemill_rec_uses)] }
def ViewFencesSaid : Prop := viewFencesRow.holds Tryd.pinned (OpenSpec.ofChange viewFencesSpec)

/-- ITS FALSE NEIGHBOUR: 'it returns false'. Refute it at one input. -/
def viewFencesWrong : ChangeSpec := { name := "viewFences", fn := fun _ => fun
  | [d1, d2, d3, d4] => { results := [.lit (.bool false)], args := [d1, d2, d3, d4] }
  | _ => none }
def ViewFencesWrongFalsely : Prop := viewFencesRow.holds Tryd.pinned (OpenSpec.ofChange viewFencesWrong)

/-- 'tidemilllaw11.ViewAtoms': WHATEVER THE INPUT: true; the input reads as it did. -/
def viewAtomsSpec : ChangeSpec := { name := "viewAtoms", fn := fun _ => fun
  | [d1, d2, d3, d4] => { results := [.lit (.bool true)], args := [d1, d2, d3, d4] }
  | _ => none }
def viewAtomsRow : OpenClaim := { program := "ytcdpepdjeneelaadoor", sum := "2cb314394ee9af56440bc24a7c330d78b851ffc38b87504868e5d1c5fa4ef0f0", func := "tidemill/tidemilllaw11.ViewAtoms", spec := "viewAtoms", unfollowed := true, recurses := true, named := ["tidemill/rec.uses"], apart := false, laid := [("tidemill/rec.uses", laid_tidemill_rec_uses)] }
def ViewAtomsSaid : Prop := viewAtomsRow.holds Tryd.pinned (OpenSpec.ofChange viewAtomsSpec)

/-- ITS FALSE NEIGHBOUR: 'it returns false'. Refute it at one input. -/
def viewAtomsWrong : ChangeSpec := { name := "viewAtoms", fn := fun _ => fun
  | [d1, d2, d3, d4] => { results := [.lit (.bool false)], args := [d1, d2, d3, d4] }
  | _ => none }
def ViewAtomsWrongFalsely : Prop := viewAtomsRow.holds Tryd.pinned (OpenSpec.ofChange viewAtomsWrong)

/-- 'tidemilllaw11.ViewOrder': WHATEVER THE INPUT: true; the input reads as it did. -/
def viewOrderSpec : ChangeSpec := { name := "viewOrder", fn := fun _ => fun
  | [d1, d2] => { results := [.lit (.bool true)], args := [d1, d2] }
  | _ => none }
def viewOrderRow : OpenClaim := { program := "ytcdpepdjeneelaadoor", sum := "2cb314394ee9af56440bc24a7c330d78b851ffc38b87504868e5d1c5fa4ef0f0", func := "tidemill/tidemilllaw11.ViewOrder", spec := "viewOrder", unfollowed := true, recurses := true, named := ["tidemill/rec.uses"], apart := false, laid := [("tidemill/rec.uses", laid_tidemill_rec_uses)] }
def ViewOrderSaid : Prop := viewOrderRow.holds Tryd.pinned (OpenSpec.ofChange viewOrderSpec)

/-- ITS FALSE NEIGHBOUR: 'it returns false'. Refute it at one input. -/
def viewOrderWrong : ChangeSpec := { name := "viewOrder", fn := fun _ => fun
  | [d1, d2] => { results := [.lit (.bool false)], args := [d1, d2] }
  | _ => none }
def ViewOrderWrongFalsely : Prop := viewOrderRow.holds Tryd.pinned (OpenSpec.ofChange viewOrderWrong)

/-- 'tidemilllaw11.ViewInputs': WHATEVER THE INPUT: true; the input reads as it did. -/
def viewInputsSpec : ChangeSpec := { name := "viewInputs", fn := fun _ => fun
  | [d1, d2, d3] => { results := [.lit (.bool true)], args := [d1, d2, d3] }
  | _ => none }
def viewInputsRow : OpenClaim := { program := "ytcdpepdjeneelaadoor", sum := "2cb314394ee9af56440bc24a7c330d78b851ffc38b87504868e5d1c5fa4ef0f0", func := "tidemill/tidemilllaw11.ViewInputs", spec := "viewInputs", unfollowed := true, recurses := true, named := ["tidemill/rec.uses"], apart := false, laid := [("tidemill/rec.uses", laid_tidemill_rec_uses)] }
def ViewInputsSaid : Prop := viewInputsRow.holds Tryd.pinned (OpenSpec.ofChange viewInputsSpec)

/-- ITS FALSE NEIGHBOUR: 'it returns false'. Refute it at one input. -/
def viewInputsWrong : ChangeSpec := { name := "viewInputs", fn := fun _ => fun
  | [d1, d2, d3] => { results := [.lit (.bool false)], args := [d1, d2, d3] }
  | _ => none }
def ViewInputsWrongFalsely : Prop := viewInputsRow.holds Tryd.pinned (OpenSpec.ofChange viewInputsWrong)

/- THE SECOND FORM. 'bulk': how many values and letters a reading holds, each counted each time it is reached (what is shared counts as often as it is met; a slice's spare places count too). A statement '..UptoSaid' is the law's where the arguments, and the package variables that the reading takes, are together of bulk at most 1048576: NARROWER than '..Said'. Prove '..Said' where nothing that the law and all that it calls make is longer than what came in: it says more and counts as full. Else prove '..UptoSaid'. A law counts once. -/
mutual
def uptoBulk {H : Type} : DataW H → Nat
  | .lit (.string bytes) => bytes.length + 1
  | .lit _ => 1
  | .nil => 1
  | .ptr d => uptoBulk d + 1
  | .slice elems spare => uptoBulkAll elems + uptoBulkAll spare + 1
  | .agg parts => uptoBulkAll parts + 1
  | .iface _ d => uptoBulk d + 1
  | .map entries => uptoBulkEntries entries + 1
  | .held _ => 1
def uptoBulkAll {H : Type} : List (DataW H) → Nat
  | [] => 0
  | d :: r => uptoBulk d + uptoBulkAll r
def uptoBulkEntries {H : Type} : List (Lit × DataW H) → Nat
  | [] => 0
  | x :: r => uptoBulkEntry x + uptoBulkEntries r
def uptoBulkEntry {H : Type} : Lit × DataW H → Nat
  | (.string bytes, d) => bytes.length + uptoBulk d + 1
  | (_, d) => uptoBulk d + 1
 end
def uptoSmall : (H : Type) → List (DataW H) → Bool := fun _ ds => decide (uptoBulkAll ds ≤ 1048576)
def OpenSpec.upto (s : _root_.Go.ChangeSpec) : _root_.Go.OpenSpec := { _root_.Go.OpenSpec.ofChange s with cond := some uptoSmall }

/-- 'tidemilllaw11.ViewReads', WHERE WHAT IT READS IS OF BULK AT MOST 1048576: true; the input reads as it did. -/
def viewReadsUptoRow : OpenClaim := { program := "ytcdpepdjeneelaadoor", sum := "2cb314394ee9af56440bc24a7c330d78b851ffc38b87504868e5d1c5fa4ef0f0", func := "tidemill/tidemilllaw11.ViewReads", spec := "viewReads", unfollowed := true, recurses := true, named := ["tidemill/rec.uses"], apart := false, laid := [("tidemill/rec.uses", laid_tidemill_rec_uses)], narrowed := true }
def ViewReadsUptoSaid : Prop := viewReadsUptoRow.holds Tryd.pinned (OpenSpec.upto viewReadsSpec)

/-- 'tidemilllaw11.ViewGrows', WHERE WHAT IT READS IS OF BULK AT MOST 1048576: true; the input reads as it did. -/
def viewGrowsUptoRow : OpenClaim := { program := "ytcdpepdjeneelaadoor", sum := "2cb314394ee9af56440bc24a7c330d78b851ffc38b87504868e5d1c5fa4ef0f0", func := "tidemill/tidemilllaw11.ViewGrows", spec := "viewGrows", unfollowed := true, recurses := true, named := ["tidemill/rec.uses"], apart := false, laid := [("tidemill/rec.uses", laid_tidemill_rec_uses)], narrowed := true }
def ViewGrowsUptoSaid : Prop := viewGrowsUptoRow.holds Tryd.pinned (OpenSpec.upto viewGrowsSpec)

/-- 'tidemilllaw11.ViewFences', WHERE WHAT IT READS IS OF BULK AT MOST 1048576: true; the input reads as it did. -/
def viewFencesUptoRow : OpenClaim := { program := "ytcdpepdjeneelaadoor", sum := "2cb314394ee9af56440bc24a7c330d78b851ffc38b87504868e5d1c5fa4ef0f0", func := "tidemill/tidemilllaw11.ViewFences", spec := "viewFences", unfollowed := true, recurses := true, named := ["tidemill/rec.uses"], apart := false, laid := [("tidemill/rec.uses", laid_tidemill_rec_uses)], narrowed := true }
def ViewFencesUptoSaid : Prop := viewFencesUptoRow.holds Tryd.pinned (OpenSpec.upto viewFencesSpec)

/-- 'tidemilllaw11.ViewAtoms', WHERE WHAT IT READS IS OF BULK AT MOST 1048576: true; the input reads as it did. -/
def viewAtomsUptoRow : OpenClaim := { program := "ytcdpepdjeneelaadoor", sum := "2cb314394ee9af56440bc24a7c330d78b851ffc38b87504868e5d1c5fa4ef0f0", func := "tidemill/tidemilllaw11.ViewAtoms", spec := "viewAtoms", unfollowed := true, recurses := true, named := ["tidemill/rec.uses"], apart := false, laid := [("tidemill/rec.uses", laid_tidemill_rec_uses)], narrowed := true }
def ViewAtomsUptoSaid : Prop := viewAtomsUptoRow.holds Tryd.pinned (OpenSpec.upto viewAtomsSpec)

/-- 'tidemilllaw11.ViewOrder', WHERE WHAT IT READS IS OF BULK AT MOST 1048576: true; the input reads as it did. -/
def viewOrderUptoRow : OpenClaim := { program := "ytcdpepdjeneelaadoor", sum := "2cb314394ee9af56440bc24a7c330d78b851ffc38b87504868e5d1c5fa4ef0f0", func := "tidemill/tidemilllaw11.ViewOrder", spec := "viewOrder", unfollowed := true, recurses := true, named := ["tidemill/rec.uses"], apart := false, laid := [("tidemill/rec.uses", laid_tidemill_rec_uses)], narrowed := true }
def ViewOrderUptoSaid : Prop := viewOrderUptoRow.holds Tryd.pinned (OpenSpec.upto viewOrderSpec)

/-- 'tidemilllaw11.ViewInputs', WHERE WHAT IT READS IS OF BULK AT MOST 1048576: true; the input reads as it did. -/
def viewInputsUptoRow : OpenClaim := { program := "ytcdpepdjeneelaadoor", sum := "2cb314394ee9af56440bc24a7c330d78b851ffc38b87504868e5d1c5fa4ef0f0", func := "tidemill/tidemilllaw11.ViewInputs", spec := "viewInputs", unfollowed := true, recurses := true, named := ["tidemill/rec.uses"], apart := false, laid := [("tidemill/rec.uses", laid_tidemill_rec_uses)], narrowed := true }
def ViewInputsUptoSaid : Prop := viewInputsUptoRow.holds Tryd.pinned (OpenSpec.upto viewInputsSpec)

end Rows
end Go.Proofs.YtcdpepdjeneelaaDoor
