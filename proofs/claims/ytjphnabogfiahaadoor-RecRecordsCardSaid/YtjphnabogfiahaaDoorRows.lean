/-
  NARROWER THAN 'FOR EVERY INPUT', by the rows' own cells (each row's printed sentence says how): RecRecords: laid · RecEntries: laid · RecBack: laid · RecOnes: laid · RecKinds: laid · RecFences: laid.
  DERIVED. THE GIVEN ROWS OF THIS SEAT. 6 by the template 'for every input the law returns true; each argument reads behind the call as it read before'; 0 by the template 'total and deterministic' (their statements: YtjphnabogfiahaaDoorTotals.lean).
  GIVEN WITH THE SEED: the statements are not yours to turn. If you find one false, say at which input.
  Laid BY PROGRAM, IN A SANDBOX (cutbox-rows.mjs): the forced cells as the released guide's own fill.sh prints them over the translation 6ab80641c1eafdb9… (all of the seat's roots in one cut). By AI agents, Wed Nov 11 2026. No macro, syntax, notation, axiom, sorry.
-/
import Derived.Test.YtjphnabogfiahaaDoorChecked
import GoSem.Claim
import GoSem.ClaimJoined
import GoSem.ClaimMapViews
import Derived.JoinedTies
import Derived.KernelRfl
namespace Go.Proofs.YtjphnabogfiahaaDoor
/- THE CELL 'sum', in the pinned program and in every row, IS THE sha256 OF THE DUMP (.gsa) THAT YtjphnabogfiahaaDoorProg.lean LOADS. Nothing in Lean hashes anything: it is a label: what it is worth is what the hold of that sum in a sandbox is worth. -/
noncomputable def Tryd.pinned : Pinned := { name := "ytjphnabogfiahaadoor", sum := "6ab80641c1eafdb9e24117d9d87618c73adf0e25dc605c292c5cb45bf28ad3ec", checked := Tryd.checked }
namespace Rows
def none {H : Type} : Left H := { results := [], args := [] }

/- WHAT THE LISTED PACKAGE-LEVEL VARIABLES READ AS WHEN THE CALL BEGINS. Each datum BY PROGRAM (the guide's laid-datum.mjs) off the statement by which the dump's own 'gosem.cut.vars' lays the variable. In a bare row this is a premise. The card (YtjphnabogfiahaaDoorCards.lean) ties it to the program's text. -/
def laid_tidemill_rec_uses {H : Type} : DataW H := .agg [.lit (.int .i64 0), .lit (.int .i64 24), .lit (.int .i64 63), .lit (.int .i64 199), .lit (.int .i64 7), .lit (.int .i64 3), .lit (.int .i64 0)]

/-- 'tidemilllaw03.RecRecords': WHATEVER THE INPUT: true; the input reads as it did. -/
def recRecordsSpec : ChangeSpec := { name := "recRecords", fn := fun _ => fun
  | [d1, d2] => { results := [.lit (.bool true)], args := [d1, d2] }
  | _ => none }
def recRecordsRow : OpenClaim := { program := "ytjphnabogfiahaadoor", sum := "6ab80641c1eafdb9e24117d9d87618c73adf0e25dc605c292c5cb45bf28ad3ec", func := "tidemill/tidemilllaw03.RecRecords", spec := "recRecords", named := ["tidemill/rec.uses"], apart := false, laid := [("tidemill/rec.uses", laid_tidemill_rec_uses)] }
def RecRecordsSaid : Prop := recRecordsRow.holds Tryd.pinned (OpenSpec.ofChange recRecordsSpec)

/-- ITS FALSE NEIGHBOUR: 'it returns false'. Refute it at one input. -/
def recRecordsWrong : ChangeSpec := { name := "recRecords", fn := fun _ => fun
  | [d1, d2] => { results := [.lit (.bool false)], args := [d1, d2] }
  | _ => none }
def RecRecordsWrongFalsely : Prop := recRecordsRow.holds Tryd.pinned (OpenSpec.ofChange recRecordsWrong)

/-- 'tidemilllaw03.RecEntries': WHATEVER THE INPUT: true; the input reads as it did. -/
def recEntriesSpec : ChangeSpec := { name := "recEntries", fn := fun _ => fun
  | [d1, d2] => { results := [.lit (.bool true)], args := [d1, d2] }
  | _ => none }
def recEntriesRow : OpenClaim := { program := "ytjphnabogfiahaadoor", sum := "6ab80641c1eafdb9e24117d9d87618c73adf0e25dc605c292c5cb45bf28ad3ec", func := "tidemill/tidemilllaw03.RecEntries", spec := "recEntries", named := ["tidemill/rec.uses"], apart := false, laid := [("tidemill/rec.uses", laid_tidemill_rec_uses)] }
def RecEntriesSaid : Prop := recEntriesRow.holds Tryd.pinned (OpenSpec.ofChange recEntriesSpec)

/-- ITS FALSE NEIGHBOUR: 'it returns false'. Refute it at one input. -/
def recEntriesWrong : ChangeSpec := { name := "recEntries", fn := fun _ => fun
  | [d1, d2] => { results := [.lit (.bool false)], args := [d1, d2] }
  | _ => none }
def RecEntriesWrongFalsely : Prop := recEntriesRow.holds Tryd.pinned (OpenSpec.ofChange recEntriesWrong)

/-- 'tidemilllaw03.RecBack': WHATEVER THE INPUT: true; the input reads as it did. -/
def recBackSpec : ChangeSpec := { name := "recBack", fn := fun _ => fun
  | [d1, d2, d3] => { results := [.lit (.bool true)], args := [d1, d2, d3] }
  | _ => none }
def recBackRow : OpenClaim := { program := "ytjphnabogfiahaadoor", sum := "6ab80641c1eafdb9e24117d9d87618c73adf0e25dc605c292c5cb45bf28ad3ec", func := "tidemill/tidemilllaw03.RecBack", spec := "recBack", named := ["tidemill/rec.uses"], apart := false, laid := [("tidemill/rec.uses", laid_tidemill_rec_uses)] }
def RecBackSaid : Prop := recBackRow.holds Tryd.pinned (OpenSpec.ofChange recBackSpec)

/-- ITS FALSE NEIGHBOUR: 'it returns false'. Refute it at one input. -/
def recBackWrong : ChangeSpec := { name := "recBack", fn := fun _ => fun
  | [d1, d2, d3] => { results := [.lit (.bool false)], args := [d1, d2, d3] }
  | _ => none }
def RecBackWrongFalsely : Prop := recBackRow.holds Tryd.pinned (OpenSpec.ofChange recBackWrong)

/-- 'tidemilllaw03.RecOnes': WHATEVER THE INPUT: true; the input reads as it did. -/
def recOnesSpec : ChangeSpec := { name := "recOnes", fn := fun _ => fun
  | [d] => { results := [.lit (.bool true)], args := [d] }
  | _ => none }
def recOnesRow : OpenClaim := { program := "ytjphnabogfiahaadoor", sum := "6ab80641c1eafdb9e24117d9d87618c73adf0e25dc605c292c5cb45bf28ad3ec", func := "tidemill/tidemilllaw03.RecOnes", spec := "recOnes", named := ["tidemill/rec.uses"], apart := false, laid := [("tidemill/rec.uses", laid_tidemill_rec_uses)] }
def RecOnesSaid : Prop := recOnesRow.holds Tryd.pinned (OpenSpec.ofChange recOnesSpec)

/-- ITS FALSE NEIGHBOUR: 'it returns false'. Refute it at one input. -/
def recOnesWrong : ChangeSpec := { name := "recOnes", fn := fun _ => fun
  | [d] => { results := [.lit (.bool false)], args := [d] }
  | _ => none }
def RecOnesWrongFalsely : Prop := recOnesRow.holds Tryd.pinned (OpenSpec.ofChange recOnesWrong)

/-- 'tidemilllaw03.RecKinds': WHATEVER THE INPUT: true; the input reads as it did. -/
def recKindsSpec : ChangeSpec := { name := "recKinds", fn := fun _ => fun
  | [d] => { results := [.lit (.bool true)], args := [d] }
  | _ => none }
def recKindsRow : OpenClaim := { program := "ytjphnabogfiahaadoor", sum := "6ab80641c1eafdb9e24117d9d87618c73adf0e25dc605c292c5cb45bf28ad3ec", func := "tidemill/tidemilllaw03.RecKinds", spec := "recKinds", named := ["tidemill/rec.uses"], apart := false, laid := [("tidemill/rec.uses", laid_tidemill_rec_uses)] }
def RecKindsSaid : Prop := recKindsRow.holds Tryd.pinned (OpenSpec.ofChange recKindsSpec)

/-- ITS FALSE NEIGHBOUR: 'it returns false'. Refute it at one input. -/
def recKindsWrong : ChangeSpec := { name := "recKinds", fn := fun _ => fun
  | [d] => { results := [.lit (.bool false)], args := [d] }
  | _ => none }
def RecKindsWrongFalsely : Prop := recKindsRow.holds Tryd.pinned (OpenSpec.ofChange recKindsWrong)

/-- 'tidemilllaw03.RecFences': WHATEVER THE INPUT: true; the input reads as it did. -/
def recFencesSpec : ChangeSpec := { name := "recFences", fn := fun _ => fun
  | [d1, d2, d3] => { results := [.lit (.bool true)], args := [d1, d2, d3] }
  | _ => none }
def recFencesRow : OpenClaim := { program := "ytjphnabogfiahaadoor", sum := "6ab80641c1eafdb9e24117d9d87618c73adf0e25dc605c292c5cb45bf28ad3ec", func := "tidemill/tidemilllaw03.RecFences", spec := "recFences", named := ["tidemill/rec.uses"], apart := false, laid := [("tidemill/rec.uses", laid_tidemill_rec_uses)] }
def RecFencesSaid : Prop := recFencesRow.holds Tryd.pinned (OpenSpec.ofChange recFencesSpec)

/-- ITS FALSE NEIGHBOUR: 'it returns false'. Refute it at one input. -/
def recFencesWrong : ChangeSpec := { name := "recFences", fn := fun _ => fun
  | [d1, d2, d3] => { results := [.lit (.bool false)], args := [d1, d2, d3] }
  | _ => none }
def RecFencesWrongFalsely : Prop := recFencesRow.holds Tryd.pinned (OpenSpec.ofChange recFencesWrong)

/- THE SECOND FORM. 'bulk': how many values and letters a reading holds, each counted each time it is reached (what is shared counts as often as it is met; a slice's spare places count too). A statement '..UptoSaid' is the law's where the arguments, and the package variables that the reading takes, are together of bulk at most 1048576: NARROWER than '..Said'. Prove '..Said' where nothing that the law and all that it calls make is longer than what came in: it says more and counts as full. Else prove '..UptoSaid'. A law counts once. -/
mutual
def uptoBulk {H : Type} : DataW H → Nat
  | .lit (.string bytes) => bytes.length + 1
  | .lit _ => 1
  | .nil => 1
  | .ptr d => uptoBulk d + 1
  | .slice elems spare => uptoBulkAll elems + uptoBulkAll spare + 1
  | .agg parts => uptoBulkAll parts + 1
  | .iface _ d => uptoBulk d + 1
  | .map entries => uptoBulkEntries entries + 1
  | .held _ => 1
def uptoBulkAll {H : Type} : List (DataW H) → Nat
  | [] => 0
  | d :: r => uptoBulk d + uptoBulkAll r
def uptoBulkEntries {H : Type} : List (Lit × DataW H) → Nat
  | [] => 0
  | x :: r => uptoBulkEntry x + uptoBulkEntries r
def uptoBulkEntry {H : Type} : Lit × DataW H → Nat
  | (.string bytes, d) => bytes.length + uptoBulk d + 1
  | (_, d) => uptoBulk d + 1
 end
def uptoSmall : (H : Type) → List (DataW H) → Bool := fun _ ds => decide (uptoBulkAll ds ≤ 1048576)
def OpenSpec.upto (s : _root_.Go.ChangeSpec) : _root_.Go.OpenSpec := { _root_.Go.OpenSpec.ofChange s with cond := some uptoSmall }

/-- 'tidemilllaw03.RecRecords', WHERE WHAT IT READS IS OF BULK AT MOST 1048576: true; the input reads as it did. -/
def recRecordsUptoRow : OpenClaim := { program := "ytjphnabogfiahaadoor", sum := "6ab80641c1eafdb9e24117d9d87618c73adf0e25dc605c292c5cb45bf28ad3ec", func := "tidemill/tidemilllaw03.RecRecords", spec := "recRecords", named := ["tidemill/rec.uses"], apart := false, laid := [("tidemill/rec.uses", laid_tidemill_rec_uses)], narrowed := true }
def RecRecordsUptoSaid : Prop := recRecordsUptoRow.holds Tryd.pinned (OpenSpec.upto recRecordsSpec)

/-- 'tidemilllaw03.RecEntries', WHERE WHAT IT READS IS OF BULK AT MOST 1048576: true; the input reads as it did. -/
def recEntriesUptoRow : OpenClaim := { program := "ytjphnabogfiahaadoor", sum := "6ab80641c1eafdb9e24117d9d87618c73adf0e25dc605c292c5cb45bf28ad3ec", func := "tidemill/tidemilllaw03.RecEntries", spec := "recEntries", named := ["tidemill/rec.uses"], apart := false, laid := [("tidemill/rec.uses", laid_tidemill_rec_uses)], narrowed := true }
def RecEntriesUptoSaid : Prop := recEntriesUptoRow.holds Tryd.pinned (OpenSpec.upto recEntriesSpec)

/-- 'tidemilllaw03.RecBack', WHERE WHAT IT READS IS OF BULK AT MOST 1048576: true; the input reads as it did. -/
def recBackUptoRow : OpenClaim := { program := "ytjphnabogfiahaadoor", sum := "6ab80641c1eafdb9e24117d9d87618c73adf0e25dc605c292c5cb45bf28ad3ec", func := "tidemill/tidemilllaw03.RecBack", spec := "recBack", named := ["tidemill/rec.uses"], apart := false, laid := [("tidemill/rec.uses", laid_tidemill_rec_uses)], narrowed := true }
def RecBackUptoSaid : Prop := recBackUptoRow.holds Tryd.pinned (OpenSpec.upto recBackSpec)

/-- 'tidemilllaw03.RecOnes', WHERE WHAT IT READS IS OF BULK AT MOST 1048576: true; the input reads as it did. -/
def recOnesUptoRow : OpenClaim := { program := "ytjphnabogfiahaadoor", sum := "6ab80641c1eafdb9e24117d9d87618c73adf0e25dc605c292c5cb45bf28ad3ec", func := "tidemill/tidemilllaw03.RecOnes", spec := "recOnes", named := ["tidemill/rec.uses"], apart := false, laid := [("tidemill/rec.uses", laid_tidemill_rec_uses)], narrowed := true }
def RecOnesUptoSaid : Prop := recOnesUptoRow.holds Tryd.pinned (OpenSpec.upto recOnesSpec)

/-- 'tidemilllaw03.RecKinds', WHERE WHAT IT READS IS OF BULK AT MOST 1048576: true; the input reads as it did. -/
def recKindsUptoRow : OpenClaim := { program := "ytjphnabogfiahaadoor", sum := "6ab80641c1eafdb9e24117d9d87618c73adf0e25dc605c292c5cb45bf28ad3ec", func := "tidemill/tidemilllaw03.RecKinds", spec := "recKinds", named := ["tidemill/rec.uses"], apart := false, laid := [("tidemill/rec.uses", laid_tidemill_rec_uses)], narrowed := true }
def RecKindsUptoSaid : Prop := recKindsUptoRow.holds Tryd.pinned (OpenSpec.upto recKindsSpec)

/-- 'tidemilllaw03.RecFences', WHERE WHAT IT READS IS OF BULK AT MOST 1048576: true; the input reads as it did. -/
def recFencesUptoRow : OpenClaim := { program := "ytjphnabogfiahaadoor", sum := "6ab80641c1eafdb9e24117d9d87618c73adf0e25dc605c292c5cb45bf28ad3ec", func := "tidemill/tidemilllaw03.RecFences", spec := "recFences", named := ["tidemill/rec.uses"], apart := false, laid := [("tidemill/rec.uses", laid_tidemill_rec_uses)], narrowed := true }
def RecFencesUptoSaid : Prop := recFencesUptoRow.holds Tryd.pinned (OpenSpec.upto recFencesSpec)

end Rows
end Go.Proofs.YtjphnabogfiahaaDoor
