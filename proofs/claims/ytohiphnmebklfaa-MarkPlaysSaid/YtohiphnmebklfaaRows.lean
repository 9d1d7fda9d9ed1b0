/-
  No cell of these rows narrows 'for every input' (looked for: loops, veiled, ifaces, maps, wideKeys, modest, calm, conditions, laid).
  DERIVED. THE GIVEN ROWS OF THIS SEAT. 10 by the template 'for every input the law returns true; each argument reads behind the call as it read before'; 0 by the template 'total and deterministic' (their statements: YtohiphnmebklfaaTotals.lean).
  GIVEN WITH THE SEED: the statements are not yours to turn. If you find one false, say at which input.
  Laid BY PROGRAM, IN A SANDBOX (cutbox-rows.mjs): the forced cells as the released guide's own fill.sh prints them over the translation 0455d037d9d04692… (all of the seat's roots in one cut). By AI agents, Wed Nov 11 2026. No macro, syntax, notation, axiom, sorry.
-/
import Derived.Test.YtohiphnmebklfaaChecked
import GoSem.Claim
import GoSem.ClaimJoined
import GoSem.ClaimMapViews
import Derived.JoinedTies
import Derived.KernelRfl
namespace Go.Proofs.Ytohiphnmebklfaa
/- THE CELL 'sum', in the pinned program and in every row, IS THE sha256 OF THE DUMP (.gsa) THAT YtohiphnmebklfaaProg.lean LOADS. Nothing in Lean hashes anything: it is a label: what it is worth is what the hold of that sum in a sandbox is worth. -/
noncomputable def Try.pinned : Pinned := { name := "ytohiphnmebklfaa", sum := "0455d037d9d04692cfd09c39b8777f92c384bab01155d9c09ce14d8dcce90257", checked := Try.checked }
namespace Rows
def none {H : Type} : Left H := { results := [], args := [] }

/-- 'tidemilllaw06.DiskFull': WHATEVER THE INPUT: true; the input reads as it did. -/
def diskFullSpec : ChangeSpec := { name := "diskFull", fn := fun _ => fun
  | [d1, d2] => { results := [.lit (.bool true)], args := [d1, d2] }
  | _ => none }
def diskFullRow : OpenClaim := { program := "ytohiphnmebklfaa", sum := "0455d037d9d04692cfd09c39b8777f92c384bab01155d9c09ce14d8dcce90257", func := "tidemill/tidemilllaw06.DiskFull", spec := "diskFull", apart := false }
def DiskFullSaid : Prop := diskFullRow.holds Try.pinned (OpenSpec.ofChange diskFullSpec)

/-- ITS FALSE NEIGHBOUR: 'it returns false'. Refute it at one input. -/
def diskFullWrong : ChangeSpec := { name := "diskFull", fn := fun _ => fun
  | [d1, d2] => { results := [.lit (.bool false)], args := [d1, d2] }
  | _ => none }
def DiskFullWrongFalsely : Prop := diskFullRow.holds Try.pinned (OpenSpec.ofChange diskFullWrong)

/-- 'tidemilllaw06.DiskStays': WHATEVER THE INPUT: true; the input reads as it did. -/
def diskStaysSpec : ChangeSpec := { name := "diskStays", fn := fun _ => fun
  | [d1, d2, d3, d4] => { results := [.lit (.bool true)], args := [d1, d2, d3, d4] }
  | _ => none }
def diskStaysRow : OpenClaim := { program := "ytohiphnmebklfaa", sum := "0455d037d9d04692cfd09c39b8777f92c384bab01155d9c09ce14d8dcce90257", func := "tidemill/tidemilllaw06.DiskStays", spec := "diskStays", apart := false }
def DiskStaysSaid : Prop := diskStaysRow.holds Try.pinned (OpenSpec.ofChange diskStaysSpec)

/-- ITS FALSE NEIGHBOUR: 'it returns false'. Refute it at one input. -/
def diskStaysWrong : ChangeSpec := { name := "diskStays", fn := fun _ => fun
  | [d1, d2, d3, d4] => { results := [.lit (.bool false)], args := [d1, d2, d3, d4] }
  | _ => none }
def DiskStaysWrongFalsely : Prop := diskStaysRow.holds Try.pinned (OpenSpec.ofChange diskStaysWrong)

/-- 'tidemilllaw06.DiskSyncs': WHATEVER THE INPUT: true; the input reads as it did. -/
def diskSyncsSpec : ChangeSpec := { name := "diskSyncs", fn := fun _ => fun
  | [d1, d2, d3] => { results := [.lit (.bool true)], args := [d1, d2, d3] }
  | _ => none }
def diskSyncsRow : OpenClaim := { program := "ytohiphnmebklfaa", sum := "0455d037d9d04692cfd09c39b8777f92c384bab01155d9c09ce14d8dcce90257", func := "tidemill/tidemilllaw06.DiskSyncs", spec := "diskSyncs", apart := false }
def DiskSyncsSaid : Prop := diskSyncsRow.holds Try.pinned (OpenSpec.ofChange diskSyncsSpec)

/-- ITS FALSE NEIGHBOUR: 'it returns false'. Refute it at one input. -/
def diskSyncsWrong : ChangeSpec := { name := "diskSyncs", fn := fun _ => fun
  | [d1, d2, d3] => { results := [.lit (.bool false)], args := [d1, d2, d3] }
  | _ => none }
def DiskSyncsWrongFalsely : Prop := diskSyncsRow.holds Try.pinned (OpenSpec.ofChange diskSyncsWrong)

/-- 'tidemilllaw06.DiskOwn': WHATEVER THE INPUT: true; the input reads as it did. -/
def diskOwnSpec : ChangeSpec := { name := "diskOwn", fn := fun _ => fun
  | [d1, d2] => { results := [.lit (.bool true)], args := [d1, d2] }
  | _ => none }
def diskOwnRow : OpenClaim := { program := "ytohiphnmebklfaa", sum := "0455d037d9d04692cfd09c39b8777f92c384bab01155d9c09ce14d8dcce90257", func := "tidemill/tidemilllaw06.DiskOwn", spec := "diskOwn", apart := false }
def DiskOwnSaid : Prop := diskOwnRow.holds Try.pinned (OpenSpec.ofChange diskOwnSpec)

/-- ITS FALSE NEIGHBOUR: 'it returns false'. Refute it at one input. -/
def diskOwnWrong : ChangeSpec := { name := "diskOwn", fn := fun _ => fun
  | [d1, d2] => { results := [.lit (.bool false)], args := [d1, d2] }
  | _ => none }
def DiskOwnWrongFalsely : Prop := diskOwnRow.holds Try.pinned (OpenSpec.ofChange diskOwnWrong)

/-- 'tidemilllaw06.DiskNobody': WHATEVER THE INPUT: true; the input reads as it did. -/
def diskNobodySpec : ChangeSpec := { name := "diskNobody", fn := fun _ => fun
  | [d] => { results := [.lit (.bool true)], args := [d] }
  | _ => none }
def diskNobodyRow : OpenClaim := { program := "ytohiphnmebklfaa", sum := "0455d037d9d04692cfd09c39b8777f92c384bab01155d9c09ce14d8dcce90257", func := "tidemill/tidemilllaw06.DiskNobody", spec := "diskNobody", apart := false }
def DiskNobodySaid : Prop := diskNobodyRow.holds Try.pinned (OpenSpec.ofChange diskNobodySpec)

/-- ITS FALSE NEIGHBOUR: 'it returns false'. Refute it at one input. -/
def diskNobodyWrong : ChangeSpec := { name := "diskNobody", fn := fun _ => fun
  | [d] => { results := [.lit (.bool false)], args := [d] }
  | _ => none }
def DiskNobodyWrongFalsely : Prop := diskNobodyRow.holds Try.pinned (OpenSpec.ofChange diskNobodyWrong)

/-- 'tidemilllaw06.DiskPlays': WHATEVER THE INPUT: true; the input reads as it did. -/
def diskPlaysSpec : ChangeSpec := { name := "diskPlays", fn := fun _ => fun
  | [d1, d2] => { results := [.lit (.bool true)], args := [d1, d2] }
  | _ => none }
def diskPlaysRow : OpenClaim := { program := "ytohiphnmebklfaa", sum := "0455d037d9d04692cfd09c39b8777f92c384bab01155d9c09ce14d8dcce90257", func := "tidemill/tidemilllaw06.DiskPlays", spec := "diskPlays", apart := false }
def DiskPlaysSaid : Prop := diskPlaysRow.holds Try.pinned (OpenSpec.ofChange diskPlaysSpec)

/-- ITS FALSE NEIGHBOUR: 'it returns false'. Refute it at one input. -/
def diskPlaysWrong : ChangeSpec := { name := "diskPlays", fn := fun _ => fun
  | [d1, d2] => { results := [.lit (.bool false)], args := [d1, d2] }
  | _ => none }
def DiskPlaysWrongFalsely : Prop := diskPlaysRow.holds Try.pinned (OpenSpec.ofChange diskPlaysWrong)

/-- 'tidemilllaw15.ChgBack': WHATEVER THE INPUT: true; the input reads as it did. -/
def chgBackSpec : ChangeSpec := { name := "chgBack", fn := fun _ => fun
  | [d1, d2] => { results := [.lit (.bool true)], args := [d1, d2] }
  | _ => none }
def chgBackRow : OpenClaim := { program := "ytohiphnmebklfaa", sum := "0455d037d9d04692cfd09c39b8777f92c384bab01155d9c09ce14d8dcce90257", func := "tidemill/tidemilllaw15.ChgBack", spec := "chgBack", apart := false }
def ChgBackSaid : Prop := chgBackRow.holds Try.pinned (OpenSpec.ofChange chgBackSpec)

/-- ITS FALSE NEIGHBOUR: 'it returns false'. Refute it at one input. -/
def chgBackWrong : ChangeSpec := { name := "chgBack", fn := fun _ => fun
  | [d1, d2] => { results := [.lit (.bool false)], args := [d1, d2] }
  | _ => none }
def ChgBackWrongFalsely : Prop := chgBackRow.holds Try.pinned (OpenSpec.ofChange chgBackWrong)

/-- 'tidemilllaw15.ChgRecords': WHATEVER THE INPUT: true; the input reads as it did. -/
def chgRecordsSpec : ChangeSpec := { name := "chgRecords", fn := fun _ => fun
  | [d1, d2, d3] => { results := [.lit (.bool true)], args := [d1, d2, d3] }
  | _ => none }
def chgRecordsRow : OpenClaim := { program := "ytohiphnmebklfaa", sum := "0455d037d9d04692cfd09c39b8777f92c384bab01155d9c09ce14d8dcce90257", func := "tidemill/tidemilllaw15.ChgRecords", spec := "chgRecords", apart := false }
def ChgRecordsSaid : Prop := chgRecordsRow.holds Try.pinned (OpenSpec.ofChange chgRecordsSpec)

/-- ITS FALSE NEIGHBOUR: 'it returns false'. Refute it at one input. -/
def chgRecordsWrong : ChangeSpec := { name := "chgRecords", fn := fun _ => fun
  | [d1, d2, d3] => { results := [.lit (.bool false)], args := [d1, d2, d3] }
  | _ => none }
def ChgRecordsWrongFalsely : Prop := chgRecordsRow.holds Try.pinned (OpenSpec.ofChange chgRecordsWrong)

/-- 'tidemilllaw22.AsgnGives': WHATEVER THE INPUT: true; the input reads as it did. -/
def asgnGivesSpec : ChangeSpec := { name := "asgnGives", fn := fun _ => fun
  | [d1, d2, d3] => { results := [.lit (.bool true)], args := [d1, d2, d3] }
  | _ => none }
def asgnGivesRow : OpenClaim := { program := "ytohiphnmebklfaa", sum := "0455d037d9d04692cfd09c39b8777f92c384bab01155d9c09ce14d8dcce90257", func := "tidemill/tidemilllaw22.AsgnGives", spec := "asgnGives", unfollowed := true, recurses := true, apart := false }
def AsgnGivesSaid : Prop := asgnGivesRow.holds Try.pinned (OpenSpec.ofChange asgnGivesSpec)

/-- ITS FALSE NEIGHBOUR: 'it returns false'. Refute it at one input. -/
def asgnGivesWrong : ChangeSpec := { name := "asgnGives", fn := fun _ => fun
  | [d1, d2, d3] => { results := [.lit (.bool false)], args := [d1, d2, d3] }
  | _ => none }
def AsgnGivesWrongFalsely : Prop := asgnGivesRow.holds Try.pinned (OpenSpec.ofChange asgnGivesWrong)

/-- 'tidemilllaw19.MarkPlays': WHATEVER THE INPUT: true; the input reads as it did. -/
def markPlaysSpec : ChangeSpec := { name := "markPlays", fn := fun _ => fun
  | [d1, d2] => { results := [.lit (.bool true)], args := [d1, d2] }
  | _ => none }
def markPlaysRow : OpenClaim := { program := "ytohiphnmebklfaa", sum := "0455d037d9d04692cfd09c39b8777f92c384bab01155d9c09ce14d8dcce90257", func := "tidemill/tidemilllaw19.MarkPlays", spec := "markPlays", recurses := true, apart := false }
def MarkPlaysSaid : Prop := markPlaysRow.holds Try.pinned (OpenSpec.ofChange markPlaysSpec)

/-- ITS FALSE NEIGHBOUR: 'it returns false'. Refute it at one input. -/
def markPlaysWrong : ChangeSpec := { name := "markPlays", fn := fun _ => fun
  | [d1, d2] => { results := [.lit (.bool false)], args := [d1, d2] }
  | _ => none }
def MarkPlaysWrongFalsely : Prop := markPlaysRow.holds Try.pinned (OpenSpec.ofChange markPlaysWrong)

/- THE SECOND FORM. 'bulk': how many values and letters a reading holds, each counted each time it is reached (what is shared counts as often as it is met; a slice's spare places count too). A statement '..UptoSaid' is the law's where the arguments, and the package variables that the reading takes, are together of bulk at most 1048576: NARROWER than '..Said'. Prove '..Said' where nothing that the law and all that it calls make is longer than what came in: it says more and counts as full. Else prove '..UptoSaid'. A law counts once. -/
mutual
def uptoBulk {H : Type} : DataW H → Nat
  | .lit (.string bytes) => bytes.length + 1
  | .lit _ => 1
  | .nil => 1
  | .ptr d => uptoBulk d + 1
  | .slice elems spare => uptoBulkAll elems + uptoBulkAll spare + 1
  | .agg parts => uptoBulkAll parts + 1
  | .iface _ d => uptoBulk d + 1
  | .map entries => uptoBulkEntries entries + 1
  | .held _ => 1
def uptoBulkAll {H : Type} : List (DataW H) → Nat
  | [] => 0
  | d :: r => uptoBulk d + uptoBulkAll r
def uptoBulkEntries {H : Type} : List (Lit × DataW H) → Nat
  | [] => 0
  | x :: r => uptoBulkEntry x + uptoBulkEntries r
def uptoBulkEntry {H : Type} : Lit × DataW H → Nat
  | (.string bytes, d) => bytes.length + uptoBulk d + 1
  | (_, d) => uptoBulk d + 1
 end
def uptoSmall : (H : Type) → List (DataW H) → Bool := fun _ ds => decide (uptoBulkAll ds ≤ 1048576)
def OpenSpec.upto (s : _root_.Go.ChangeSpec) : _root_.Go.OpenSpec := { _root_.Go.OpenSpec.ofChange s with cond := some uptoSmall }

/-- 'tidemilllaw06.DiskFull', WHERE WHAT IT READS IS OF BULK AT MOST 1048576: true; the input reads as it did. -/
def diskFullUptoRow : OpenClaim := { program := "ytohiphnmebklfaa", sum := "0455d037d9d04692cfd09c39b8777f92c384bab01155d9c09ce14d8dcce90257", func := "tidemill/tidemilllaw06.DiskFull", spec := "diskFull", apart := false, narrowed := true }
def DiskFullUptoSaid : Prop := diskFullUptoRow.holds Try.pinned (OpenSpec.upto diskFullSpec)

/-- 'tidemilllaw06.DiskStays', WHERE WHAT IT READS IS OF BULK AT MOST 1048576: true; the input reads as it did. -/
def diskStaysUptoRow : OpenClaim := { program := "ytohiphnmebklfaa", sum := "0455d037d9d04692cfd09c39b8777f92c384bab01155d9c09ce14d8dcce90257", func := "tidemill/tidemilllaw06.DiskStays", spec := "diskStays", apart := false, narrowed := true }
def DiskStaysUptoSaid : Prop := diskStaysUptoRow.holds Try.pinned (OpenSpec.upto diskStaysSpec)

/-- 'tidemilllaw06.DiskSyncs', WHERE WHAT IT READS IS OF BULK AT MOST 1048576: true; the input reads as it did. -/
def diskSyncsUptoRow : OpenClaim := { program := "ytohiphnmebklfaa", sum := "0455d037d9d04692cfd09c39b8777f92c384bab01155d9c09ce14d8dcce90257", func := "tidemill/tidemilllaw06.DiskSyncs", spec := "diskSyncs", apart := false, narrowed := true }
def DiskSyncsUptoSaid : Prop := diskSyncsUptoRow.holds Try.pinned (OpenSpec.upto diskSyncsSpec)

/-- 'tidemilllaw06.DiskOwn', WHERE WHAT IT READS IS OF BULK AT MOST 1048576: true; the input reads as it did. -/
def diskOwnUptoRow : OpenClaim := { program := "ytohiphnmebklfaa", sum := "0455d037d9d04692cfd09c39b8777f92c384bab01155d9c09ce14d8dcce90257", func := "tidemill/tidemilllaw06.DiskOwn", spec := "diskOwn", apart := false, narrowed := true }
def DiskOwnUptoSaid : Prop := diskOwnUptoRow.holds Try.pinned (OpenSpec.upto diskOwnSpec)

/-- 'tidemilllaw06.DiskNobody', WHERE WHAT IT READS IS OF BULK AT MOST 1048576: true; the input reads as it did. -/
def diskNobodyUptoRow : OpenClaim := { program := "ytohiphnmebklfaa", sum := "0455d037d9d04692cfd09c39b8777f92c384bab01155d9c09ce14d8dcce90257", func := "tidemill/tidemilllaw06.DiskNobody", spec := "diskNobody", apart := false, narrowed := true }
def DiskNobodyUptoSaid : Prop := diskNobodyUptoRow.holds Try.pinned (OpenSpec.upto diskNobodySpec)

/-- 'tidemilllaw06.DiskPlays', WHERE WHAT IT READS IS OF BULK AT MOST 1048576: true; the input reads as it did. -/
def diskPlaysUptoRow : OpenClaim := { program := "ytohiphnmebklfaa", sum := "0455d037d9d04692cfd09c39b8777f92c384bab01155d9c09ce14d8dcce90257", func := "tidemill/tidemilllaw06.DiskPlays", spec := "diskPlays", apart := false, narrowed := true }
def DiskPlaysUptoSaid : Prop := diskPlaysUptoRow.holds Try.pinned (OpenSpec.upto diskPlaysSpec)

/-- 'tidemilllaw15.ChgBack', WHERE WHAT IT READS IS OF BULK AT MOST 1048576: true; the input reads as it did. -/
def chgBackUptoRow : OpenClaim := { program := "ytohiphnmebklfaa", sum := "0455d037d9d04692cfd09c39b8777f92c384bab01155d9c09ce14d8dcce90257", func := "tidemill/tidemilllaw15.ChgBack", spec := "chgBack", apart := false, narrowed := true }
def ChgBackUptoSaid : Prop := chgBackUptoRow.holds Try.pinned (OpenSpec.upto chgBackSpec)

/-- 'tidemilllaw15.ChgRecords', WHERE WHAT IT READS IS OF BULK AT MOST 1048576: true; the input reads as it did. -/
def chgRecordsUptoRow : OpenClaim := { program := "ytohiphnmebklfaa", sum := "0455d037d9d04692cfd09c39b8777f92c384bab01155d9c09ce14d8dcce90257", func := "tidemill/tidemilllaw15.ChgRecords", spec := "chgRecords", apart := false, narrowed := true }
def ChgRecordsUptoSaid : Prop := chgRecordsUptoRow.holds Try.pinned (OpenSpec.upto chgRecordsSpec)

/-- 'tidemilllaw22.AsgnGives', WHERE WHAT IT READS IS OF BULK AT MOST 1048576: true; the input reads as it did. -/
def asgnGivesUptoRow : OpenClaim := { program := "ytohiphnmebklfaa", sum := "0455d037d9d04692cfd09c39b8777f92c384bab01155d9c09ce14d8dcce90257", func := "tidemill/tidemilllaw22.AsgnGives", spec := "asgnGives", unfollowed := true, recurses := true, apart := false, narrowed := true }
def AsgnGivesUptoSaid : Prop := asgnGivesUptoRow.holds Try.pinned (OpenSpec.upto asgnGivesSpec)

/-- 'tidemilllaw19.MarkPlays', WHERE WHAT IT READS IS OF BULK AT MOST 1048576: true; the input reads as it did. -/
def markPlaysUptoRow : OpenClaim := { program := "ytohiphnmebklfaa", sum := "0455d037d9d04692cfd09c39b8777f92c384bab01155d9c09ce14d8dcce90257", func := "tidemill/tidemilllaw19.MarkPlays", spec := "markPlays", recurses := true, apart := false, narrowed := true }
def MarkPlaysUptoSaid : Prop := markPlaysUptoRow.holds Try.pinned (OpenSpec.upto markPlaysSpec)

end Rows
end Go.Proofs.Ytohiphnmebklfaa
