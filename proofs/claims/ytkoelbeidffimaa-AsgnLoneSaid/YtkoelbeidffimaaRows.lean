/-
  No cell of these rows narrows 'for every input' (looked for: loops, veiled, ifaces, maps, wideKeys, modest, calm, conditions, laid).
  DERIVED. THE GIVEN ROWS OF THIS SEAT. 12 by the template 'for every input the law returns true; each argument reads behind the call as it read before'; 0 by the template 'total and deterministic' (their statements: YtkoelbeidffimaaTotals.lean).
  GIVEN WITH THE SEED: the statements are not yours to turn. If you find one false, say at which input.
  Laid BY PROGRAM, IN A SANDBOX (cutbox-rows.mjs): the forced cells as the released guide's own fill.sh prints them over the translation 94852aea33140588… (all of the seat's roots in one cut). By AI agents, Wed Nov 11 2026. No macro, syntax, notation, axiom, sorry.
-/
import Derived.Test.YtkoelbeidffimaaChecked
import GoSem.Claim
import GoSem.ClaimJoined
import GoSem.ClaimMapViews
import Derived.JoinedTies
import Derived.KernelRfl
namespace Go.Proofs.Ytkoelbeidffimaa
/- THE CELL 'sum', in the pinned program and in every row, IS THE sha256 OF THE DUMP (.gsa) THAT YtkoelbeidffimaaProg.lean LOADS. Nothing in Lean hashes anything: it is a label: what it is worth is what the hold of that sum in a sandbox is worth. -/
noncomputable def Try.pinned : Pinned := { name := "ytkoelbeidffimaa", sum := "94852aea33140588de56e3175859c3602a0dd09aa19b8a6a310925631ba89de3", checked := Try.checked }
namespace Rows
def none {H : Type} : Left H := { results := [], args := [] }

/-- 'tidemilllaw01.PackLays': WHATEVER THE INPUT: true; the input reads as it did. -/
def packLaysSpec : ChangeSpec := { name := "packLays", fn := fun _ => fun
  | [d1, d2, d3, d4, d5] => { results := [.lit (.bool true)], args := [d1, d2, d3, d4, d5] }
  | _ => none }
def packLaysRow : OpenClaim := { program := "ytkoelbeidffimaa", sum := "94852aea33140588de56e3175859c3602a0dd09aa19b8a6a310925631ba89de3", func := "tidemill/tidemilllaw01.PackLays", spec := "packLays", apart := false }
def PackLaysSaid : Prop := packLaysRow.holds Try.pinned (OpenSpec.ofChange packLaysSpec)

/-- ITS FALSE NEIGHBOUR: 'it returns false'. Refute it at one input. -/
def packLaysWrong : ChangeSpec := { name := "packLays", fn := fun _ => fun
  | [d1, d2, d3, d4, d5] => { results := [.lit (.bool false)], args := [d1, d2, d3, d4, d5] }
  | _ => none }
def PackLaysWrongFalsely : Prop := packLaysRow.holds Try.pinned (OpenSpec.ofChange packLaysWrong)

/-- 'tidemilllaw01.PackReads': WHATEVER THE INPUT: true; the input reads as it did. -/
def packReadsSpec : ChangeSpec := { name := "packReads", fn := fun _ => fun
  | [d1, d2, d3] => { results := [.lit (.bool true)], args := [d1, d2, d3] }
  | _ => none }
def packReadsRow : OpenClaim := { program := "ytkoelbeidffimaa", sum := "94852aea33140588de56e3175859c3602a0dd09aa19b8a6a310925631ba89de3", func := "tidemill/tidemilllaw01.PackReads", spec := "packReads", apart := false }
def PackReadsSaid : Prop := packReadsRow.holds Try.pinned (OpenSpec.ofChange packReadsSpec)

/-- ITS FALSE NEIGHBOUR: 'it returns false'. Refute it at one input. -/
def packReadsWrong : ChangeSpec := { name := "packReads", fn := fun _ => fun
  | [d1, d2, d3] => { results := [.lit (.bool false)], args := [d1, d2, d3] }
  | _ => none }
def PackReadsWrongFalsely : Prop := packReadsRow.holds Try.pinned (OpenSpec.ofChange packReadsWrong)

/-- 'tidemilllaw01.PackBack': WHATEVER THE INPUT: true; the input reads as it did. -/
def packBackSpec : ChangeSpec := { name := "packBack", fn := fun _ => fun
  | [d1, d2, d3, d4] => { results := [.lit (.bool true)], args := [d1, d2, d3, d4] }
  | _ => none }
def packBackRow : OpenClaim := { program := "ytkoelbeidffimaa", sum := "94852aea33140588de56e3175859c3602a0dd09aa19b8a6a310925631ba89de3", func := "tidemill/tidemilllaw01.PackBack", spec := "packBack", apart := false }
def PackBackSaid : Prop := packBackRow.holds Try.pinned (OpenSpec.ofChange packBackSpec)

/-- ITS FALSE NEIGHBOUR: 'it returns false'. Refute it at one input. -/
def packBackWrong : ChangeSpec := { name := "packBack", fn := fun _ => fun
  | [d1, d2, d3, d4] => { results := [.lit (.bool false)], args := [d1, d2, d3, d4] }
  | _ => none }
def PackBackWrongFalsely : Prop := packBackRow.holds Try.pinned (OpenSpec.ofChange packBackWrong)

/-- 'tidemilllaw01.PackOnes': WHATEVER THE INPUT: true; the input reads as it did. -/
def packOnesSpec : ChangeSpec := { name := "packOnes", fn := fun _ => fun
  | [d1, d2, d3] => { results := [.lit (.bool true)], args := [d1, d2, d3] }
  | _ => none }
def packOnesRow : OpenClaim := { program := "ytkoelbeidffimaa", sum := "94852aea33140588de56e3175859c3602a0dd09aa19b8a6a310925631ba89de3", func := "tidemill/tidemilllaw01.PackOnes", spec := "packOnes", apart := false }
def PackOnesSaid : Prop := packOnesRow.holds Try.pinned (OpenSpec.ofChange packOnesSpec)

/-- ITS FALSE NEIGHBOUR: 'it returns false'. Refute it at one input. -/
def packOnesWrong : ChangeSpec := { name := "packOnes", fn := fun _ => fun
  | [d1, d2, d3] => { results := [.lit (.bool false)], args := [d1, d2, d3] }
  | _ => none }
def PackOnesWrongFalsely : Prop := packOnesRow.holds Try.pinned (OpenSpec.ofChange packOnesWrong)

/-- 'tidemilllaw19.MarkRises': WHATEVER THE INPUT: true; the input reads as it did. -/
def markRisesSpec : ChangeSpec := { name := "markRises", fn := fun _ => fun
  | [d1, d2] => { results := [.lit (.bool true)], args := [d1, d2] }
  | _ => none }
def markRisesRow : OpenClaim := { program := "ytkoelbeidffimaa", sum := "94852aea33140588de56e3175859c3602a0dd09aa19b8a6a310925631ba89de3", func := "tidemill/tidemilllaw19.MarkRises", spec := "markRises", apart := false }
def MarkRisesSaid : Prop := markRisesRow.holds Try.pinned (OpenSpec.ofChange markRisesSpec)

/-- ITS FALSE NEIGHBOUR: 'it returns false'. Refute it at one input. -/
def markRisesWrong : ChangeSpec := { name := "markRises", fn := fun _ => fun
  | [d1, d2] => { results := [.lit (.bool false)], args := [d1, d2] }
  | _ => none }
def MarkRisesWrongFalsely : Prop := markRisesRow.holds Try.pinned (OpenSpec.ofChange markRisesWrong)

/-- 'tidemilllaw19.MarkOrder': WHATEVER THE INPUT: true; the input reads as it did. -/
def markOrderSpec : ChangeSpec := { name := "markOrder", fn := fun _ => fun
  | [d1, d2] => { results := [.lit (.bool true)], args := [d1, d2] }
  | _ => none }
def markOrderRow : OpenClaim := { program := "ytkoelbeidffimaa", sum := "94852aea33140588de56e3175859c3602a0dd09aa19b8a6a310925631ba89de3", func := "tidemill/tidemilllaw19.MarkOrder", spec := "markOrder", apart := false }
def MarkOrderSaid : Prop := markOrderRow.holds Try.pinned (OpenSpec.ofChange markOrderSpec)

/-- ITS FALSE NEIGHBOUR: 'it returns false'. Refute it at one input. -/
def markOrderWrong : ChangeSpec := { name := "markOrder", fn := fun _ => fun
  | [d1, d2] => { results := [.lit (.bool false)], args := [d1, d2] }
  | _ => none }
def MarkOrderWrongFalsely : Prop := markOrderRow.holds Try.pinned (OpenSpec.ofChange markOrderWrong)

/-- 'tidemilllaw19.MarkNobody': WHATEVER THE INPUT: true; the input reads as it did. -/
def markNobodySpec : ChangeSpec := { name := "markNobody", fn := fun _ => fun
  | [d1, d2] => { results := [.lit (.bool true)], args := [d1, d2] }
  | _ => none }
def markNobodyRow : OpenClaim := { program := "ytkoelbeidffimaa", sum := "94852aea33140588de56e3175859c3602a0dd09aa19b8a6a310925631ba89de3", func := "tidemill/tidemilllaw19.MarkNobody", spec := "markNobody", recurses := true, apart := false }
def MarkNobodySaid : Prop := markNobodyRow.holds Try.pinned (OpenSpec.ofChange markNobodySpec)

/-- ITS FALSE NEIGHBOUR: 'it returns false'. Refute it at one input. -/
def markNobodyWrong : ChangeSpec := { name := "markNobody", fn := fun _ => fun
  | [d1, d2] => { results := [.lit (.bool false)], args := [d1, d2] }
  | _ => none }
def MarkNobodyWrongFalsely : Prop := markNobodyRow.holds Try.pinned (OpenSpec.ofChange markNobodyWrong)

/-- 'tidemilllaw19.MarkOnes': WHATEVER THE INPUT: true; the input reads as it did. -/
def markOnesSpec : ChangeSpec := { name := "markOnes", fn := fun _ => fun
  | [d] => { results := [.lit (.bool true)], args := [d] }
  | _ => none }
def markOnesRow : OpenClaim := { program := "ytkoelbeidffimaa", sum := "94852aea33140588de56e3175859c3602a0dd09aa19b8a6a310925631ba89de3", func := "tidemill/tidemilllaw19.MarkOnes", spec := "markOnes", apart := false }
def MarkOnesSaid : Prop := markOnesRow.holds Try.pinned (OpenSpec.ofChange markOnesSpec)

/-- ITS FALSE NEIGHBOUR: 'it returns false'. Refute it at one input. -/
def markOnesWrong : ChangeSpec := { name := "markOnes", fn := fun _ => fun
  | [d] => { results := [.lit (.bool false)], args := [d] }
  | _ => none }
def MarkOnesWrongFalsely : Prop := markOnesRow.holds Try.pinned (OpenSpec.ofChange markOnesWrong)

/-- 'tidemilllaw22.AsgnShares': WHATEVER THE INPUT: true; the input reads as it did. -/
def asgnSharesSpec : ChangeSpec := { name := "asgnShares", fn := fun _ => fun
  | [d1, d2, d3] => { results := [.lit (.bool true)], args := [d1, d2, d3] }
  | _ => none }
def asgnSharesRow : OpenClaim := { program := "ytkoelbeidffimaa", sum := "94852aea33140588de56e3175859c3602a0dd09aa19b8a6a310925631ba89de3", func := "tidemill/tidemilllaw22.AsgnShares", spec := "asgnShares", unfollowed := true, recurses := true, apart := false }
def AsgnSharesSaid : Prop := asgnSharesRow.holds Try.pinned (OpenSpec.ofChange asgnSharesSpec)

/-- ITS FALSE NEIGHBOUR: 'it returns false'. Refute it at one input. -/
def asgnSharesWrong : ChangeSpec := { name := "asgnShares", fn := fun _ => fun
  | [d1, d2, d3] => { results := [.lit (.bool false)], args := [d1, d2, d3] }
  | _ => none }
def AsgnSharesWrongFalsely : Prop := asgnSharesRow.holds Try.pinned (OpenSpec.ofChange asgnSharesWrong)

/-- 'tidemilllaw22.AsgnKeeps': WHATEVER THE INPUT: true; the input reads as it did. -/
def asgnKeepsSpec : ChangeSpec := { name := "asgnKeeps", fn := fun _ => fun
  | [d1, d2, d3] => { results := [.lit (.bool true)], args := [d1, d2, d3] }
  | _ => none }
def asgnKeepsRow : OpenClaim := { program := "ytkoelbeidffimaa", sum := "94852aea33140588de56e3175859c3602a0dd09aa19b8a6a310925631ba89de3", func := "tidemill/tidemilllaw22.AsgnKeeps", spec := "asgnKeeps", unfollowed := true, recurses := true, apart := false }
def AsgnKeepsSaid : Prop := asgnKeepsRow.holds Try.pinned (OpenSpec.ofChange asgnKeepsSpec)

/-- ITS FALSE NEIGHBOUR: 'it returns false'. Refute it at one input. -/
def asgnKeepsWrong : ChangeSpec := { name := "asgnKeeps", fn := fun _ => fun
  | [d1, d2, d3] => { results := [.lit (.bool false)], args := [d1, d2, d3] }
  | _ => none }
def AsgnKeepsWrongFalsely : Prop := asgnKeepsRow.holds Try.pinned (OpenSpec.ofChange asgnKeepsWrong)

/-- 'tidemilllaw22.AsgnLone': WHATEVER THE INPUT: true; the input reads as it did. -/
def asgnLoneSpec : ChangeSpec := { name := "asgnLone", fn := fun _ => fun
  | [d1, d2, d3] => { results := [.lit (.bool true)], args := [d1, d2, d3] }
  | _ => none }
def asgnLoneRow : OpenClaim := { program := "ytkoelbeidffimaa", sum := "94852aea33140588de56e3175859c3602a0dd09aa19b8a6a310925631ba89de3", func := "tidemill/tidemilllaw22.AsgnLone", spec := "asgnLone", unfollowed := true, recurses := true, apart := false }
def AsgnLoneSaid : Prop := asgnLoneRow.holds Try.pinned (OpenSpec.ofChange asgnLoneSpec)

/-- ITS FALSE NEIGHBOUR: 'it returns false'. Refute it at one input. -/
def asgnLoneWrong : ChangeSpec := { name := "asgnLone", fn := fun _ => fun
  | [d1, d2, d3] => { results := [.lit (.bool false)], args := [d1, d2, d3] }
  | _ => none }
def AsgnLoneWrongFalsely : Prop := asgnLoneRow.holds Try.pinned (OpenSpec.ofChange asgnLoneWrong)

/-- 'tidemilllaw22.AsgnRises': WHATEVER THE INPUT: true; the input reads as it did. -/
def asgnRisesSpec : ChangeSpec := { name := "asgnRises", fn := fun _ => fun
  | [d1, d2] => { results := [.lit (.bool true)], args := [d1, d2] }
  | _ => none }
def asgnRisesRow : OpenClaim := { program := "ytkoelbeidffimaa", sum := "94852aea33140588de56e3175859c3602a0dd09aa19b8a6a310925631ba89de3", func := "tidemill/tidemilllaw22.AsgnRises", spec := "asgnRises", unfollowed := true, recurses := true, apart := false }
def AsgnRisesSaid : Prop := asgnRisesRow.holds Try.pinned (OpenSpec.ofChange asgnRisesSpec)

/-- ITS FALSE NEIGHBOUR: 'it returns false'. Refute it at one input. -/
def asgnRisesWrong : ChangeSpec := { name := "asgnRises", fn := fun _ => fun
  | [d1, d2] => { results := [.lit (.bool false)], args := [d1, d2] }
  | _ => none }
def AsgnRisesWrongFalsely : Prop := asgnRisesRow.holds Try.pinned (OpenSpec.ofChange asgnRisesWrong)

/- THE SECOND FORM. 'bulk': how many values and letters a reading holds, each counted each time it is reached (what is shared counts as often as it is met; a slice's spare places count too). A statement '..UptoSaid' is the law's where the arguments, and the package variables that the reading takes, are together of bulk at most 1048576: NARROWER than '..Said'. Prove '..Said' where nothing that the law and all that it calls make is longer than what came in: it says more and counts as full. Else prove '..UptoSaid'. A law counts once. -/
mutual
def uptoBulk {H : Type} : DataW H → Nat
  | .lit (.string bytes) => bytes.length + 1
  | .lit _ => 1
  | .nil => 1
  | .ptr d => uptoBulk d + 1
  | .slice elems spare => uptoBulkAll elems + uptoBulkAll spare + 1
  | .agg parts => uptoBulkAll parts + 1
  | .iface _ d => uptoBulk d + 1
  | .map entries => uptoBulkEntries entries + 1
  | .held _ => 1
def uptoBulkAll {H : Type} : List (DataW H) → Nat
  | [] => 0
  | d :: r => uptoBulk d + uptoBulkAll r
def uptoBulkEntries {H : Type} : List (Lit × DataW H) → Nat
  | [] => 0
  | x :: r => uptoBulkEntry x + uptoBulkEntries r
def uptoBulkEntry {H : Type} : Lit × DataW H → Nat
  | (.string bytes, d) => bytes.length + uptoBulk d + 1
  | (_, d) => uptoBulk d + 1
 end
def uptoSmall : (H : Type) → List (DataW H) → Bool := fun _ ds => decide (uptoBulkAll ds ≤ 1048576)
def OpenSpec.upto (s : _root_.Go.ChangeSpec) : _root_.Go.OpenSpec := { _root_.Go.OpenSpec.ofChange s with cond := some uptoSmall }

/-- 'tidemilllaw01.PackLays', WHERE WHAT IT READS IS OF BULK AT MOST 1048576: true; the input reads as it did. -/
def packLaysUptoRow : OpenClaim := { program := "ytkoelbeidffimaa", sum := "94852aea33140588de56e3175859c3602a0dd09aa19b8a6a310925631ba89de3", func := "tidemill/tidemilllaw01.PackLays", spec := "packLays", apart := false, narrowed := true }
def PackLaysUptoSaid : Prop := packLaysUptoRow.holds Try.pinned (OpenSpec.upto packLaysSpec)

/-- 'tidemilllaw01.PackReads', WHERE WHAT IT READS IS OF BULK AT MOST 1048576: true; the input reads as it did. -/
def packReadsUptoRow : OpenClaim := { program := "ytkoelbeidffimaa", sum := "94852aea33140588de56e3175859c3602a0dd09aa19b8a6a310925631ba89de3", func := "tidemill/tidemilllaw01.PackReads", spec := "packReads", apart := false, narrowed := true }
def PackReadsUptoSaid : Prop := packReadsUptoRow.holds Try.pinned (OpenSpec.upto packReadsSpec)

/-- 'tidemilllaw01.PackBack', WHERE WHAT IT READS IS OF BULK AT MOST 1048576: true; the input reads as it did. -/
def packBackUptoRow : OpenClaim := { program := "ytkoelbeidffimaa", sum := "94852aea33140588de56e3175859c3602a0dd09aa19b8a6a310925631ba89de3", func := "tidemill/tidemilllaw01.PackBack", spec := "packBack", apart := false, narrowed := true }
def PackBackUptoSaid : Prop := packBackUptoRow.holds Try.pinned (OpenSpec.upto packBackSpec)

/-- 'tidemilllaw01.PackOnes', WHERE WHAT IT READS IS OF BULK AT MOST 1048576: true; the input reads as it did. -/
def packOnesUptoRow : OpenClaim := { program := "ytkoelbeidffimaa", sum := "94852aea33140588de56e3175859c3602a0dd09aa19b8a6a310925631ba89de3", func := "tidemill/tidemilllaw01.PackOnes", spec := "packOnes", apart := false, narrowed := true }
def PackOnesUptoSaid : Prop := packOnesUptoRow.holds Try.pinned (OpenSpec.upto packOnesSpec)

/-- 'tidemilllaw19.MarkRises', WHERE WHAT IT READS IS OF BULK AT MOST 1048576: true; the input reads as it did. -/
def markRisesUptoRow : OpenClaim := { program := "ytkoelbeidffimaa", sum := "94852aea33140588de56e3175859c3602a0dd09aa19b8a6a310925631ba89de3", func := "tidemill/tidemilllaw19.MarkRises", spec := "markRises", apart := false, narrowed := true }
def MarkRisesUptoSaid : Prop := markRisesUptoRow.holds Try.pinned (OpenSpec.upto markRisesSpec)

/-- 'tidemilllaw19.MarkOrder', WHERE WHAT IT READS IS OF BULK AT MOST 1048576: true; the input reads as it did. -/
def markOrderUptoRow : OpenClaim := { program := "ytkoelbeidffimaa", sum := "94852aea33140588de56e3175859c3602a0dd09aa19b8a6a310925631ba89de3", func := "tidemill/tidemilllaw19.MarkOrder", spec := "markOrder", apart := false, narrowed := true }
def MarkOrderUptoSaid : Prop := markOrderUptoRow.holds Try.pinned (OpenSpec.upto markOrderSpec)

/-- 'tidemilllaw19.MarkNobody', WHERE WHAT IT READS IS OF BULK AT MOST 1048576: true; the input reads as it did. -/
def markNobodyUptoRow : OpenClaim := { program := "ytkoelbeidffimaa", sum := "94852aea33140588de56e3175859c3602a0dd09aa19b8a6a310925631ba89de3", func := "tidemill/tidemilllaw19.MarkNobody", spec := "markNobody", recurses := true, apart := false, narrowed := true }
def MarkNobodyUptoSaid : Prop := markNobodyUptoRow.holds Try.pinned (OpenSpec.upto markNobodySpec)

/-- 'tidemilllaw19.MarkOnes', WHERE WHAT IT READS IS OF BULK AT MOST 1048576: true; the input reads as it did. -/
def markOnesUptoRow : OpenClaim := { program := "ytkoelbeidffimaa", sum := "94852aea33140588de56e3175859c3602a0dd09aa19b8a6a310925631ba89de3", func := "tidemill/tidemilllaw19.MarkOnes", spec := "markOnes", apart := false, narrowed := true }
def MarkOnesUptoSaid : Prop := markOnesUptoRow.holds Try.pinned (OpenSpec.upto markOnesSpec)

/-- 'tidemilllaw22.AsgnShares', WHERE WHAT IT READS IS OF BULK AT MOST 1048576: true; the input reads as it did. -/
def asgnSharesUptoRow : OpenClaim := { program := "ytkoelbeidffimaa", sum := "94852aea33140588de56e3175859c3602a0dd09aa19b8a6a310925631ba89de3", func := "tidemill/tidemilllaw22.AsgnShares", spec := "asgnShares", unfollowed := true, recurses := true, apart := false, narrowed := true }
def AsgnSharesUptoSaid : Prop := asgnSharesUptoRow.holds Try.pinned (OpenSpec.upto asgnSharesSpec)

/-- 'tidemilllaw22.AsgnKeeps', WHERE WHAT IT READS IS OF BULK AT MOST 1048576: true; the input reads as it did. -/
def asgnKeepsUptoRow : OpenClaim := { program := "ytkoelbeidffimaa", sum := "94852aea33140588de56e3175859c3602a0dd09aa19b8a6a310925631ba89de3", func := "tidemill/tidemilllaw22.AsgnKeeps", spec := "asgnKeeps", unfollowed := true, recurses := true, apart := false, narrowed := true }
def AsgnKeepsUptoSaid : Prop := asgnKeepsUptoRow.holds Try.pinned (OpenSpec.upto asgnKeepsSpec)

/-- 'tidemilllaw22.AsgnLone', WHERE WHAT IT READS IS OF BULK AT MOST 1048576: true; the input reads as it did. -/
def asgnLoneUptoRow : OpenClaim := { program := "ytkoelbeidffimaa", sum := "94852aea33140588de56e3175859c3602a0dd09aa19b8a6a310925631ba89de3", func := "tidemill/tidemilllaw22.AsgnLone", spec := "asgnLone", unfollowed := true, recurses := true, apart := false, narrowed := true }
def AsgnLoneUptoSaid : Prop := asgnLoneUptoRow.holds Try.pinned (OpenSpec.upto asgnLoneSpec)

/-- 'tidemilllaw22.AsgnRises', WHERE WHAT IT READS IS OF BULK AT MOST 1048576: true; the input reads as it did. -/
def asgnRisesUptoRow : OpenClaim := { program := "ytkoelbeidffimaa", sum := "94852aea33140588de56e3175859c3602a0dd09aa19b8a6a310925631ba89de3", func := "tidemill/tidemilllaw22.AsgnRises", spec := "asgnRises", unfollowed := true, recurses := true, apart := false, narrowed := true }
def AsgnRisesUptoSaid : Prop := asgnRisesUptoRow.holds Try.pinned (OpenSpec.upto asgnRisesSpec)

end Rows
end Go.Proofs.Ytkoelbeidffimaa
