/-
  No cell of these rows narrows 'for every input' (looked for: loops, veiled, ifaces, maps, wideKeys, modest, calm, conditions, laid).
  DERIVED. THE GIVEN ROWS OF THIS SEAT. 10 by the template 'for every input the law returns true; each argument reads behind the call as it read before'; 0 by the template 'total and deterministic' (their statements: YtlbekgogjlchjaaTotals.lean).
  GIVEN WITH THE SEED: the statements are not yours to turn. If you find one false, say at which input.
  Laid BY PROGRAM, IN A SANDBOX (cutbox-rows.mjs): the forced cells as the released guide's own fill.sh prints them over the translation b36c777bade43741… (all of the seat's roots in one cut). By AI agents, Wed Nov 11 2026. No macro, syntax, notation, axiom, sorry.
-/
import Derived.Test.YtlbekgogjlchjaaChecked
import GoSem.Claim
import GoSem.ClaimJoined
import GoSem.ClaimMapViews
import Derived.JoinedTies
import Derived.KernelRfl
namespace Go.Proofs.Ytlbekgogjlchjaa
/- THE CELL 'sum', in the pinned program and in every row, IS THE sha256 OF THE DUMP (.gsa) THAT YtlbekgogjlchjaaProg.lean LOADS. Nothing in Lean hashes anything: it is a label: what it is worth is what the hold of that sum in a sandbox is worth. -/
noncomputable def Try.pinned : Pinned := { name := "ytlbekgogjlchjaa", sum := "b36c777bade437419e005e0d077e648e6fd897ad7de0907134662e4f828440c5", checked := Try.checked }
namespace Rows
def none {H : Type} : Left H := { results := [], args := [] }

/-- 'tidemilllaw08.SlotStays': WHATEVER THE INPUT: true; the input reads as it did. -/
def slotStaysSpec : ChangeSpec := { name := "slotStays", fn := fun _ => fun
  | [d] => { results := [.lit (.bool true)], args := [d] }
  | _ => none }
def slotStaysRow : OpenClaim := { program := "ytlbekgogjlchjaa", sum := "b36c777bade437419e005e0d077e648e6fd897ad7de0907134662e4f828440c5", func := "tidemill/tidemilllaw08.SlotStays", spec := "slotStays", unfollowed := true, recurses := true, apart := false }
def SlotStaysSaid : Prop := slotStaysRow.holds Try.pinned (OpenSpec.ofChange slotStaysSpec)

/-- ITS FALSE NEIGHBOUR: 'it returns false'. Refute it at one input. -/
def slotStaysWrong : ChangeSpec := { name := "slotStays", fn := fun _ => fun
  | [d] => { results := [.lit (.bool false)], args := [d] }
  | _ => none }
def SlotStaysWrongFalsely : Prop := slotStaysRow.holds Try.pinned (OpenSpec.ofChange slotStaysWrong)

/-- 'tidemilllaw08.SlotSealed': WHATEVER THE INPUT: true; the input reads as it did. -/
def slotSealedSpec : ChangeSpec := { name := "slotSealed", fn := fun _ => fun
  | [d] => { results := [.lit (.bool true)], args := [d] }
  | _ => none }
def slotSealedRow : OpenClaim := { program := "ytlbekgogjlchjaa", sum := "b36c777bade437419e005e0d077e648e6fd897ad7de0907134662e4f828440c5", func := "tidemill/tidemilllaw08.SlotSealed", spec := "slotSealed", unfollowed := true, recurses := true, apart := false }
def SlotSealedSaid : Prop := slotSealedRow.holds Try.pinned (OpenSpec.ofChange slotSealedSpec)

/-- ITS FALSE NEIGHBOUR: 'it returns false'. Refute it at one input. -/
def slotSealedWrong : ChangeSpec := { name := "slotSealed", fn := fun _ => fun
  | [d] => { results := [.lit (.bool false)], args := [d] }
  | _ => none }
def SlotSealedWrongFalsely : Prop := slotSealedRow.holds Try.pinned (OpenSpec.ofChange slotSealedWrong)

/-- 'tidemilllaw08.SlotAgain': WHATEVER THE INPUT: true; the input reads as it did. -/
def slotAgainSpec : ChangeSpec := { name := "slotAgain", fn := fun _ => fun
  | [d1, d2, d3, d4] => { results := [.lit (.bool true)], args := [d1, d2, d3, d4] }
  | _ => none }
def slotAgainRow : OpenClaim := { program := "ytlbekgogjlchjaa", sum := "b36c777bade437419e005e0d077e648e6fd897ad7de0907134662e4f828440c5", func := "tidemill/tidemilllaw08.SlotAgain", spec := "slotAgain", unfollowed := true, recurses := true, apart := false }
def SlotAgainSaid : Prop := slotAgainRow.holds Try.pinned (OpenSpec.ofChange slotAgainSpec)

/-- ITS FALSE NEIGHBOUR: 'it returns false'. Refute it at one input. -/
def slotAgainWrong : ChangeSpec := { name := "slotAgain", fn := fun _ => fun
  | [d1, d2, d3, d4] => { results := [.lit (.bool false)], args := [d1, d2, d3, d4] }
  | _ => none }
def SlotAgainWrongFalsely : Prop := slotAgainRow.holds Try.pinned (OpenSpec.ofChange slotAgainWrong)

/-- 'tidemilllaw08.SlotNobody': WHATEVER THE INPUT: true; the input reads as it did. -/
def slotNobodySpec : ChangeSpec := { name := "slotNobody", fn := fun _ => fun
  | [d] => { results := [.lit (.bool true)], args := [d] }
  | _ => none }
def slotNobodyRow : OpenClaim := { program := "ytlbekgogjlchjaa", sum := "b36c777bade437419e005e0d077e648e6fd897ad7de0907134662e4f828440c5", func := "tidemill/tidemilllaw08.SlotNobody", spec := "slotNobody", unfollowed := true, recurses := true, apart := false }
def SlotNobodySaid : Prop := slotNobodyRow.holds Try.pinned (OpenSpec.ofChange slotNobodySpec)

/-- ITS FALSE NEIGHBOUR: 'it returns false'. Refute it at one input. -/
def slotNobodyWrong : ChangeSpec := { name := "slotNobody", fn := fun _ => fun
  | [d] => { results := [.lit (.bool false)], args := [d] }
  | _ => none }
def SlotNobodyWrongFalsely : Prop := slotNobodyRow.holds Try.pinned (OpenSpec.ofChange slotNobodyWrong)

/-- 'tidemilllaw08.SlotTails': WHATEVER THE INPUT: true; the input reads as it did. -/
def slotTailsSpec : ChangeSpec := { name := "slotTails", fn := fun _ => fun
  | [d] => { results := [.lit (.bool true)], args := [d] }
  | _ => none }
def slotTailsRow : OpenClaim := { program := "ytlbekgogjlchjaa", sum := "b36c777bade437419e005e0d077e648e6fd897ad7de0907134662e4f828440c5", func := "tidemill/tidemilllaw08.SlotTails", spec := "slotTails", unfollowed := true, recurses := true, apart := false }
def SlotTailsSaid : Prop := slotTailsRow.holds Try.pinned (OpenSpec.ofChange slotTailsSpec)

/-- ITS FALSE NEIGHBOUR: 'it returns false'. Refute it at one input. -/
def slotTailsWrong : ChangeSpec := { name := "slotTails", fn := fun _ => fun
  | [d] => { results := [.lit (.bool false)], args := [d] }
  | _ => none }
def SlotTailsWrongFalsely : Prop := slotTailsRow.holds Try.pinned (OpenSpec.ofChange slotTailsWrong)

/-- 'tidemilllaw10.SlogStays': WHATEVER THE INPUT: true; the input reads as it did. -/
def slogStaysSpec : ChangeSpec := { name := "slogStays", fn := fun _ => fun
  | [d1, d2] => { results := [.lit (.bool true)], args := [d1, d2] }
  | _ => none }
def slogStaysRow : OpenClaim := { program := "ytlbekgogjlchjaa", sum := "b36c777bade437419e005e0d077e648e6fd897ad7de0907134662e4f828440c5", func := "tidemill/tidemilllaw10.SlogStays", spec := "slogStays", inPlace := ["sync/atomic.AddInt64", "sync/atomic.LoadInt64"], unfollowed := true, recurses := true, apart := false }
def SlogStaysSaid : Prop := slogStaysRow.holds Try.pinned (OpenSpec.ofChange slogStaysSpec)

/-- ITS FALSE NEIGHBOUR: 'it returns false'. Refute it at one input. -/
def slogStaysWrong : ChangeSpec := { name := "slogStays", fn := fun _ => fun
  | [d1, d2] => { results := [.lit (.bool false)], args := [d1, d2] }
  | _ => none }
def SlogStaysWrongFalsely : Prop := slogStaysRow.holds Try.pinned (OpenSpec.ofChange slogStaysWrong)

/-- 'tidemilllaw10.SlogMinor': WHATEVER THE INPUT: true; the input reads as it did. -/
def slogMinorSpec : ChangeSpec := { name := "slogMinor", fn := fun _ => fun
  | [d1, d2, d3] => { results := [.lit (.bool true)], args := [d1, d2, d3] }
  | _ => none }
def slogMinorRow : OpenClaim := { program := "ytlbekgogjlchjaa", sum := "b36c777bade437419e005e0d077e648e6fd897ad7de0907134662e4f828440c5", func := "tidemill/tidemilllaw10.SlogMinor", spec := "slogMinor", inPlace := ["sync/atomic.AddInt64", "sync/atomic.LoadInt64"], unfollowed := true, recurses := true, apart := false }
def SlogMinorSaid : Prop := slogMinorRow.holds Try.pinned (OpenSpec.ofChange slogMinorSpec)

/-- ITS FALSE NEIGHBOUR: 'it returns false'. Refute it at one input. -/
def slogMinorWrong : ChangeSpec := { name := "slogMinor", fn := fun _ => fun
  | [d1, d2, d3] => { results := [.lit (.bool false)], args := [d1, d2, d3] }
  | _ => none }
def SlogMinorWrongFalsely : Prop := slogMinorRow.holds Try.pinned (OpenSpec.ofChange slogMinorWrong)

/-- 'tidemilllaw10.SlogLoses': WHATEVER THE INPUT: true; the input reads as it did. -/
def slogLosesSpec : ChangeSpec := { name := "slogLoses", fn := fun _ => fun
  | [d1, d2] => { results := [.lit (.bool true)], args := [d1, d2] }
  | _ => none }
def slogLosesRow : OpenClaim := { program := "ytlbekgogjlchjaa", sum := "b36c777bade437419e005e0d077e648e6fd897ad7de0907134662e4f828440c5", func := "tidemill/tidemilllaw10.SlogLoses", spec := "slogLoses", inPlace := ["sync/atomic.AddInt64", "sync/atomic.LoadInt64"], unfollowed := true, recurses := true, apart := false }
def SlogLosesSaid : Prop := slogLosesRow.holds Try.pinned (OpenSpec.ofChange slogLosesSpec)

/-- ITS FALSE NEIGHBOUR: 'it returns false'. Refute it at one input. -/
def slogLosesWrong : ChangeSpec := { name := "slogLoses", fn := fun _ => fun
  | [d1, d2] => { results := [.lit (.bool false)], args := [d1, d2] }
  | _ => none }
def SlogLosesWrongFalsely : Prop := slogLosesRow.holds Try.pinned (OpenSpec.ofChange slogLosesWrong)

/-- 'tidemilllaw10.SlogNobody': WHATEVER THE INPUT: true; the input reads as it did. -/
def slogNobodySpec : ChangeSpec := { name := "slogNobody", fn := fun _ => fun
  | [d1, d2] => { results := [.lit (.bool true)], args := [d1, d2] }
  | _ => none }
def slogNobodyRow : OpenClaim := { program := "ytlbekgogjlchjaa", sum := "b36c777bade437419e005e0d077e648e6fd897ad7de0907134662e4f828440c5", func := "tidemill/tidemilllaw10.SlogNobody", spec := "slogNobody", inPlace := ["sync/atomic.AddInt64", "sync/atomic.LoadInt64"], unfollowed := true, recurses := true, apart := false }
def SlogNobodySaid : Prop := slogNobodyRow.holds Try.pinned (OpenSpec.ofChange slogNobodySpec)

/-- ITS FALSE NEIGHBOUR: 'it returns false'. Refute it at one input. -/
def slogNobodyWrong : ChangeSpec := { name := "slogNobody", fn := fun _ => fun
  | [d1, d2] => { results := [.lit (.bool false)], args := [d1, d2] }
  | _ => none }
def SlogNobodyWrongFalsely : Prop := slogNobodyRow.holds Try.pinned (OpenSpec.ofChange slogNobodyWrong)

/-- 'tidemilllaw10.SlogOpens': WHATEVER THE INPUT: true; the input reads as it did. -/
def slogOpensSpec : ChangeSpec := { name := "slogOpens", fn := fun _ => fun
  | [d1, d2] => { results := [.lit (.bool true)], args := [d1, d2] }
  | _ => none }
def slogOpensRow : OpenClaim := { program := "ytlbekgogjlchjaa", sum := "b36c777bade437419e005e0d077e648e6fd897ad7de0907134662e4f828440c5", func := "tidemill/tidemilllaw10.SlogOpens", spec := "slogOpens", inPlace := ["sync/atomic.AddInt64", "sync/atomic.LoadInt64"], unfollowed := true, recurses := true, apart := false }
def SlogOpensSaid : Prop := slogOpensRow.holds Try.pinned (OpenSpec.ofChange slogOpensSpec)

/-- ITS FALSE NEIGHBOUR: 'it returns false'. Refute it at one input. -/
def slogOpensWrong : ChangeSpec := { name := "slogOpens", fn := fun _ => fun
  | [d1, d2] => { results := [.lit (.bool false)], args := [d1, d2] }
  | _ => none }
def SlogOpensWrongFalsely : Prop := slogOpensRow.holds Try.pinned (OpenSpec.ofChange slogOpensWrong)

/- THE SECOND FORM. 'bulk': how many values and letters a reading holds, each counted each time it is reached (what is shared counts as often as it is met; a slice's spare places count too). A statement '..UptoSaid' is the law's where the arguments, and the package variables that the reading takes, are together of bulk at most 1048576: NARROWER than '..Said'. Prove '..Said' where nothing that the law and all that it calls make is longer than what came in: it says more and counts as full. Else prove '..UptoSaid'. A law counts once. -/
mutual
def uptoBulk {H : Type} : DataW H → Nat
  | .lit (.string bytes) => bytes.length + 1
  | .lit _ => 1
  | .nil => 1
  | .ptr d => uptoBulk d + 1
  | .slice elems spare => uptoBulkAll elems + uptoBulkAll spare + 1
  | .agg parts => uptoBulkAll parts + 1
  | .iface _ d => uptoBulk d + 1
  | .map entries => uptoBulkEntries entries + 1
  | .held _ => 1
def uptoBulkAll {H : Type} : List (DataW H) → Nat
  | [] => 0
  | d :: r => uptoBulk d + uptoBulkAll r
def uptoBulkEntries {H : Type} : List (Lit × DataW H) → Nat
  | [] => 0
  | x :: r => uptoBulkEntry x + uptoBulkEntries r
def uptoBulkEntry {H : Type} : Lit × DataW H → Nat
  | (.string bytes, d) => bytes.length + uptoBulk d + 1
  | (_, d) => uptoBulk d + 1
 end
def uptoSmall : (H : Type) → List (DataW H) → Bool := fun _ ds => decide (uptoBulkAll ds ≤ 1048576)
def OpenSpec.upto (s : _root_.Go.ChangeSpec) : _root_.Go.OpenSpec := { _root_.Go.OpenSpec.ofChange s with cond := some uptoSmall }

/-- 'tidemilllaw08.SlotStays', WHERE WHAT IT READS IS OF BULK AT MOST 1048576: true; the input reads as it did. -/
def slotStaysUptoRow : OpenClaim := { program := "ytlbekgogjlchjaa", sum := "b36c777bade437419e005e0d077e648e6fd897ad7de0907134662e4f828440c5", func := "tidemill/tidemilllaw08.SlotStays", spec := "slotStays", unfollowed := true, recurses := true, apart := false, narrowed := true }
def SlotStaysUptoSaid : Prop := slotStaysUptoRow.holds Try.pinned (OpenSpec.upto slotStaysSpec)

/-- 'tidemilllaw08.SlotSealed', WHERE WHAT IT READS IS OF BULK AT MOST 1048576: true; the input reads as it did. -/
def slotSealedUptoRow : OpenClaim := { program := "ytlbekgogjlchjaa", sum := "b36c777bade437419e005e0d077e648e6fd897ad7de0907134662e4f828440c5", func := "tidemill/tidemilllaw08.SlotSealed", spec := "slotSealed", unfollowed := true, recurses := true, apart := false, narrowed := true }
def SlotSealedUptoSaid : Prop := slotSealedUptoRow.holds Try.pinned (OpenSpec.upto slotSealedSpec)

/-- 'tidemilllaw08.SlotAgain', WHERE WHAT IT READS IS OF BULK AT MOST 1048576: true; the input reads as it did. -/
def slotAgainUptoRow : OpenClaim := { program := "ytlbekgogjlchjaa", sum := "b36c777bade437419e005e0d077e648e6fd897ad7de0907134662e4f828440c5", func := "tidemill/tidemilllaw08.SlotAgain", spec := "slotAgain", unfollowed := true, recurses := true, apart := false, narrowed := true }
def SlotAgainUptoSaid : Prop := slotAgainUptoRow.holds Try.pinned (OpenSpec.upto slotAgainSpec)

/-- 'tidemilllaw08.SlotNobody', WHERE WHAT IT READS IS OF BULK AT MOST 1048576: true; the input reads as it did. -/
def slotNobodyUptoRow : OpenClaim := { program := "ytlbekgogjlchjaa", sum := "b36c777bade437419e005e0d077e648e6fd897ad7de0907134662e4f828440c5", func := "tidemill/tidemilllaw08.SlotNobody", spec := "slotNobody", unfollowed := true, recurses := true, apart := false, narrowed := true }
def SlotNobodyUptoSaid : Prop := slotNobodyUptoRow.holds Try.pinned (OpenSpec.upto slotNobodySpec)

/-- 'tidemilllaw08.SlotTails', WHERE WHAT IT READS IS OF BULK AT MOST 1048576: true; the input reads as it did. -/
def slotTailsUptoRow : OpenClaim := { program := "ytlbekgogjlchjaa", sum := "b36c777bade437419e005e0d077e648e6fd897ad7de0907134662e4f828440c5", func := "tidemill/tidemilllaw08.SlotTails", spec := "slotTails", unfollowed := true, recurses := true, apart := false, narrowed := true }
def SlotTailsUptoSaid : Prop := slotTailsUptoRow.holds Try.pinned (OpenSpec.upto slotTailsSpec)

/-- 'tidemilllaw10.SlogStays', WHERE WHAT IT READS IS OF BULK AT MOST 1048576: true; the input reads as it did. -/
def slogStaysUptoRow : OpenClaim := { program := "ytlbekgogjlchjaa", sum := "b36c777bade437419e005e0d077e648e6fd897ad7de0907134662e4f828440c5", func := "tidemill/tidemilllaw10.SlogStays", spec := "slogStays", inPlace := ["sync/atomic.AddInt64", "sync/atomic.LoadInt64"], unfollowed := true, recurses := true, apart := false, narrowed := true }
def SlogStaysUptoSaid : Prop := slogStaysUptoRow.holds Try.pinned (OpenSpec.upto slogStaysSpec)

/-- 'tidemilllaw10.SlogMinor', WHERE WHAT IT READS IS OF BULK AT MOST 1048576: true; the input reads as it did. -/
def slogMinorUptoRow : OpenClaim := { program := "ytlbekgogjlchjaa", sum := "b36c777bade437419e005e0d077e648e6fd897ad7de0907134662e4f828440c5", func := "tidemill/tidemilllaw10.SlogMinor", spec := "slogMinor", inPlace := ["sync/atomic.AddInt64", "sync/atomic.LoadInt64"], unfollowed := true, recurses := true, apart := false, narrowed := true }
def SlogMinorUptoSaid : Prop := slogMinorUptoRow.holds Try.pinned (OpenSpec.upto slogMinorSpec)

/-- 'tidemilllaw10.SlogLoses', WHERE WHAT IT READS IS OF BULK AT MOST 1048576: true; the input reads as it did. -/
def slogLosesUptoRow : OpenClaim := { program := "ytlbekgogjlchjaa", sum := "b36c777bade437419e005e0d077e648e6fd897ad7de0907134662e4f828440c5", func := "tidemill/tidemilllaw10.SlogLoses", spec := "slogLoses", inPlace := ["sync/atomic.AddInt64", "sync/atomic.LoadInt64"], unfollowed := true, recurses := true, apart := false, narrowed := true }
def SlogLosesUptoSaid : Prop := slogLosesUptoRow.holds Try.pinned (OpenSpec.upto slogLosesSpec)

/-- 'tidemilllaw10.SlogNobody', WHERE WHAT IT READS IS OF BULK AT MOST 1048576: true; the input reads as it did. -/
def slogNobodyUptoRow : OpenClaim := { program := "ytlbekgogjlchjaa", sum := "b36c777bade437419e005e0d077e648e6fd897ad7de0907134662e4f828440c5", func := "tidemill/tidemilllaw10.SlogNobody", spec := "slogNobody", inPlace := ["sync/atomic.AddInt64", "sync/atomic.LoadInt64"], unfollowed := true, recurses := true, apart := false, narrowed := true }
def SlogNobodyUptoSaid : Prop := slogNobodyUptoRow.holds Try.pinned (OpenSpec.upto slogNobodySpec)

/-- 'tidemilllaw10.SlogOpens', WHERE WHAT IT READS IS OF BULK AT MOST 1048576: true; the input reads as it did. -/
def slogOpensUptoRow : OpenClaim := { program := "ytlbekgogjlchjaa", sum := "b36c777bade437419e005e0d077e648e6fd897ad7de0907134662e4f828440c5", func := "tidemill/tidemilllaw10.SlogOpens", spec := "slogOpens", inPlace := ["sync/atomic.AddInt64", "sync/atomic.LoadInt64"], unfollowed := true, recurses := true, apart := false, narrowed := true }
def SlogOpensUptoSaid : Prop := slogOpensUptoRow.holds Try.pinned (OpenSpec.upto slogOpensSpec)

end Rows
end Go.Proofs.Ytlbekgogjlchjaa
