/-
  No cell of these rows narrows 'for every input' (looked for: loops, veiled, ifaces, maps, wideKeys, modest, calm, conditions, laid).
  DERIVED. THE GIVEN ROWS OF THIS SEAT. 12 by the template 'for every input the law returns true; each argument reads behind the call as it read before'; 0 by the template 'total and deterministic' (their statements: YtecabknnggamhaaTotals.lean).
  GIVEN WITH THE SEED: the statements are not yours to turn. If you find one false, say at which input.
  Laid BY PROGRAM, IN A SANDBOX (cutbox-rows.mjs): the forced cells as the released guide's own fill.sh prints them over the translation 1b190c0a317dc354… (all of the seat's roots in one cut). By AI agents, Wed Nov 11 2026. No macro, syntax, notation, axiom, sorry.
-/
import Derived.Test.YtecabknnggamhaaChecked
import GoSem.Claim
import GoSem.ClaimJoined
import GoSem.ClaimMapViews
import Derived.JoinedTies
import Derived.KernelRfl
namespace Go.Proofs.Ytecabknnggamhaa
/- THE CELL 'sum', in the pinned program and in every row, IS THE sha256 OF THE DUMP (.gsa) THAT YtecabknnggamhaaProg.lean LOADS. Nothing in Lean hashes anything: it is a label: what it is worth is what the hold of that sum in a sandbox is worth. -/
noncomputable def Try.pinned : Pinned := { name := "ytecabknnggamhaa", sum := "1b190c0a317dc35419b629a075fc4e69687779272c4140c16056924b2ab70995", checked := Try.checked }
namespace Rows
def none {H : Type} : Left H := { results := [], args := [] }

/-- 'tidemilllaw12.KvOrder': WHATEVER THE INPUT: true; the input reads as it did. -/
def kvOrderSpec : ChangeSpec := { name := "kvOrder", fn := fun _ => fun
  | [d1, d2] => { results := [.lit (.bool true)], args := [d1, d2] }
  | _ => none }
def kvOrderRow : OpenClaim := { program := "ytecabknnggamhaa", sum := "1b190c0a317dc35419b629a075fc4e69687779272c4140c16056924b2ab70995", func := "tidemill/tidemilllaw12.KvOrder", spec := "kvOrder", inPlace := ["slices.overlaps[tidemill/kv.pair]"], unfollowed := true, recurses := true, plainKeys := false, apart := false }
def KvOrderSaid : Prop := kvOrderRow.holds Try.pinned (OpenSpec.ofChange kvOrderSpec)

/-- ITS FALSE NEIGHBOUR: 'it returns false'. Refute it at one input. -/
def kvOrderWrong : ChangeSpec := { name := "kvOrder", fn := fun _ => fun
  | [d1, d2] => { results := [.lit (.bool false)], args := [d1, d2] }
  | _ => none }
def KvOrderWrongFalsely : Prop := kvOrderRow.holds Try.pinned (OpenSpec.ofChange kvOrderWrong)

/-- 'tidemilllaw12.KvAgain': WHATEVER THE INPUT: true; the input reads as it did. -/
def kvAgainSpec : ChangeSpec := { name := "kvAgain", fn := fun _ => fun
  | [d] => { results := [.lit (.bool true)], args := [d] }
  | _ => none }
def kvAgainRow : OpenClaim := { program := "ytecabknnggamhaa", sum := "1b190c0a317dc35419b629a075fc4e69687779272c4140c16056924b2ab70995", func := "tidemill/tidemilllaw12.KvAgain", spec := "kvAgain", inPlace := ["slices.overlaps[tidemill/kv.pair]"], unfollowed := true, recurses := true, plainKeys := false, apart := false }
def KvAgainSaid : Prop := kvAgainRow.holds Try.pinned (OpenSpec.ofChange kvAgainSpec)

/-- ITS FALSE NEIGHBOUR: 'it returns false'. Refute it at one input. -/
def kvAgainWrong : ChangeSpec := { name := "kvAgain", fn := fun _ => fun
  | [d] => { results := [.lit (.bool false)], args := [d] }
  | _ => none }
def KvAgainWrongFalsely : Prop := kvAgainRow.holds Try.pinned (OpenSpec.ofChange kvAgainWrong)

/-- 'tidemilllaw12.KvFull': WHATEVER THE INPUT: true; the input reads as it did. -/
def kvFullSpec : ChangeSpec := { name := "kvFull", fn := fun _ => fun
  | [d1, d2] => { results := [.lit (.bool true)], args := [d1, d2] }
  | _ => none }
def kvFullRow : OpenClaim := { program := "ytecabknnggamhaa", sum := "1b190c0a317dc35419b629a075fc4e69687779272c4140c16056924b2ab70995", func := "tidemill/tidemilllaw12.KvFull", spec := "kvFull", inPlace := ["slices.overlaps[tidemill/kv.pair]"], unfollowed := true, recurses := true, plainKeys := false, apart := false }
def KvFullSaid : Prop := kvFullRow.holds Try.pinned (OpenSpec.ofChange kvFullSpec)

/-- ITS FALSE NEIGHBOUR: 'it returns false'. Refute it at one input. -/
def kvFullWrong : ChangeSpec := { name := "kvFull", fn := fun _ => fun
  | [d1, d2] => { results := [.lit (.bool false)], args := [d1, d2] }
  | _ => none }
def KvFullWrongFalsely : Prop := kvFullRow.holds Try.pinned (OpenSpec.ofChange kvFullWrong)

/-- 'tidemilllaw12.KvLast': WHATEVER THE INPUT: true; the input reads as it did. -/
def kvLastSpec : ChangeSpec := { name := "kvLast", fn := fun _ => fun
  | [d1, d2, d3, d4] => { results := [.lit (.bool true)], args := [d1, d2, d3, d4] }
  | _ => none }
def kvLastRow : OpenClaim := { program := "ytecabknnggamhaa", sum := "1b190c0a317dc35419b629a075fc4e69687779272c4140c16056924b2ab70995", func := "tidemill/tidemilllaw12.KvLast", spec := "kvLast", inPlace := ["slices.overlaps[tidemill/kv.pair]"], unfollowed := true, recurses := true, plainKeys := false, apart := false }
def KvLastSaid : Prop := kvLastRow.holds Try.pinned (OpenSpec.ofChange kvLastSpec)

/-- ITS FALSE NEIGHBOUR: 'it returns false'. Refute it at one input. -/
def kvLastWrong : ChangeSpec := { name := "kvLast", fn := fun _ => fun
  | [d1, d2, d3, d4] => { results := [.lit (.bool false)], args := [d1, d2, d3, d4] }
  | _ => none }
def KvLastWrongFalsely : Prop := kvLastRow.holds Try.pinned (OpenSpec.ofChange kvLastWrong)

/-- 'tidemilllaw12.KvNobody': WHATEVER THE INPUT: true; the input reads as it did. -/
def kvNobodySpec : ChangeSpec := { name := "kvNobody", fn := fun _ => fun
  | [d1, d2] => { results := [.lit (.bool true)], args := [d1, d2] }
  | _ => none }
def kvNobodyRow : OpenClaim := { program := "ytecabknnggamhaa", sum := "1b190c0a317dc35419b629a075fc4e69687779272c4140c16056924b2ab70995", func := "tidemill/tidemilllaw12.KvNobody", spec := "kvNobody", inPlace := ["slices.overlaps[tidemill/kv.pair]"], unfollowed := true, recurses := true, plainKeys := false, apart := false }
def KvNobodySaid : Prop := kvNobodyRow.holds Try.pinned (OpenSpec.ofChange kvNobodySpec)

/-- ITS FALSE NEIGHBOUR: 'it returns false'. Refute it at one input. -/
def kvNobodyWrong : ChangeSpec := { name := "kvNobody", fn := fun _ => fun
  | [d1, d2] => { results := [.lit (.bool false)], args := [d1, d2] }
  | _ => none }
def KvNobodyWrongFalsely : Prop := kvNobodyRow.holds Try.pinned (OpenSpec.ofChange kvNobodyWrong)

/-- 'tidemilllaw12.KvPlays': WHATEVER THE INPUT: true; the input reads as it did. -/
def kvPlaysSpec : ChangeSpec := { name := "kvPlays", fn := fun _ => fun
  | [d1, d2] => { results := [.lit (.bool true)], args := [d1, d2] }
  | _ => none }
def kvPlaysRow : OpenClaim := { program := "ytecabknnggamhaa", sum := "1b190c0a317dc35419b629a075fc4e69687779272c4140c16056924b2ab70995", func := "tidemill/tidemilllaw12.KvPlays", spec := "kvPlays", inPlace := ["slices.overlaps[tidemill/kv.pair]"], unfollowed := true, recurses := true, plainKeys := false, apart := false }
def KvPlaysSaid : Prop := kvPlaysRow.holds Try.pinned (OpenSpec.ofChange kvPlaysSpec)

/-- ITS FALSE NEIGHBOUR: 'it returns false'. Refute it at one input. -/
def kvPlaysWrong : ChangeSpec := { name := "kvPlays", fn := fun _ => fun
  | [d1, d2] => { results := [.lit (.bool false)], args := [d1, d2] }
  | _ => none }
def KvPlaysWrongFalsely : Prop := kvPlaysRow.holds Try.pinned (OpenSpec.ofChange kvPlaysWrong)

/-- 'tidemilllaw09.QuorMeets': WHATEVER THE INPUT: true; the input reads as it did. -/
def quorMeetsSpec : ChangeSpec := { name := "quorMeets", fn := fun _ => fun
  | [d] => { results := [.lit (.bool true)], args := [d] }
  | _ => none }
def quorMeetsRow : OpenClaim := { program := "ytecabknnggamhaa", sum := "1b190c0a317dc35419b629a075fc4e69687779272c4140c16056924b2ab70995", func := "tidemill/tidemilllaw09.QuorMeets", spec := "quorMeets", unfollowed := true, recurses := true, plainKeys := false, apart := false }
def QuorMeetsSaid : Prop := quorMeetsRow.holds Try.pinned (OpenSpec.ofChange quorMeetsSpec)

/-- ITS FALSE NEIGHBOUR: 'it returns false'. Refute it at one input. -/
def quorMeetsWrong : ChangeSpec := { name := "quorMeets", fn := fun _ => fun
  | [d] => { results := [.lit (.bool false)], args := [d] }
  | _ => none }
def QuorMeetsWrongFalsely : Prop := quorMeetsRow.holds Try.pinned (OpenSpec.ofChange quorMeetsWrong)

/-- 'tidemilllaw09.QuorKeeps': WHATEVER THE INPUT: true; the input reads as it did. -/
def quorKeepsSpec : ChangeSpec := { name := "quorKeeps", fn := fun _ => fun
  | [d1, d2, d3, d4] => { results := [.lit (.bool true)], args := [d1, d2, d3, d4] }
  | _ => none }
def quorKeepsRow : OpenClaim := { program := "ytecabknnggamhaa", sum := "1b190c0a317dc35419b629a075fc4e69687779272c4140c16056924b2ab70995", func := "tidemill/tidemilllaw09.QuorKeeps", spec := "quorKeeps", unfollowed := true, recurses := true, plainKeys := false, apart := false }
def QuorKeepsSaid : Prop := quorKeepsRow.holds Try.pinned (OpenSpec.ofChange quorKeepsSpec)

/-- ITS FALSE NEIGHBOUR: 'it returns false'. Refute it at one input. -/
def quorKeepsWrong : ChangeSpec := { name := "quorKeeps", fn := fun _ => fun
  | [d1, d2, d3, d4] => { results := [.lit (.bool false)], args := [d1, d2, d3, d4] }
  | _ => none }
def QuorKeepsWrongFalsely : Prop := quorKeepsRow.holds Try.pinned (OpenSpec.ofChange quorKeepsWrong)

/-- 'tidemilllaw09.QuorOrder': WHATEVER THE INPUT: true; the input reads as it did. -/
def quorOrderSpec : ChangeSpec := { name := "quorOrder", fn := fun _ => fun
  | [d] => { results := [.lit (.bool true)], args := [d] }
  | _ => none }
def quorOrderRow : OpenClaim := { program := "ytecabknnggamhaa", sum := "1b190c0a317dc35419b629a075fc4e69687779272c4140c16056924b2ab70995", func := "tidemill/tidemilllaw09.QuorOrder", spec := "quorOrder", unfollowed := true, recurses := true, plainKeys := false, apart := false }
def QuorOrderSaid : Prop := quorOrderRow.holds Try.pinned (OpenSpec.ofChange quorOrderSpec)

/-- ITS FALSE NEIGHBOUR: 'it returns false'. Refute it at one input. -/
def quorOrderWrong : ChangeSpec := { name := "quorOrder", fn := fun _ => fun
  | [d] => { results := [.lit (.bool false)], args := [d] }
  | _ => none }
def QuorOrderWrongFalsely : Prop := quorOrderRow.holds Try.pinned (OpenSpec.ofChange quorOrderWrong)

/-- 'tidemilllaw09.QuorChosen': WHATEVER THE INPUT: true; the input reads as it did. -/
def quorChosenSpec : ChangeSpec := { name := "quorChosen", fn := fun _ => fun
  | [d1, d2, d3, d4] => { results := [.lit (.bool true)], args := [d1, d2, d3, d4] }
  | _ => none }
def quorChosenRow : OpenClaim := { program := "ytecabknnggamhaa", sum := "1b190c0a317dc35419b629a075fc4e69687779272c4140c16056924b2ab70995", func := "tidemill/tidemilllaw09.QuorChosen", spec := "quorChosen", unfollowed := true, recurses := true, plainKeys := false, apart := false }
def QuorChosenSaid : Prop := quorChosenRow.holds Try.pinned (OpenSpec.ofChange quorChosenSpec)

/-- ITS FALSE NEIGHBOUR: 'it returns false'. Refute it at one input. -/
def quorChosenWrong : ChangeSpec := { name := "quorChosen", fn := fun _ => fun
  | [d1, d2, d3, d4] => { results := [.lit (.bool false)], args := [d1, d2, d3, d4] }
  | _ => none }
def QuorChosenWrongFalsely : Prop := quorChosenRow.holds Try.pinned (OpenSpec.ofChange quorChosenWrong)

/-- 'tidemilllaw13.WinStarts': WHATEVER THE INPUT: true; the input reads as it did. -/
def winStartsSpec : ChangeSpec := { name := "winStarts", fn := fun _ => fun
  | [d1, d2] => { results := [.lit (.bool true)], args := [d1, d2] }
  | _ => none }
def winStartsRow : OpenClaim := { program := "ytecabknnggamhaa", sum := "1b190c0a317dc35419b629a075fc4e69687779272c4140c16056924b2ab70995", func := "tidemill/tidemilllaw13.WinStarts", spec := "winStarts", unfollowed := true, recurses := true, plainKeys := false, apart := false }
def WinStartsSaid : Prop := winStartsRow.holds Try.pinned (OpenSpec.ofChange winStartsSpec)

/-- ITS FALSE NEIGHBOUR: 'it returns false'. Refute it at one input. -/
def winStartsWrong : ChangeSpec := { name := "winStarts", fn := fun _ => fun
  | [d1, d2] => { results := [.lit (.bool false)], args := [d1, d2] }
  | _ => none }
def WinStartsWrongFalsely : Prop := winStartsRow.holds Try.pinned (OpenSpec.ofChange winStartsWrong)

/-- 'tidemilllaw13.WinSpans': WHATEVER THE INPUT: true; the input reads as it did. -/
def winSpansSpec : ChangeSpec := { name := "winSpans", fn := fun _ => fun
  | [d1, d2, d3, d4, d5] => { results := [.lit (.bool true)], args := [d1, d2, d3, d4, d5] }
  | _ => none }
def winSpansRow : OpenClaim := { program := "ytecabknnggamhaa", sum := "1b190c0a317dc35419b629a075fc4e69687779272c4140c16056924b2ab70995", func := "tidemill/tidemilllaw13.WinSpans", spec := "winSpans", unfollowed := true, recurses := true, plainKeys := false, apart := false }
def WinSpansSaid : Prop := winSpansRow.holds Try.pinned (OpenSpec.ofChange winSpansSpec)

/-- ITS FALSE NEIGHBOUR: 'it returns false'. Refute it at one input. -/
def winSpansWrong : ChangeSpec := { name := "winSpans", fn := fun _ => fun
  | [d1, d2, d3, d4, d5] => { results := [.lit (.bool false)], args := [d1, d2, d3, d4, d5] }
  | _ => none }
def WinSpansWrongFalsely : Prop := winSpansRow.holds Try.pinned (OpenSpec.ofChange winSpansWrong)

/- THE SECOND FORM. 'bulk': how many values and letters a reading holds, each counted each time it is reached (what is shared counts as often as it is met; a slice's spare places count too). A statement '..UptoSaid' is the law's where the arguments, and the package variables that the reading takes, are together of bulk at most 1048576: NARROWER than '..Said'. Prove '..Said' where nothing that the law and all that it calls make is longer than what came in: it says more and counts as full. Else prove '..UptoSaid'. A law counts once. -/
mutual
def uptoBulk {H : Type} : DataW H → Nat
  | .lit (.string bytes) => bytes.length + 1
  | .lit _ => 1
  | .nil => 1
  | .ptr d => uptoBulk d + 1
  | .slice elems spare => uptoBulkAll elems + uptoBulkAll spare + 1
  | .agg parts => uptoBulkAll parts + 1
  | .iface _ d => uptoBulk d + 1
  | .map entries => uptoBulkEntries entries + 1
  | .held _ => 1
def uptoBulkAll {H : Type} : List (DataW H) → Nat
  | [] => 0
  | d :: r => uptoBulk d + uptoBulkAll r
def uptoBulkEntries {H : Type} : List (Lit × DataW H) → Nat
  | [] => 0
  | x :: r => uptoBulkEntry x + uptoBulkEntries r
def uptoBulkEntry {H : Type} : Lit × DataW H → Nat
  | (.string bytes, d) => bytes.length + uptoBulk d + 1
  | (_, d) => uptoBulk d + 1
 end
def uptoSmall : (H : Type) → List (DataW H) → Bool := fun _ ds => decide (uptoBulkAll ds ≤ 1048576)
def OpenSpec.upto (s : _root_.Go.ChangeSpec) : _root_.Go.OpenSpec := { _root_.Go.OpenSpec.ofChange s with cond := some uptoSmall }

/-- 'tidemilllaw12.KvOrder', WHERE WHAT IT READS IS OF BULK AT MOST 1048576: true; the input reads as it did. -/
def kvOrderUptoRow : OpenClaim := { program := "ytecabknnggamhaa", sum := "1b190c0a317dc35419b629a075fc4e69687779272c4140c16056924b2ab70995", func := "tidemill/tidemilllaw12.KvOrder", spec := "kvOrder", inPlace := ["slices.overlaps[tidemill/kv.pair]"], unfollowed := true, recurses := true, plainKeys := false, apart := false, narrowed := true }
def KvOrderUptoSaid : Prop := kvOrderUptoRow.holds Try.pinned (OpenSpec.upto kvOrderSpec)

/-- 'tidemilllaw12.KvAgain', WHERE WHAT IT READS IS OF BULK AT MOST 1048576: true; the input reads as it did. -/
def kvAgainUptoRow : OpenClaim := { program := "ytecabknnggamhaa", sum := "1b190c0a317dc35419b629a075fc4e69687779272c4140c16056924b2ab70995", func := "tidemill/tidemilllaw12.KvAgain", spec := "kvAgain", inPlace := ["slices.overlaps[tidemill/kv.pair]"], unfollowed := true, recurses := true, plainKeys := false, apart := false, narrowed := true }
def KvAgainUptoSaid : Prop := kvAgainUptoRow.holds Try.pinned (OpenSpec.upto kvAgainSpec)

/-- 'tidemilllaw12.KvFull', WHERE WHAT IT READS IS OF BULK AT MOST 1048576: true; the input reads as it did. -/
def kvFullUptoRow : OpenClaim := { program := "ytecabknnggamhaa", sum := "1b190c0a317dc35419b629a075fc4e69687779272c4140c16056924b2ab70995", func := "tidemill/tidemilllaw12.KvFull", spec := "kvFull", inPlace := ["slices.overlaps[tidemill/kv.pair]"], unfollowed := true, recurses := true, plainKeys := false, apart := false, narrowed := true }
def KvFullUptoSaid : Prop := kvFullUptoRow.holds Try.pinned (OpenSpec.upto kvFullSpec)

/-- 'tidemilllaw12.KvLast', WHERE WHAT IT READS IS OF BULK AT MOST 1048576: true; the input reads as it did. -/
def kvLastUptoRow : OpenClaim := { program := "ytecabknnggamhaa", sum := "1b190c0a317dc35419b629a075fc4e69687779272c4140c16056924b2ab70995", func := "tidemill/tidemilllaw12.KvLast", spec := "kvLast", inPlace := ["slices.overlaps[tidemill/kv.pair]"], unfollowed := true, recurses := true, plainKeys := false, apart := false, narrowed := true }
def KvLastUptoSaid : Prop := kvLastUptoRow.holds Try.pinned (OpenSpec.upto kvLastSpec)

/-- 'tidemilllaw12.KvNobody', WHERE WHAT IT READS IS OF BULK AT MOST 1048576: true; the input reads as it did. -/
def kvNobodyUptoRow : OpenClaim := { program := "ytecabknnggamhaa", sum := "1b190c0a317dc35419b629a075fc4e69687779272c4140c16056924b2ab70995", func := "tidemill/tidemilllaw12.KvNobody", spec := "kvNobody", inPlace := ["slices.overlaps[tidemill/kv.pair]"], unfollowed := true, recurses := true, plainKeys := false, apart := false, narrowed := true }
def KvNobodyUptoSaid : Prop := kvNobodyUptoRow.holds Try.pinned (OpenSpec.upto kvNobodySpec)

/-- 'tidemilllaw12.KvPlays', WHERE WHAT IT READS IS OF BULK AT MOST 1048576: true; the input reads as it did. -/
def kvPlaysUptoRow : OpenClaim := { program := "ytecabknnggamhaa", sum := "1b190c0a317dc35419b629a075fc4e69687779272c4140c16056924b2ab70995", func := "tidemill/tidemilllaw12.KvPlays", spec := "kvPlays", inPlace := ["slices.overlaps[tidemill/kv.pair]"], unfollowed := true, recurses := true, plainKeys := false, apart := false, narrowed := true }
def KvPlaysUptoSaid : Prop := kvPlaysUptoRow.holds Try.pinned (OpenSpec.upto kvPlaysSpec)

/-- 'tidemilllaw09.QuorMeets', WHERE WHAT IT READS IS OF BULK AT MOST 1048576: true; the input reads as it did. -/
def quorMeetsUptoRow : OpenClaim := { program := "ytecabknnggamhaa", sum := "1b190c0a317dc35419b629a075fc4e69687779272c4140c16056924b2ab70995", func := "tidemill/tidemilllaw09.QuorMeets", spec := "quorMeets", unfollowed := true, recurses := true, plainKeys := false, apart := false, narrowed := true }
def QuorMeetsUptoSaid : Prop := quorMeetsUptoRow.holds Try.pinned (OpenSpec.upto quorMeetsSpec)

/-- 'tidemilllaw09.QuorKeeps', WHERE WHAT IT READS IS OF BULK AT MOST 1048576: true; the input reads as it did. -/
def quorKeepsUptoRow : OpenClaim := { program := "ytecabknnggamhaa", sum := "1b190c0a317dc35419b629a075fc4e69687779272c4140c16056924b2ab70995", func := "tidemill/tidemilllaw09.QuorKeeps", spec := "quorKeeps", unfollowed := true, recurses := true, plainKeys := false, apart := false, narrowed := true }
def QuorKeepsUptoSaid : Prop := quorKeepsUptoRow.holds Try.pinned (OpenSpec.upto quorKeepsSpec)

/-- 'tidemilllaw09.QuorOrder', WHERE WHAT IT READS IS OF BULK AT MOST 1048576: true; the input reads as it did. -/
def quorOrderUptoRow : OpenClaim := { program := "ytecabknnggamhaa", sum := "1b190c0a317dc35419b629a075fc4e69687779272c4140c16056924b2ab70995", func := "tidemill/tidemilllaw09.QuorOrder", spec := "quorOrder", unfollowed := true, recurses := true, plainKeys := false, apart := false, narrowed := true }
def QuorOrderUptoSaid : Prop := quorOrderUptoRow.holds Try.pinned (OpenSpec.upto quorOrderSpec)

/-- 'tidemilllaw09.QuorChosen', WHERE WHAT IT READS IS OF BULK AT MOST 1048576: true; the input reads as it did. -/
def quorChosenUptoRow : OpenClaim := { program := "ytecabknnggamhaa", sum := "1b190c0a317dc35419b629a075fc4e69687779272c4140c16056924b2ab70995", func := "tidemill/tidemilllaw09.QuorChosen", spec := "quorChosen", unfollowed := true, recurses := true, plainKeys := false, apart := false, narrowed := true }
def QuorChosenUptoSaid : Prop := quorChosenUptoRow.holds Try.pinned (OpenSpec.upto quorChosenSpec)

/-- 'tidemilllaw13.WinStarts', WHERE WHAT IT READS IS OF BULK AT MOST 1048576: true; the input reads as it did. -/
def winStartsUptoRow : OpenClaim := { program := "ytecabknnggamhaa", sum := "1b190c0a317dc35419b629a075fc4e69687779272c4140c16056924b2ab70995", func := "tidemill/tidemilllaw13.WinStarts", spec := "winStarts", unfollowed := true, recurses := true, plainKeys := false, apart := false, narrowed := true }
def WinStartsUptoSaid : Prop := winStartsUptoRow.holds Try.pinned (OpenSpec.upto winStartsSpec)

/-- 'tidemilllaw13.WinSpans', WHERE WHAT IT READS IS OF BULK AT MOST 1048576: true; the input reads as it did. -/
def winSpansUptoRow : OpenClaim := { program := "ytecabknnggamhaa", sum := "1b190c0a317dc35419b629a075fc4e69687779272c4140c16056924b2ab70995", func := "tidemill/tidemilllaw13.WinSpans", spec := "winSpans", unfollowed := true, recurses := true, plainKeys := false, apart := false, narrowed := true }
def WinSpansUptoSaid : Prop := winSpansUptoRow.holds Try.pinned (OpenSpec.upto winSpansSpec)

end Rows
end Go.Proofs.Ytecabknnggamhaa
