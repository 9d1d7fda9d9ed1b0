/-
  NARROWER THAN 'FOR EVERY INPUT', by the rows' own cells (each row's printed sentence says how): ExprIfs: laid · ExprParts: laid · ExprTotal: loops, laid · ExprDeep: laid · ExprValues: loops, laid · ExprBytes: loops, laid · ExprBack: loops, laid · FlowFlats: laid · FlowKeeps: loops, laid · FlowMaps: laid · FlowSplits: loops, laid · FlowApplies: loops, laid.
  DERIVED. THE GIVEN ROWS OF THIS SEAT. 12 by the template 'for every input the law returns true; each argument reads behind the call as it read before'; 0 by the template 'total and deterministic' (their statements: YtpobgoeeljknpaaDoorTotals.lean).
  GIVEN WITH THE SEED: the statements are not yours to turn. If you find one false, say at which input.
  Laid BY PROGRAM, IN A SANDBOX (cutbox-rows.mjs): the forced cells as the released guide's own fill.sh prints them over the translation 1b846526d01d81f7… (all of the seat's roots in one cut). By AI agents, Wed Nov 11 2026. No macro, syntax, notation, axiom, sorry.
-/
import Derived.Test.YtpobgoeeljknpaaDoorChecked
import GoSem.Claim
import GoSem.ClaimJoined
import GoSem.ClaimMapViews
import Derived.JoinedTies
import Derived.KernelRfl
namespace Go.Proofs.YtpobgoeeljknpaaDoor
/- THE CELL 'sum', in the pinned program and in every row, IS THE sha256 OF THE DUMP (.gsa) THAT YtpobgoeeljknpaaDoorProg.lean LOADS. Nothing in Lean hashes anything: it is a label: what it is worth is what the hold of that sum in a sandbox is worth. -/
noncomputable def Tryd.pinned : Pinned := { name := "ytpobgoeeljknpaadoor", sum := "1b846526d01d81f7f81421935edeb1a0a76859756286d7663bfcd004d427ecd5", checked := Tryd.checked }
namespace Rows
def none {H : Type} : Left H := { results := [], args := [] }

/- WHAT THE LISTED PACKAGE-LEVEL VARIABLES READ AS WHEN THE CALL BEGINS. Each datum BY PROGRAM (the guide's laid-datum.mjs) off the statement by which the dump's own 'gosem.cut.vars' lays the variable. In a bare row this is a premise. The card (YtpobgoeeljknpaaDoorCards.lean) ties it to the program's text. -/
def laid_tidemill_expr_kids {H : Type} : DataW H := .agg [.lit (.int .i64 0), .lit (.int .i64 0), .lit (.int .i64 0), .lit (.int .i64 0), .lit (.int .i64 0), .lit (.int .i64 0), .lit (.int .i64 2), .lit (.int .i64 2), .lit (.int .i64 2), .lit (.int .i64 2), .lit (.int .i64 2), .lit (.int .i64 2), .lit (.int .i64 2), .lit (.int .i64 3), .lit (.int .i64 1), .lit (.int .i64 2), .lit (.int .i64 2)]

/-- 'tidemilllaw04.ExprIfs': WHATEVER THE INPUT: true; the input reads as it did. -/
def exprIfsSpec : ChangeSpec := { name := "exprIfs", fn := fun _ => fun
  | [d1, d2, d3] => { results := [.lit (.bool true)], args := [d1, d2, d3] }
  | _ => none }
def exprIfsRow : OpenClaim := { program := "ytpobgoeeljknpaadoor", sum := "1b846526d01d81f7f81421935edeb1a0a76859756286d7663bfcd004d427ecd5", func := "tidemill/tidemilllaw04.ExprIfs", spec := "exprIfs", unfollowed := true, recurses := true, named := ["tidemill/expr.kids"], apart := false, laid := [("tidemill/expr.kids", laid_tidemill_expr_kids)] }
def ExprIfsSaid : Prop := exprIfsRow.holds Tryd.pinned (OpenSpec.ofChange exprIfsSpec)

/-- ITS FALSE NEIGHBOUR: 'it returns false'. Refute it at one input. -/
def exprIfsWrong : ChangeSpec := { name := "exprIfs", fn := fun _ => fun
  | [d1, d2, d3] => { results := [.lit (.bool false)], args := [d1, d2, d3] }
  | _ => none }
def ExprIfsWrongFalsely : Prop := exprIfsRow.holds Tryd.pinned (OpenSpec.ofChange exprIfsWrong)

/-- 'tidemilllaw04.ExprParts': WHATEVER THE INPUT: true; the input reads as it did. -/
def exprPartsSpec : ChangeSpec := { name := "exprParts", fn := fun _ => fun
  | [d1, d2] => { results := [.lit (.bool true)], args := [d1, d2] }
  | _ => none }
def exprPartsRow : OpenClaim := { program := "ytpobgoeeljknpaadoor", sum := "1b846526d01d81f7f81421935edeb1a0a76859756286d7663bfcd004d427ecd5", func := "tidemill/tidemilllaw04.ExprParts", spec := "exprParts", unfollowed := true, recurses := true, named := ["tidemill/expr.kids"], apart := false, laid := [("tidemill/expr.kids", laid_tidemill_expr_kids)] }
def ExprPartsSaid : Prop := exprPartsRow.holds Tryd.pinned (OpenSpec.ofChange exprPartsSpec)

/-- ITS FALSE NEIGHBOUR: 'it returns false'. Refute it at one input. -/
def exprPartsWrong : ChangeSpec := { name := "exprParts", fn := fun _ => fun
  | [d1, d2] => { results := [.lit (.bool false)], args := [d1, d2] }
  | _ => none }
def ExprPartsWrongFalsely : Prop := exprPartsRow.holds Tryd.pinned (OpenSpec.ofChange exprPartsWrong)

/-- 'tidemilllaw04.ExprTotal': WHATEVER THE INPUT: true; the input reads as it did. -/
def exprTotalSpec : ChangeSpec := { name := "exprTotal", fn := fun _ => fun
  | [d1, d2, d3] => { results := [.lit (.bool true)], args := [d1, d2, d3] }
  | _ => none }
def exprTotalRow : OpenClaim := { program := "ytpobgoeeljknpaadoor", sum := "1b846526d01d81f7f81421935edeb1a0a76859756286d7663bfcd004d427ecd5", func := "tidemill/tidemilllaw04.ExprTotal", spec := "exprTotal", unfollowed := true, recurses := true, named := ["tidemill/expr.kids"], loops := true, apart := false, laid := [("tidemill/expr.kids", laid_tidemill_expr_kids)] }
def ExprTotalSaid : Prop := exprTotalRow.holds Tryd.pinned (OpenSpec.ofChange exprTotalSpec)

/-- ITS FALSE NEIGHBOUR: 'it returns false'. Refute it at one input. -/
def exprTotalWrong : ChangeSpec := { name := "exprTotal", fn := fun _ => fun
  | [d1, d2, d3] => { results := [.lit (.bool false)], args := [d1, d2, d3] }
  | _ => none }
def ExprTotalWrongFalsely : Prop := exprTotalRow.holds Tryd.pinned (OpenSpec.ofChange exprTotalWrong)

/-- 'tidemilllaw04.ExprDeep': WHATEVER THE INPUT: true; the input reads as it did. -/
def exprDeepSpec : ChangeSpec := { name := "exprDeep", fn := fun _ => fun
  | [d1, d2] => { results := [.lit (.bool true)], args := [d1, d2] }
  | _ => none }
def exprDeepRow : OpenClaim := { program := "ytpobgoeeljknpaadoor", sum := "1b846526d01d81f7f81421935edeb1a0a76859756286d7663bfcd004d427ecd5", func := "tidemill/tidemilllaw04.ExprDeep", spec := "exprDeep", unfollowed := true, recurses := true, named := ["tidemill/expr.kids"], apart := false, laid := [("tidemill/expr.kids", laid_tidemill_expr_kids)] }
def ExprDeepSaid : Prop := exprDeepRow.holds Tryd.pinned (OpenSpec.ofChange exprDeepSpec)

/-- ITS FALSE NEIGHBOUR: 'it returns false'. Refute it at one input. -/
def exprDeepWrong : ChangeSpec := { name := "exprDeep", fn := fun _ => fun
  | [d1, d2] => { results := [.lit (.bool false)], args := [d1, d2] }
  | _ => none }
def ExprDeepWrongFalsely : Prop := exprDeepRow.holds Tryd.pinned (OpenSpec.ofChange exprDeepWrong)

/-- 'tidemilllaw04.ExprValues': WHATEVER THE INPUT: true; the input reads as it did. -/
def exprValuesSpec : ChangeSpec := { name := "exprValues", fn := fun _ => fun
  | [d1, d2, d3, d4] => { results := [.lit (.bool true)], args := [d1, d2, d3, d4] }
  | _ => none }
def exprValuesRow : OpenClaim := { program := "ytpobgoeeljknpaadoor", sum := "1b846526d01d81f7f81421935edeb1a0a76859756286d7663bfcd004d427ecd5", func := "tidemill/tidemilllaw04.ExprValues", spec := "exprValues", unfollowed := true, recurses := true, named := ["tidemill/expr.kids"], loops := true, apart := false, laid := [("tidemill/expr.kids", laid_tidemill_expr_kids)] }
def ExprValuesSaid : Prop := exprValuesRow.holds Tryd.pinned (OpenSpec.ofChange exprValuesSpec)

/-- ITS FALSE NEIGHBOUR: 'it returns false'. Refute it at one input. -/
def exprValuesWrong : ChangeSpec := { name := "exprValues", fn := fun _ => fun
  | [d1, d2, d3, d4] => { results := [.lit (.bool false)], args := [d1, d2, d3, d4] }
  | _ => none }
def ExprValuesWrongFalsely : Prop := exprValuesRow.holds Tryd.pinned (OpenSpec.ofChange exprValuesWrong)

/-- 'tidemilllaw04.ExprBytes': WHATEVER THE INPUT: true; the input reads as it did. -/
def exprBytesSpec : ChangeSpec := { name := "exprBytes", fn := fun _ => fun
  | [d1, d2] => { results := [.lit (.bool true)], args := [d1, d2] }
  | _ => none }
def exprBytesRow : OpenClaim := { program := "ytpobgoeeljknpaadoor", sum := "1b846526d01d81f7f81421935edeb1a0a76859756286d7663bfcd004d427ecd5", func := "tidemill/tidemilllaw04.ExprBytes", spec := "exprBytes", unfollowed := true, recurses := true, named := ["tidemill/expr.kids"], loops := true, apart := false, laid := [("tidemill/expr.kids", laid_tidemill_expr_kids)] }
def ExprBytesSaid : Prop := exprBytesRow.holds Tryd.pinned (OpenSpec.ofChange exprBytesSpec)

/-- ITS FALSE NEIGHBOUR: 'it returns false'. Refute it at one input. -/
def exprBytesWrong : ChangeSpec := { name := "exprBytes", fn := fun _ => fun
  | [d1, d2] => { results := [.lit (.bool false)], args := [d1, d2] }
  | _ => none }
def ExprBytesWrongFalsely : Prop := exprBytesRow.holds Tryd.pinned (OpenSpec.ofChange exprBytesWrong)

/-- 'tidemilllaw04.ExprBack': WHATEVER THE INPUT: true; the input reads as it did. -/
def exprBackSpec : ChangeSpec := { name := "exprBack", fn := fun _ => fun
  | [d1, d2] => { results := [.lit (.bool true)], args := [d1, d2] }
  | _ => none }
def exprBackRow : OpenClaim := { program := "ytpobgoeeljknpaadoor", sum := "1b846526d01d81f7f81421935edeb1a0a76859756286d7663bfcd004d427ecd5", func := "tidemill/tidemilllaw04.ExprBack", spec := "exprBack", unfollowed := true, recurses := true, named := ["tidemill/expr.kids"], loops := true, apart := false, laid := [("tidemill/expr.kids", laid_tidemill_expr_kids)] }
def ExprBackSaid : Prop := exprBackRow.holds Tryd.pinned (OpenSpec.ofChange exprBackSpec)

/-- ITS FALSE NEIGHBOUR: 'it returns false'. Refute it at one input. -/
def exprBackWrong : ChangeSpec := { name := "exprBack", fn := fun _ => fun
  | [d1, d2] => { results := [.lit (.bool false)], args := [d1, d2] }
  | _ => none }
def ExprBackWrongFalsely : Prop := exprBackRow.holds Tryd.pinned (OpenSpec.ofChange exprBackWrong)

/-- 'tidemilllaw17.FlowFlats': WHATEVER THE INPUT: true; the input reads as it did. -/
def flowFlatsSpec : ChangeSpec := { name := "flowFlats", fn := fun _ => fun
  | [d1, d2, d3] => { results := [.lit (.bool true)], args := [d1, d2, d3] }
  | _ => none }
def flowFlatsRow : OpenClaim := { program := "ytpobgoeeljknpaadoor", sum := "1b846526d01d81f7f81421935edeb1a0a76859756286d7663bfcd004d427ecd5", func := "tidemill/tidemilllaw17.FlowFlats", spec := "flowFlats", unfollowed := true, recurses := true, named := ["tidemill/expr.kids"], apart := false, laid := [("tidemill/expr.kids", laid_tidemill_expr_kids)] }
def FlowFlatsSaid : Prop := flowFlatsRow.holds Tryd.pinned (OpenSpec.ofChange flowFlatsSpec)

/-- ITS FALSE NEIGHBOUR: 'it returns false'. Refute it at one input. -/
def flowFlatsWrong : ChangeSpec := { name := "flowFlats", fn := fun _ => fun
  | [d1, d2, d3] => { results := [.lit (.bool false)], args := [d1, d2, d3] }
  | _ => none }
def FlowFlatsWrongFalsely : Prop := flowFlatsRow.holds Tryd.pinned (OpenSpec.ofChange flowFlatsWrong)

/-- 'tidemilllaw17.FlowKeeps': WHATEVER THE INPUT: true; the input reads as it did. -/
def flowKeepsSpec : ChangeSpec := { name := "flowKeeps", fn := fun _ => fun
  | [d1, d2] => { results := [.lit (.bool true)], args := [d1, d2] }
  | _ => none }
def flowKeepsRow : OpenClaim := { program := "ytpobgoeeljknpaadoor", sum := "1b846526d01d81f7f81421935edeb1a0a76859756286d7663bfcd004d427ecd5", func := "tidemill/tidemilllaw17.FlowKeeps", spec := "flowKeeps", unfollowed := true, recurses := true, named := ["tidemill/expr.kids"], loops := true, apart := false, laid := [("tidemill/expr.kids", laid_tidemill_expr_kids)] }
def FlowKeepsSaid : Prop := flowKeepsRow.holds Tryd.pinned (OpenSpec.ofChange flowKeepsSpec)

/-- ITS FALSE NEIGHBOUR: 'it returns false'. Refute it at one input. -/
def flowKeepsWrong : ChangeSpec := { name := "flowKeeps", fn := fun _ => fun
  | [d1, d2] => { results := [.lit (.bool false)], args := [d1, d2] }
  | _ => none }
def FlowKeepsWrongFalsely : Prop := flowKeepsRow.holds Tryd.pinned (OpenSpec.ofChange flowKeepsWrong)

/-- 'tidemilllaw17.FlowMaps': WHATEVER THE INPUT: true; the input reads as it did. -/
def flowMapsSpec : ChangeSpec := { name := "flowMaps", fn := fun _ => fun
  | [d1, d2, d3] => { results := [.lit (.bool true)], args := [d1, d2, d3] }
  | _ => none }
def flowMapsRow : OpenClaim := { program := "ytpobgoeeljknpaadoor", sum := "1b846526d01d81f7f81421935edeb1a0a76859756286d7663bfcd004d427ecd5", func := "tidemill/tidemilllaw17.FlowMaps", spec := "flowMaps", unfollowed := true, recurses := true, named := ["tidemill/expr.kids"], apart := false, laid := [("tidemill/expr.kids", laid_tidemill_expr_kids)] }
def FlowMapsSaid : Prop := flowMapsRow.holds Tryd.pinned (OpenSpec.ofChange flowMapsSpec)

/-- ITS FALSE NEIGHBOUR: 'it returns false'. Refute it at one input. -/
def flowMapsWrong : ChangeSpec := { name := "flowMaps", fn := fun _ => fun
  | [d1, d2, d3] => { results := [.lit (.bool false)], args := [d1, d2, d3] }
  | _ => none }
def FlowMapsWrongFalsely : Prop := flowMapsRow.holds Tryd.pinned (OpenSpec.ofChange flowMapsWrong)

/-- 'tidemilllaw17.FlowSplits': WHATEVER THE INPUT: true; the input reads as it did. -/
def flowSplitsSpec : ChangeSpec := { name := "flowSplits", fn := fun _ => fun
  | [d1, d2, d3] => { results := [.lit (.bool true)], args := [d1, d2, d3] }
  | _ => none }
def flowSplitsRow : OpenClaim := { program := "ytpobgoeeljknpaadoor", sum := "1b846526d01d81f7f81421935edeb1a0a76859756286d7663bfcd004d427ecd5", func := "tidemill/tidemilllaw17.FlowSplits", spec := "flowSplits", unfollowed := true, recurses := true, named := ["tidemill/expr.kids"], loops := true, apart := false, laid := [("tidemill/expr.kids", laid_tidemill_expr_kids)] }
def FlowSplitsSaid : Prop := flowSplitsRow.holds Tryd.pinned (OpenSpec.ofChange flowSplitsSpec)

/-- ITS FALSE NEIGHBOUR: 'it returns false'. Refute it at one input. -/
def flowSplitsWrong : ChangeSpec := { name := "flowSplits", fn := fun _ => fun
  | [d1, d2, d3] => { results := [.lit (.bool false)], args := [d1, d2, d3] }
  | _ => none }
def FlowSplitsWrongFalsely : Prop := flowSplitsRow.holds Tryd.pinned (OpenSpec.ofChange flowSplitsWrong)

/-- 'tidemilllaw17.FlowApplies': WHATEVER THE INPUT: true; the input reads as it did. -/
def flowAppliesSpec : ChangeSpec := { name := "flowApplies", fn := fun _ => fun
  | [d1, d2] => { results := [.lit (.bool true)], args := [d1, d2] }
  | _ => none }
def flowAppliesRow : OpenClaim := { program := "ytpobgoeeljknpaadoor", sum := "1b846526d01d81f7f81421935edeb1a0a76859756286d7663bfcd004d427ecd5", func := "tidemill/tidemilllaw17.FlowApplies", spec := "flowApplies", unfollowed := true, recurses := true, named := ["tidemill/expr.kids"], loops := true, apart := false, laid := [("tidemill/expr.kids", laid_tidemill_expr_kids)] }
def FlowAppliesSaid : Prop := flowAppliesRow.holds Tryd.pinned (OpenSpec.ofChange flowAppliesSpec)

/-- ITS FALSE NEIGHBOUR: 'it returns false'. Refute it at one input. -/
def flowAppliesWrong : ChangeSpec := { name := "flowApplies", fn := fun _ => fun
  | [d1, d2] => { results := [.lit (.bool false)], args := [d1, d2] }
  | _ => none }
def FlowAppliesWrongFalsely : Prop := flowAppliesRow.holds Tryd.pinned (OpenSpec.ofChange flowAppliesWrong)

/- THE SECOND FORM. 'bulk': how many values and letters a reading holds, each counted each time it is reached (what is shared counts as often as it is met; a slice's spare places count too). A statement '..UptoSaid' is the law's where the arguments, and the package variables that the reading takes, are together of bulk at most 1048576: NARROWER than '..Said'. Prove '..Said' where nothing that the law and all that it calls make is longer than what came in: it says more and counts as full. Else prove '..UptoSaid'. A law counts once. -/
mutual
def uptoBulk {H : Type} : DataW H → Nat
  | .lit (.string bytes) => bytes.length + 1
  | .lit _ => 1
  | .nil => 1
  | .ptr d => uptoBulk d + 1
  | .slice elems spare => uptoBulkAll elems + uptoBulkAll spare + 1
  | .agg parts => uptoBulkAll parts + 1
  | .iface _ d => uptoBulk d + 1
  | .map entries => uptoBulkEntries entries + 1
  | .held _ => 1
def uptoBulkAll {H : Type} : List (DataW H) → Nat
  | [] => 0
  | d :: r => uptoBulk d + uptoBulkAll r
def uptoBulkEntries {H : Type} : List (Lit × DataW H) → Nat
  | [] => 0
  | x :: r => uptoBulkEntry x + uptoBulkEntries r
def uptoBulkEntry {H : Type} : Lit × DataW H → Nat
  | (.string bytes, d) => bytes.length + uptoBulk d + 1
  | (_, d) => uptoBulk d + 1
 end
def uptoSmall : (H : Type) → List (DataW H) → Bool := fun _ ds => decide (uptoBulkAll ds ≤ 1048576)
def OpenSpec.upto (s : _root_.Go.ChangeSpec) : _root_.Go.OpenSpec := { _root_.Go.OpenSpec.ofChange s with cond := some uptoSmall }

/-- 'tidemilllaw04.ExprIfs', WHERE WHAT IT READS IS OF BULK AT MOST 1048576: true; the input reads as it did. -/
def exprIfsUptoRow : OpenClaim := { program := "ytpobgoeeljknpaadoor", sum := "1b846526d01d81f7f81421935edeb1a0a76859756286d7663bfcd004d427ecd5", func := "tidemill/tidemilllaw04.ExprIfs", spec := "exprIfs", unfollowed := true, recurses := true, named := ["tidemill/expr.kids"], apart := false, laid := [("tidemill/expr.kids", laid_tidemill_expr_kids)], narrowed := true }
def ExprIfsUptoSaid : Prop := exprIfsUptoRow.holds Tryd.pinned (OpenSpec.upto exprIfsSpec)

/-- 'tidemilllaw04.ExprParts', WHERE WHAT IT READS IS OF BULK AT MOST 1048576: true; the input reads as it did. -/
def exprPartsUptoRow : OpenClaim := { program := "ytpobgoeeljknpaadoor", sum := "1b846526d01d81f7f81421935edeb1a0a76859756286d7663bfcd004d427ecd5", func := "tidemill/tidemilllaw04.ExprParts", spec := "exprParts", unfollowed := true, recurses := true, named := ["tidemill/expr.kids"], apart := false, laid := [("tidemill/expr.kids", laid_tidemill_expr_kids)], narrowed := true }
def ExprPartsUptoSaid : Prop := exprPartsUptoRow.holds Tryd.pinned (OpenSpec.upto exprPartsSpec)

/-- 'tidemilllaw04.ExprTotal', WHERE WHAT IT READS IS OF BULK AT MOST 1048576: true; the input reads as it did. -/
def exprTotalUptoRow : OpenClaim := { program := "ytpobgoeeljknpaadoor", sum := "1b846526d01d81f7f81421935edeb1a0a76859756286d7663bfcd004d427ecd5", func := "tidemill/tidemilllaw04.ExprTotal", spec := "exprTotal", unfollowed := true, recurses := true, named := ["tidemill/expr.kids"], loops := true, apart := false, laid := [("tidemill/expr.kids", laid_tidemill_expr_kids)], narrowed := true }
def ExprTotalUptoSaid : Prop := exprTotalUptoRow.holds Tryd.pinned (OpenSpec.upto exprTotalSpec)

/-- 'tidemilllaw04.ExprDeep', WHERE WHAT IT READS IS OF BULK AT MOST 1048576: true; the input reads as it did. -/
def exprDeepUptoRow : OpenClaim := { program := "ytpobgoeeljknpaadoor", sum := "1b846526d01d81f7f81421935edeb1a0a76859756286d7663bfcd004d427ecd5", func := "tidemill/tidemilllaw04.ExprDeep", spec := "exprDeep", unfollowed := true, recurses := true, named := ["tidemill/expr.kids"], apart := false, laid := [("tidemill/expr.kids", laid_tidemill_expr_kids)], narrowed := true }
def ExprDeepUptoSaid : Prop := exprDeepUptoRow.holds Tryd.pinned (OpenSpec.upto exprDeepSpec)

/-- 'tidemilllaw04.ExprValues', WHERE WHAT IT READS IS OF BULK AT MOST 1048576: true; the input reads as it did. -/
def exprValuesUptoRow : OpenClaim := { program := "ytpobgoeeljknpaadoor", sum := "1b846526d01d81f7f81421935edeb1a0a76859756286d7663bfcd004d427ecd5", func := "tidemill/tidemilllaw04.ExprValues", spec := "exprValues", unfollowed := true, recurses := true, named := ["tidemill/expr.kids"], loops := true, apart := false, laid := [("tidemill/expr.kids", laid_tidemill_expr_kids)], narrowed := true }
def ExprValuesUptoSaid : Prop := exprValuesUptoRow.holds Tryd.pinned (OpenSpec.upto exprValuesSpec)

/-- 'tidemilllaw04.ExprBytes', WHERE WHAT IT READS IS OF BULK AT MOST 1048576: true; the input reads as it did. -/
def exprBytesUptoRow : OpenClaim := { program := "ytpobgoeeljknpaadoor", sum := "1b846526d01d81f7f81421935edeb1a0a76859756286d7663bfcd004d427ecd5", func := "tidemill/tidemilllaw04.ExprBytes", spec := "exprBytes", unfollowed := true, recurses := true, named := ["tidemill/expr.kids"], loops := true, apart := false, laid := [("tidemill/expr.kids", laid_tidemill_expr_kids)], narrowed := true }
def ExprBytesUptoSaid : Prop := exprBytesUptoRow.holds Tryd.pinned (OpenSpec.upto exprBytesSpec)

/-- 'tidemilllaw04.ExprBack', WHERE WHAT IT READS IS OF BULK AT MOST 1048576: true; the input reads as it did. -/
def exprBackUptoRow : OpenClaim := { program := "ytpobgoeeljknpaadoor", sum := "1b846526d01d81f7f81421935edeb1a0a76859756286d7663bfcd004d427ecd5", func := "tidemill/tidemilllaw04.ExprBack", spec := "exprBack", unfollowed := true, recurses := true, named := ["tidemill/expr.kids"], loops := true, apart := false, laid := [("tidemill/expr.kids", laid_tidemill_expr_kids)], narrowed := true }
def ExprBackUptoSaid : Prop := exprBackUptoRow.holds Tryd.pinned (OpenSpec.upto exprBackSpec)

/-- 'tidemilllaw17.FlowFlats', WHERE WHAT IT READS IS OF BULK AT MOST 1048576: true; the input reads as it did. -/
def flowFlatsUptoRow : OpenClaim := { program := "ytpobgoeeljknpaadoor", sum := "1b846526d01d81f7f81421935edeb1a0a76859756286d7663bfcd004d427ecd5", func := "tidemill/tidemilllaw17.FlowFlats", spec := "flowFlats", unfollowed := true, recurses := true, named := ["tidemill/expr.kids"], apart := false, laid := [("tidemill/expr.kids", laid_tidemill_expr_kids)], narrowed := true }
def FlowFlatsUptoSaid : Prop := flowFlatsUptoRow.holds Tryd.pinned (OpenSpec.upto flowFlatsSpec)

/-- 'tidemilllaw17.FlowKeeps', WHERE WHAT IT READS IS OF BULK AT MOST 1048576: true; the input reads as it did. -/
def flowKeepsUptoRow : OpenClaim := { program := "ytpobgoeeljknpaadoor", sum := "1b846526d01d81f7f81421935edeb1a0a76859756286d7663bfcd004d427ecd5", func := "tidemill/tidemilllaw17.FlowKeeps", spec := "flowKeeps", unfollowed := true, recurses := true, named := ["tidemill/expr.kids"], loops := true, apart := false, laid := [("tidemill/expr.kids", laid_tidemill_expr_kids)], narrowed := true }
def FlowKeepsUptoSaid : Prop := flowKeepsUptoRow.holds Tryd.pinned (OpenSpec.upto flowKeepsSpec)

/-- 'tidemilllaw17.FlowMaps', WHERE WHAT IT READS IS OF BULK AT MOST 1048576: true; the input reads as it did. -/
def flowMapsUptoRow : OpenClaim := { program := "ytpobgoeeljknpaadoor", sum := "1b846526d01d81f7f81421935edeb1a0a76859756286d7663bfcd004d427ecd5", func := "tidemill/tidemilllaw17.FlowMaps", spec := "flowMaps", unfollowed := true, recurses := true, named := ["tidemill/expr.kids"], apart := false, laid := [("tidemill/expr.kids", laid_tidemill_expr_kids)], narrowed := true }
def FlowMapsUptoSaid : Prop := flowMapsUptoRow.holds Tryd.pinned (OpenSpec.upto flowMapsSpec)

/-- 'tidemilllaw17.FlowSplits', WHERE WHAT IT READS IS OF BULK AT MOST 1048576: true; the input reads as it did. -/
def flowSplitsUptoRow : OpenClaim := { program := "ytpobgoeeljknpaadoor", sum := "1b846526d01d81f7f81421935edeb1a0a76859756286d7663bfcd004d427ecd5", func := "tidemill/tidemilllaw17.FlowSplits", spec := "flowSplits", unfollowed := true, recurses := true, named := ["tidemill/expr.kids"], loops := true, apart := false, laid := [("tidemill/expr.kids", laid_tidemill_expr_kids)], narrowed := true }
def FlowSplitsUptoSaid : Prop := flowSplitsUptoRow.holds Tryd.pinned (OpenSpec.upto flowSplitsSpec)

/-- 'tidemilllaw17.FlowApplies', WHERE WHAT IT READS IS OF BULK AT MOST 1048576: true; the input reads as it did. -/
def flowAppliesUptoRow : OpenClaim := { program := "ytpobgoeeljknpaadoor", sum := "1b846526d01d81f7f81421935edeb1a0a76859756286d7663bfcd004d427ecd5", func := "tidemill/tidemilllaw17.FlowApplies", spec := "flowApplies", unfollowed := true, recurses := true, named := ["tidemill/expr.kids"], loops := true, apart := false, laid := [("tidemill/expr.kids", laid_tidemill_expr_kids)], narrowed := true }
def FlowAppliesUptoSaid : Prop := flowAppliesUptoRow.holds Tryd.pinned (OpenSpec.upto flowAppliesSpec)

end Rows
end Go.Proofs.YtpobgoeeljknpaaDoor
