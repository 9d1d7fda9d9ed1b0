/-
  NARROWER THAN 'FOR EVERY INPUT', by the rows' own cells (each row's printed sentence says how): TopoChecks: loops, laid · TopoBack: loops, laid · TopoRings: loops, laid · TopoMore: loops, laid · TopoSinks: loops, laid · CutParts: loops, laid · CutLogs: loops, laid · CutApart: loops, laid · CutNumbers: loops, laid · CutKeys: loops, laid · CutSources: laid.
  DERIVED. THE GIVEN ROWS OF THIS SEAT. 11 by the template 'for every input the law returns true; each argument reads behind the call as it read before'; 0 by the template 'total and deterministic' (their statements: YtpmmbcifhallbaaDoorTotals.lean).
  GIVEN WITH THE SEED: the statements are not yours to turn. If you find one false, say at which input.
  Laid BY PROGRAM, IN A SANDBOX (cutbox-rows.mjs): the forced cells as the released guide's own fill.sh prints them over the translation 695b63c25b1d7dd1… (all of the seat's roots in one cut). By AI agents, Wed Nov 11 2026. No macro, syntax, notation, axiom, sorry.
-/
import Derived.Test.YtpmmbcifhallbaaDoorChecked
import GoSem.Claim
import GoSem.ClaimJoined
import GoSem.ClaimMapViews
import Derived.JoinedTies
import Derived.KernelRfl
namespace Go.Proofs.YtpmmbcifhallbaaDoor
/- THE CELL 'sum', in the pinned program and in every row, IS THE sha256 OF THE DUMP (.gsa) THAT YtpmmbcifhallbaaDoorProg.lean LOADS. Nothing in Lean hashes anything: it is a label: what it is worth is what the hold of that sum in a sandbox is worth. -/
noncomputable def Tryd.pinned : Pinned := { name := "ytpmmbcifhallbaadoor", sum := "695b63c25b1d7dd1387bac87b50f1d163d94eea4c90d944eb62c3a46925d4a41", checked := Tryd.checked }
namespace Rows
def none {H : Type} : Left H := { results := [], args := [] }

/- WHAT THE LISTED PACKAGE-LEVEL VARIABLES READ AS WHEN THE CALL BEGINS. Each datum BY PROGRAM (the guide's laid-datum.mjs) off the statement by which the dump's own 'gosem.cut.vars' lays the variable. In a bare row this is a premise. The card (YtpmmbcifhallbaaDoorCards.lean) ties it to the program's text. -/
def laid_tidemill_expr_kids {H : Type} : DataW H := .agg [.lit (.int .i64 0), .lit (.int .i64 0), .lit (.int .i64 0), .lit (.int .i64 0), .lit (.int .i64 0), .lit (.int .i64 0), .lit (.int .i64 2), .lit (.int .i64 2), .lit (.int .i64 2), .lit (.int .i64 2), .lit (.int .i64 2), .lit (.int .i64 2), .lit (.int .i64 2), .lit (.int .i64 3), .lit (.int .i64 1), .lit (.int .i64 2), .lit (.int .i64 2)]
def laid_tidemill_topo_needs {H : Type} : DataW H := .agg [.agg [.lit (.int .i64 0), .lit (.int .i64 0), .lit (.int .i64 0), .lit (.int .i64 0)], .agg [.lit (.int .i64 0), .lit (.int .i64 0), .lit (.int .i64 0), .lit (.int .i64 7)], .agg [.lit (.int .i64 1), .lit (.int .i64 1), .lit (.int .i64 0), .lit (.int .i64 0)], .agg [.lit (.int .i64 1), .lit (.int .i64 1), .lit (.int .i64 0), .lit (.int .i64 0)], .agg [.lit (.int .i64 1), .lit (.int .i64 1), .lit (.int .i64 0), .lit (.int .i64 0)], .agg [.lit (.int .i64 1), .lit (.int .i64 1), .lit (.int .i64 0), .lit (.int .i64 0)], .agg [.lit (.int .i64 1), .lit (.int .i64 2), .lit (.int .i64 0), .lit (.int .i64 0)], .agg [.lit (.int .i64 1), .lit (.int .i64 2), .lit (.int .i64 1), .lit (.int .i64 1048576)], .agg [.lit (.int .i64 1), .lit (.int .i64 2), .lit (.int .i64 1), .lit (.int .i64 1048576)], .agg [.lit (.int .i64 2), .lit (.int .i64 2), .lit (.int .i64 0), .lit (.int .i64 0)], .agg [.lit (.int .i64 1), .lit (.int .i64 0), .lit (.int .i64 0), .lit (.int .i64 7)]]

/-- 'tidemilllaw05.TopoChecks': WHATEVER THE INPUT: true; the input reads as it did. -/
def topoChecksSpec : ChangeSpec := { name := "topoChecks", fn := fun _ => fun
  | [d1, d2] => { results := [.lit (.bool true)], args := [d1, d2] }
  | _ => none }
def topoChecksRow : OpenClaim := { program := "ytpmmbcifhallbaadoor", sum := "695b63c25b1d7dd1387bac87b50f1d163d94eea4c90d944eb62c3a46925d4a41", func := "tidemill/tidemilllaw05.TopoChecks", spec := "topoChecks", recurses := true, named := ["tidemill/topo.needs", "tidemill/expr.kids"], loops := true, plainKeys := false, apart := false, laid := [("tidemill/expr.kids", laid_tidemill_expr_kids), ("tidemill/topo.needs", laid_tidemill_topo_needs)] }
def TopoChecksSaid : Prop := topoChecksRow.holds Tryd.pinned (OpenSpec.ofChange topoChecksSpec)

/-- ITS FALSE NEIGHBOUR: 'it returns false'. Refute it at one input. -/
def topoChecksWrong : ChangeSpec := { name := "topoChecks", fn := fun _ => fun
  | [d1, d2] => { results := [.lit (.bool false)], args := [d1, d2] }
  | _ => none }
def TopoChecksWrongFalsely : Prop := topoChecksRow.holds Tryd.pinned (OpenSpec.ofChange topoChecksWrong)

/-- 'tidemilllaw05.TopoBack': WHATEVER THE INPUT: true; the input reads as it did. -/
def topoBackSpec : ChangeSpec := { name := "topoBack", fn := fun _ => fun
  | [d1, d2] => { results := [.lit (.bool true)], args := [d1, d2] }
  | _ => none }
def topoBackRow : OpenClaim := { program := "ytpmmbcifhallbaadoor", sum := "695b63c25b1d7dd1387bac87b50f1d163d94eea4c90d944eb62c3a46925d4a41", func := "tidemill/tidemilllaw05.TopoBack", spec := "topoBack", recurses := true, named := ["tidemill/topo.needs", "tidemill/expr.kids"], loops := true, plainKeys := false, apart := false, laid := [("tidemill/expr.kids", laid_tidemill_expr_kids), ("tidemill/topo.needs", laid_tidemill_topo_needs)] }
def TopoBackSaid : Prop := topoBackRow.holds Tryd.pinned (OpenSpec.ofChange topoBackSpec)

/-- ITS FALSE NEIGHBOUR: 'it returns false'. Refute it at one input. -/
def topoBackWrong : ChangeSpec := { name := "topoBack", fn := fun _ => fun
  | [d1, d2] => { results := [.lit (.bool false)], args := [d1, d2] }
  | _ => none }
def TopoBackWrongFalsely : Prop := topoBackRow.holds Tryd.pinned (OpenSpec.ofChange topoBackWrong)

/-- 'tidemilllaw05.TopoRings': WHATEVER THE INPUT: true; the input reads as it did. -/
def topoRingsSpec : ChangeSpec := { name := "topoRings", fn := fun _ => fun
  | [d] => { results := [.lit (.bool true)], args := [d] }
  | _ => none }
def topoRingsRow : OpenClaim := { program := "ytpmmbcifhallbaadoor", sum := "695b63c25b1d7dd1387bac87b50f1d163d94eea4c90d944eb62c3a46925d4a41", func := "tidemill/tidemilllaw05.TopoRings", spec := "topoRings", recurses := true, named := ["tidemill/topo.needs", "tidemill/expr.kids"], loops := true, plainKeys := false, apart := false, laid := [("tidemill/expr.kids", laid_tidemill_expr_kids), ("tidemill/topo.needs", laid_tidemill_topo_needs)] }
def TopoRingsSaid : Prop := topoRingsRow.holds Tryd.pinned (OpenSpec.ofChange topoRingsSpec)

/-- ITS FALSE NEIGHBOUR: 'it returns false'. Refute it at one input. -/
def topoRingsWrong : ChangeSpec := { name := "topoRings", fn := fun _ => fun
  | [d] => { results := [.lit (.bool false)], args := [d] }
  | _ => none }
def TopoRingsWrongFalsely : Prop := topoRingsRow.holds Tryd.pinned (OpenSpec.ofChange topoRingsWrong)

/-- 'tidemilllaw05.TopoMore': WHATEVER THE INPUT: true; the input reads as it did. -/
def topoMoreSpec : ChangeSpec := { name := "topoMore", fn := fun _ => fun
  | [d1, d2] => { results := [.lit (.bool true)], args := [d1, d2] }
  | _ => none }
def topoMoreRow : OpenClaim := { program := "ytpmmbcifhallbaadoor", sum := "695b63c25b1d7dd1387bac87b50f1d163d94eea4c90d944eb62c3a46925d4a41", func := "tidemill/tidemilllaw05.TopoMore", spec := "topoMore", recurses := true, named := ["tidemill/topo.needs", "tidemill/expr.kids"], loops := true, plainKeys := false, apart := false, laid := [("tidemill/expr.kids", laid_tidemill_expr_kids), ("tidemill/topo.needs", laid_tidemill_topo_needs)] }
def TopoMoreSaid : Prop := topoMoreRow.holds Tryd.pinned (OpenSpec.ofChange topoMoreSpec)

/-- ITS FALSE NEIGHBOUR: 'it returns false'. Refute it at one input. -/
def topoMoreWrong : ChangeSpec := { name := "topoMore", fn := fun _ => fun
  | [d1, d2] => { results := [.lit (.bool false)], args := [d1, d2] }
  | _ => none }
def TopoMoreWrongFalsely : Prop := topoMoreRow.holds Tryd.pinned (OpenSpec.ofChange topoMoreWrong)

/-- 'tidemilllaw05.TopoSinks': WHATEVER THE INPUT: true; the input reads as it did. -/
def topoSinksSpec : ChangeSpec := { name := "topoSinks", fn := fun _ => fun
  | [d1, d2, d3] => { results := [.lit (.bool true)], args := [d1, d2, d3] }
  | _ => none }
def topoSinksRow : OpenClaim := { program := "ytpmmbcifhallbaadoor", sum := "695b63c25b1d7dd1387bac87b50f1d163d94eea4c90d944eb62c3a46925d4a41", func := "tidemill/tidemilllaw05.TopoSinks", spec := "topoSinks", recurses := true, named := ["tidemill/topo.needs", "tidemill/expr.kids"], loops := true, plainKeys := false, apart := false, laid := [("tidemill/expr.kids", laid_tidemill_expr_kids), ("tidemill/topo.needs", laid_tidemill_topo_needs)] }
def TopoSinksSaid : Prop := topoSinksRow.holds Tryd.pinned (OpenSpec.ofChange topoSinksSpec)

/-- ITS FALSE NEIGHBOUR: 'it returns false'. Refute it at one input. -/
def topoSinksWrong : ChangeSpec := { name := "topoSinks", fn := fun _ => fun
  | [d1, d2, d3] => { results := [.lit (.bool false)], args := [d1, d2, d3] }
  | _ => none }
def TopoSinksWrongFalsely : Prop := topoSinksRow.holds Tryd.pinned (OpenSpec.ofChange topoSinksWrong)

/-- 'tidemilllaw16.CutParts': WHATEVER THE INPUT: true; the input reads as it did. -/
def cutPartsSpec : ChangeSpec := { name := "cutParts", fn := fun _ => fun
  | [d1, d2, d3] => { results := [.lit (.bool true)], args := [d1, d2, d3] }
  | _ => none }
def cutPartsRow : OpenClaim := { program := "ytpmmbcifhallbaadoor", sum := "695b63c25b1d7dd1387bac87b50f1d163d94eea4c90d944eb62c3a46925d4a41", func := "tidemill/tidemilllaw16.CutParts", spec := "cutParts", unfollowed := true, recurses := true, named := ["tidemill/topo.needs", "tidemill/expr.kids"], loops := true, plainKeys := false, apart := false, laid := [("tidemill/expr.kids", laid_tidemill_expr_kids), ("tidemill/topo.needs", laid_tidemill_topo_needs)] }
def CutPartsSaid : Prop := cutPartsRow.holds Tryd.pinned (OpenSpec.ofChange cutPartsSpec)

/-- ITS FALSE NEIGHBOUR: 'it returns false'. Refute it at one input. -/
def cutPartsWrong : ChangeSpec := { name := "cutParts", fn := fun _ => fun
  | [d1, d2, d3] => { results := [.lit (.bool false)], args := [d1, d2, d3] }
  | _ => none }
def CutPartsWrongFalsely : Prop := cutPartsRow.holds Tryd.pinned (OpenSpec.ofChange cutPartsWrong)

/-- 'tidemilllaw16.CutLogs': WHATEVER THE INPUT: true; the input reads as it did. -/
def cutLogsSpec : ChangeSpec := { name := "cutLogs", fn := fun _ => fun
  | [d1, d2, d3, d4, d5] => { results := [.lit (.bool true)], args := [d1, d2, d3, d4, d5] }
  | _ => none }
def cutLogsRow : OpenClaim := { program := "ytpmmbcifhallbaadoor", sum := "695b63c25b1d7dd1387bac87b50f1d163d94eea4c90d944eb62c3a46925d4a41", func := "tidemill/tidemilllaw16.CutLogs", spec := "cutLogs", unfollowed := true, recurses := true, named := ["tidemill/topo.needs", "tidemill/expr.kids"], loops := true, plainKeys := false, apart := false, laid := [("tidemill/expr.kids", laid_tidemill_expr_kids), ("tidemill/topo.needs", laid_tidemill_topo_needs)] }
def CutLogsSaid : Prop := cutLogsRow.holds Tryd.pinned (OpenSpec.ofChange cutLogsSpec)

/-- ITS FALSE NEIGHBOUR: 'it returns false'. Refute it at one input. -/
def cutLogsWrong : ChangeSpec := { name := "cutLogs", fn := fun _ => fun
  | [d1, d2, d3, d4, d5] => { results := [.lit (.bool false)], args := [d1, d2, d3, d4, d5] }
  | _ => none }
def CutLogsWrongFalsely : Prop := cutLogsRow.holds Tryd.pinned (OpenSpec.ofChange cutLogsWrong)

/-- 'tidemilllaw16.CutApart': WHATEVER THE INPUT: true; the input reads as it did. -/
def cutApartSpec : ChangeSpec := { name := "cutApart", fn := fun _ => fun
  | [d] => { results := [.lit (.bool true)], args := [d] }
  | _ => none }
def cutApartRow : OpenClaim := { program := "ytpmmbcifhallbaadoor", sum := "695b63c25b1d7dd1387bac87b50f1d163d94eea4c90d944eb62c3a46925d4a41", func := "tidemill/tidemilllaw16.CutApart", spec := "cutApart", unfollowed := true, recurses := true, named := ["tidemill/topo.needs", "tidemill/expr.kids"], loops := true, plainKeys := false, apart := false, laid := [("tidemill/expr.kids", laid_tidemill_expr_kids), ("tidemill/topo.needs", laid_tidemill_topo_needs)] }
def CutApartSaid : Prop := cutApartRow.holds Tryd.pinned (OpenSpec.ofChange cutApartSpec)

/-- ITS FALSE NEIGHBOUR: 'it returns false'. Refute it at one input. -/
def cutApartWrong : ChangeSpec := { name := "cutApart", fn := fun _ => fun
  | [d] => { results := [.lit (.bool false)], args := [d] }
  | _ => none }
def CutApartWrongFalsely : Prop := cutApartRow.holds Tryd.pinned (OpenSpec.ofChange cutApartWrong)

/-- 'tidemilllaw16.CutNumbers': WHATEVER THE INPUT: true; the input reads as it did. -/
def cutNumbersSpec : ChangeSpec := { name := "cutNumbers", fn := fun _ => fun
  | [d1, d2, d3, d4] => { results := [.lit (.bool true)], args := [d1, d2, d3, d4] }
  | _ => none }
def cutNumbersRow : OpenClaim := { program := "ytpmmbcifhallbaadoor", sum := "695b63c25b1d7dd1387bac87b50f1d163d94eea4c90d944eb62c3a46925d4a41", func := "tidemill/tidemilllaw16.CutNumbers", spec := "cutNumbers", unfollowed := true, recurses := true, named := ["tidemill/topo.needs", "tidemill/expr.kids"], loops := true, plainKeys := false, apart := false, laid := [("tidemill/expr.kids", laid_tidemill_expr_kids), ("tidemill/topo.needs", laid_tidemill_topo_needs)] }
def CutNumbersSaid : Prop := cutNumbersRow.holds Tryd.pinned (OpenSpec.ofChange cutNumbersSpec)

/-- ITS FALSE NEIGHBOUR: 'it returns false'. Refute it at one input. -/
def cutNumbersWrong : ChangeSpec := { name := "cutNumbers", fn := fun _ => fun
  | [d1, d2, d3, d4] => { results := [.lit (.bool false)], args := [d1, d2, d3, d4] }
  | _ => none }
def CutNumbersWrongFalsely : Prop := cutNumbersRow.holds Tryd.pinned (OpenSpec.ofChange cutNumbersWrong)

/-- 'tidemilllaw16.CutKeys': WHATEVER THE INPUT: true; the input reads as it did. -/
def cutKeysSpec : ChangeSpec := { name := "cutKeys", fn := fun _ => fun
  | [d1, d2] => { results := [.lit (.bool true)], args := [d1, d2] }
  | _ => none }
def cutKeysRow : OpenClaim := { program := "ytpmmbcifhallbaadoor", sum := "695b63c25b1d7dd1387bac87b50f1d163d94eea4c90d944eb62c3a46925d4a41", func := "tidemill/tidemilllaw16.CutKeys", spec := "cutKeys", unfollowed := true, recurses := true, named := ["tidemill/topo.needs", "tidemill/expr.kids"], loops := true, plainKeys := false, apart := false, laid := [("tidemill/expr.kids", laid_tidemill_expr_kids), ("tidemill/topo.needs", laid_tidemill_topo_needs)] }
def CutKeysSaid : Prop := cutKeysRow.holds Tryd.pinned (OpenSpec.ofChange cutKeysSpec)

/-- ITS FALSE NEIGHBOUR: 'it returns false'. Refute it at one input. -/
def cutKeysWrong : ChangeSpec := { name := "cutKeys", fn := fun _ => fun
  | [d1, d2] => { results := [.lit (.bool false)], args := [d1, d2] }
  | _ => none }
def CutKeysWrongFalsely : Prop := cutKeysRow.holds Tryd.pinned (OpenSpec.ofChange cutKeysWrong)

/-- 'tidemilllaw16.CutSources': WHATEVER THE INPUT: true; the input reads as it did. -/
def cutSourcesSpec : ChangeSpec := { name := "cutSources", fn := fun _ => fun
  | [d1, d2] => { results := [.lit (.bool true)], args := [d1, d2] }
  | _ => none }
def cutSourcesRow : OpenClaim := { program := "ytpmmbcifhallbaadoor", sum := "695b63c25b1d7dd1387bac87b50f1d163d94eea4c90d944eb62c3a46925d4a41", func := "tidemill/tidemilllaw16.CutSources", spec := "cutSources", unfollowed := true, recurses := true, named := ["tidemill/topo.needs", "tidemill/expr.kids"], plainKeys := false, apart := false, laid := [("tidemill/expr.kids", laid_tidemill_expr_kids), ("tidemill/topo.needs", laid_tidemill_topo_needs)] }
def CutSourcesSaid : Prop := cutSourcesRow.holds Tryd.pinned (OpenSpec.ofChange cutSourcesSpec)

/-- ITS FALSE NEIGHBOUR: 'it returns false'. Refute it at one input. -/
def cutSourcesWrong : ChangeSpec := { name := "cutSources", fn := fun _ => fun
  | [d1, d2] => { results := [.lit (.bool false)], args := [d1, d2] }
  | _ => none }
def CutSourcesWrongFalsely : Prop := cutSourcesRow.holds Tryd.pinned (OpenSpec.ofChange cutSourcesWrong)

/- THE SECOND FORM. 'bulk': how many values and letters a reading holds, each counted each time it is reached (what is shared counts as often as it is met; a slice's spare places count too). A statement '..UptoSaid' is the law's where the arguments, and the package variables that the reading takes, are together of bulk at most 1048576: NARROWER than '..Said'. Prove '..Said' where nothing that the law and all that it calls make is longer than what came in: it says more and counts as full. Else prove '..UptoSaid'. A law counts once. -/
mutual
def uptoBulk {H : Type} : DataW H → Nat
  | .lit (.string bytes) => bytes.length + 1
  | .lit _ => 1
  | .nil => 1
  | .ptr d => uptoBulk d + 1
  | .slice elems spare => uptoBulkAll elems + uptoBulkAll spare + 1
  | .agg parts => uptoBulkAll parts + 1
  | .iface _ d => uptoBulk d + 1
  | .map entries => uptoBulkEntries entries + 1
  | .held _ => 1
def uptoBulkAll {H : Type} : List (DataW H) → Nat
  | [] => 0
  | d :: r => uptoBulk d + uptoBulkAll r
def uptoBulkEntries {H : Type} : List (Lit × DataW H) → Nat
  | [] => 0
  | x :: r => uptoBulkEntry x + uptoBulkEntries r
def uptoBulkEntry {H : Type} : Lit × DataW H → Nat
  | (.string bytes, d) => bytes.length + uptoBulk d + 1
  | (_, d) => uptoBulk d + 1
 end
def uptoSmall : (H : Type) → List (DataW H) → Bool := fun _ ds => decide (uptoBulkAll ds ≤ 1048576)
def OpenSpec.upto (s : _root_.Go.ChangeSpec) : _root_.Go.OpenSpec := { _root_.Go.OpenSpec.ofChange s with cond := some uptoSmall }

/-- 'tidemilllaw05.TopoChecks', WHERE WHAT IT READS IS OF BULK AT MOST 1048576: true; the input reads as it did. -/
def topoChecksUptoRow : OpenClaim := { program := "ytpmmbcifhallbaadoor", sum := "695b63c25b1d7dd1387bac87b50f1d163d94eea4c90d944eb62c3a46925d4a41", func := "tidemill/tidemilllaw05.TopoChecks", spec := "topoChecks", recurses := true, named := ["tidemill/topo.needs", "tidemill/expr.kids"], loops := true, plainKeys := false, apart := false, laid := [("tidemill/expr.kids", laid_tidemill_expr_kids), ("tidemill/topo.needs", laid_tidemill_topo_needs)], narrowed := true }
def TopoChecksUptoSaid : Prop := topoChecksUptoRow.holds Tryd.pinned (OpenSpec.upto topoChecksSpec)

/-- 'tidemilllaw05.TopoBack', WHERE WHAT IT READS IS OF BULK AT MOST 1048576: true; the input reads as it did. -/
def topoBackUptoRow : OpenClaim := { program := "ytpmmbcifhallbaadoor", sum := "695b63c25b1d7dd1387bac87b50f1d163d94eea4c90d944eb62c3a46925d4a41", func := "tidemill/tidemilllaw05.TopoBack", spec := "topoBack", recurses := true, named := ["tidemill/topo.needs", "tidemill/expr.kids"], loops := true, plainKeys := false, apart := false, laid := [("tidemill/expr.kids", laid_tidemill_expr_kids), ("tidemill/topo.needs", laid_tidemill_topo_needs)], narrowed := true }
def TopoBackUptoSaid : Prop := topoBackUptoRow.holds Tryd.pinned (OpenSpec.upto topoBackSpec)

/-- 'tidemilllaw05.TopoRings', WHERE WHAT IT READS IS OF BULK AT MOST 1048576: true; the input reads as it did. -/
def topoRingsUptoRow : OpenClaim := { program := "ytpmmbcifhallbaadoor", sum := "695b63c25b1d7dd1387bac87b50f1d163d94eea4c90d944eb62c3a46925d4a41", func := "tidemill/tidemilllaw05.TopoRings", spec := "topoRings", recurses := true, named := ["tidemill/topo.needs", "tidemill/expr.kids"], loops := true, plainKeys := false, apart := false, laid := [("tidemill/expr.kids", laid_tidemill_expr_kids), ("tidemill/topo.needs", laid_tidemill_topo_needs)], narrowed := true }
def TopoRingsUptoSaid : Prop := topoRingsUptoRow.holds Tryd.pinned (OpenSpec.upto topoRingsSpec)

/-- 'tidemilllaw05.TopoMore', WHERE WHAT IT READS IS OF BULK AT MOST 1048576: true; the input reads as it did. -/
def topoMoreUptoRow : OpenClaim := { program := "ytpmmbcifhallbaadoor", sum := "695b63c25b1d7dd1387bac87b50f1d163d94eea4c90d944eb62c3a46925d4a41", func := "tidemill/tidemilllaw05.TopoMore", spec := "topoMore", recurses := true, named := ["tidemill/topo.needs", "tidemill/expr.kids"], loops := true, plainKeys := false, apart := false, laid := [("tidemill/expr.kids", laid_tidemill_expr_kids), ("tidemill/topo.needs", laid_tidemill_topo_needs)], narrowed := true }
def TopoMoreUptoSaid : Prop := topoMoreUptoRow.holds Tryd.pinned (OpenSpec.upto topoMoreSpec)

/-- 'tidemilllaw05.TopoSinks', WHERE WHAT IT READS IS OF BULK AT MOST 1048576: true; the input reads as it did. -/
def topoSinksUptoRow : OpenClaim := { program := "ytpmmbcifhallbaadoor", sum := "695b63c25b1d7dd1387bac87b50f1d163d94eea4c90d944eb62c3a46925d4a41", func := "tidemill/tidemilllaw05.TopoSinks", spec := "topoSinks", recurses := true, named := ["tidemill/topo.needs", "tidemill/expr.kids"], loops := true, plainKeys := false, apart := false, laid := [("tidemill/expr.kids", laid_tidemill_expr_kids), ("tidemill/topo.needs", laid_tidemill_topo_needs)], narrowed := true }
def TopoSinksUptoSaid : Prop := topoSinksUptoRow.holds Tryd.pinned (OpenSpec.upto topoSinksSpec)

/-- 'tidemilllaw16.CutParts', WHERE WHAT IT READS IS OF BULK AT MOST 1048576: true; the input reads as it did. -/
def cutPartsUptoRow : OpenClaim := { program := "ytpmmbcifhallbaadoor", sum := "695b63c25b1d7dd1387bac87b50f1d163d94eea4c90d944eb62c3a46925d4a41", func := "tidemill/tidemilllaw16.CutParts", spec := "cutParts", unfollowed := true, recurses := true, named := ["tidemill/topo.needs", "tidemill/expr.kids"], loops := true, plainKeys := false, apart := false, laid := [("tidemill/expr.kids", laid_tidemill_expr_kids), ("tidemill/topo.needs", laid_tidemill_topo_needs)], narrowed := true }
def CutPartsUptoSaid : Prop := cutPartsUptoRow.holds Tryd.pinned (OpenSpec.upto cutPartsSpec)

/-- 'tidemilllaw16.CutLogs', WHERE WHAT IT READS IS OF BULK AT MOST 1048576: true; the input reads as it did. -/
def cutLogsUptoRow : OpenClaim := { program := "ytpmmbcifhallbaadoor", sum := "695b63c25b1d7dd1387bac87b50f1d163d94eea4c90d944eb62c3a46925d4a41", func := "tidemill/tidemilllaw16.CutLogs", spec := "cutLogs", unfollowed := true, recurses := true, named := ["tidemill/topo.needs", "tidemill/expr.kids"], loops := true, plainKeys := false, apart := false, laid := [("tidemill/expr.kids", laid_tidemill_expr_kids), ("tidemill/topo.needs", laid_tidemill_topo_needs)], narrowed := true }
def CutLogsUptoSaid : Prop := cutLogsUptoRow.holds Tryd.pinned (OpenSpec.upto cutLogsSpec)

/-- 'tidemilllaw16.CutApart', WHERE WHAT IT READS IS OF BULK AT MOST 1048576: true; the input reads as it did. -/
def cutApartUptoRow : OpenClaim := { program := "ytpmmbcifhallbaadoor", sum := "695b63c25b1d7dd1387bac87b50f1d163d94eea4c90d944eb62c3a46925d4a41", func := "tidemill/tidemilllaw16.CutApart", spec := "cutApart", unfollowed := true, recurses := true, named := ["tidemill/topo.needs", "tidemill/expr.kids"], loops := true, plainKeys := false, apart := false, laid := [("tidemill/expr.kids", laid_tidemill_expr_kids), ("tidemill/topo.needs", laid_tidemill_topo_needs)], narrowed := true }
def CutApartUptoSaid : Prop := cutApartUptoRow.holds Tryd.pinned (OpenSpec.upto cutApartSpec)

/-- 'tidemilllaw16.CutNumbers', WHERE WHAT IT READS IS OF BULK AT MOST 1048576: true; the input reads as it did. -/
def cutNumbersUptoRow : OpenClaim := { program := "ytpmmbcifhallbaadoor", sum := "695b63c25b1d7dd1387bac87b50f1d163d94eea4c90d944eb62c3a46925d4a41", func := "tidemill/tidemilllaw16.CutNumbers", spec := "cutNumbers", unfollowed := true, recurses := true, named := ["tidemill/topo.needs", "tidemill/expr.kids"], loops := true, plainKeys := false, apart := false, laid := [("tidemill/expr.kids", laid_tidemill_expr_kids), ("tidemill/topo.needs", laid_tidemill_topo_needs)], narrowed := true }
def CutNumbersUptoSaid : Prop := cutNumbersUptoRow.holds Tryd.pinned (OpenSpec.upto cutNumbersSpec)

/-- 'tidemilllaw16.CutKeys', WHERE WHAT IT READS IS OF BULK AT MOST 1048576: true; the input reads as it did. -/
def cutKeysUptoRow : OpenClaim := { program := "ytpmmbcifhallbaadoor", sum := "695b63c25b1d7dd1387bac87b50f1d163d94eea4c90d944eb62c3a46925d4a41", func := "tidemill/tidemilllaw16.CutKeys", spec := "cutKeys", unfollowed := true, recurses := true, named := ["tidemill/topo.needs", "tidemill/expr.kids"], loops := true, plainKeys := false, apart := false, laid := [("tidemill/expr.kids", laid_tidemill_expr_kids), ("tidemill/topo.needs", laid_tidemill_topo_needs)], narrowed := true }
def CutKeysUptoSaid : Prop := cutKeysUptoRow.holds Tryd.pinned (OpenSpec.upto cutKeysSpec)

/-- 'tidemilllaw16.CutSources', WHERE WHAT IT READS IS OF BULK AT MOST 1048576: true; the input reads as it did. -/
def cutSourcesUptoRow : OpenClaim := { program := "ytpmmbcifhallbaadoor", sum := "695b63c25b1d7dd1387bac87b50f1d163d94eea4c90d944eb62c3a46925d4a41", func := "tidemill/tidemilllaw16.CutSources", spec := "cutSources", unfollowed := true, recurses := true, named := ["tidemill/topo.needs", "tidemill/expr.kids"], plainKeys := false, apart := false, laid := [("tidemill/expr.kids", laid_tidemill_expr_kids), ("tidemill/topo.needs", laid_tidemill_topo_needs)], narrowed := true }
def CutSourcesUptoSaid : Prop := cutSourcesUptoRow.holds Tryd.pinned (OpenSpec.upto cutSourcesSpec)

end Rows
end Go.Proofs.YtpmmbcifhallbaaDoor
