/-
  NARROWER THAN 'FOR EVERY INPUT', by the rows' own cells (each row's printed sentence says how): AggAgain: laid · AggEnds: laid · AggFails: laid · ModelAgain: loops, laid · ModelSame: loops, laid · ModelOuts: loops, laid · ModelNobody: laid · ModelChains: loops, laid · TaskAgain: loops, laid · TaskOffs: loops, laid · TaskNobody: laid · TaskFrees: laid.
  DERIVED. THE GIVEN ROWS OF THIS SEAT. 12 by the template 'for every input the law returns true; each argument reads behind the call as it read before'; 0 by the template 'total and deterministic' (their statements: YtedkjhifbibpmaaGreatDoorTotals.lean).
  GIVEN WITH THE SEED: the statements are not yours to turn. If you find one false, say at which input.
  Laid BY PROGRAM, IN A SANDBOX (cutbox-rows.mjs): the forced cells as the released guide's own fill.sh prints them over the translation e82a7631d0334877… (all of the seat's roots in one cut). By AI agents, Wed Nov 11 2026. No macro, syntax, notation, axiom, sorry.
-/
import Derived.Test.YtedkjhifbibpmaaGreatDoorChecked
import GoSem.Claim
import GoSem.ClaimJoined
import GoSem.ClaimMapViews
import Derived.JoinedTies
import Derived.KernelRfl
namespace Go.Proofs.YtedkjhifbibpmaaGreatDoor
/- THE CELL 'sum', in the pinned program and in every row, IS THE sha256 OF THE DUMP (.gsa) THAT YtedkjhifbibpmaaGreatDoorProg.lean LOADS. Nothing in Lean hashes anything: it is a label: what it is worth is what the hold of that sum in a sandbox is worth. -/
noncomputable def Tryz.pinned : Pinned := { name := "ytedkjhifbibpmaagreatdoor", sum := "e82a7631d0334877f14a397df060b10b217a772ccb9b76dbd0a298d56f467159", checked := Tryz.checked }
namespace Rows
def none {H : Type} : Left H := { results := [], args := [] }

/- WHAT THE LISTED PACKAGE-LEVEL VARIABLES READ AS WHEN THE CALL BEGINS. Each datum BY PROGRAM (the guide's laid-datum.mjs) off the statement by which the dump's own 'gosem.cut.vars' lays the variable. In a bare row this is a premise. The card (YtedkjhifbibpmaaGreatDoorCards.lean) ties it to the program's text. -/
def laid_tidemill_expr_kids {H : Type} : DataW H := .agg [.lit (.int .i64 0), .lit (.int .i64 0), .lit (.int .i64 0), .lit (.int .i64 0), .lit (.int .i64 0), .lit (.int .i64 0), .lit (.int .i64 2), .lit (.int .i64 2), .lit (.int .i64 2), .lit (.int .i64 2), .lit (.int .i64 2), .lit (.int .i64 2), .lit (.int .i64 2), .lit (.int .i64 3), .lit (.int .i64 1), .lit (.int .i64 2), .lit (.int .i64 2)]
def laid_tidemill_topo_needs {H : Type} : DataW H := .agg [.agg [.lit (.int .i64 0), .lit (.int .i64 0), .lit (.int .i64 0), .lit (.int .i64 0)], .agg [.lit (.int .i64 0), .lit (.int .i64 0), .lit (.int .i64 0), .lit (.int .i64 7)], .agg [.lit (.int .i64 1), .lit (.int .i64 1), .lit (.int .i64 0), .lit (.int .i64 0)], .agg [.lit (.int .i64 1), .lit (.int .i64 1), .lit (.int .i64 0), .lit (.int .i64 0)], .agg [.lit (.int .i64 1), .lit (.int .i64 1), .lit (.int .i64 0), .lit (.int .i64 0)], .agg [.lit (.int .i64 1), .lit (.int .i64 1), .lit (.int .i64 0), .lit (.int .i64 0)], .agg [.lit (.int .i64 1), .lit (.int .i64 2), .lit (.int .i64 0), .lit (.int .i64 0)], .agg [.lit (.int .i64 1), .lit (.int .i64 2), .lit (.int .i64 1), .lit (.int .i64 1048576)], .agg [.lit (.int .i64 1), .lit (.int .i64 2), .lit (.int .i64 1), .lit (.int .i64 1048576)], .agg [.lit (.int .i64 2), .lit (.int .i64 2), .lit (.int .i64 0), .lit (.int .i64 0)], .agg [.lit (.int .i64 1), .lit (.int .i64 0), .lit (.int .i64 0), .lit (.int .i64 7)]]
def laid_tidemill_rec_uses {H : Type} : DataW H := .agg [.lit (.int .i64 0), .lit (.int .i64 24), .lit (.int .i64 63), .lit (.int .i64 199), .lit (.int .i64 7), .lit (.int .i64 3), .lit (.int .i64 0)]

/-- 'tidemilllaw18.AggAgain': WHATEVER THE INPUT: true; the input reads as it did. -/
def aggAgainSpec : ChangeSpec := { name := "aggAgain", fn := fun _ => fun
  | [d1, d2, d3] => { results := [.lit (.bool true)], args := [d1, d2, d3] }
  | _ => none }
def aggAgainRow : OpenClaim := { program := "ytedkjhifbibpmaagreatdoor", sum := "e82a7631d0334877f14a397df060b10b217a772ccb9b76dbd0a298d56f467159", func := "tidemill/tidemilllaw18.AggAgain", spec := "aggAgain", inPlace := ["slices.overlaps[tidemill/kv.pair]", "slices.overlaps[tidemill/sess.session]"], unfollowed := true, recurses := true, named := ["tidemill/expr.kids"], plainKeys := false, apart := false, laid := [("tidemill/expr.kids", laid_tidemill_expr_kids)] }
def AggAgainSaid : Prop := aggAgainRow.holds Tryz.pinned (OpenSpec.ofChange aggAgainSpec)

/-- ITS FALSE NEIGHBOUR: 'it returns false'. Refute it at one input. -/
def aggAgainWrong : ChangeSpec := { name := "aggAgain", fn := fun _ => fun
  | [d1, d2, d3] => { results := [.lit (.bool false)], args := [d1, d2, d3] }
  | _ => none }
def AggAgainWrongFalsely : Prop := aggAgainRow.holds Tryz.pinned (OpenSpec.ofChange aggAgainWrong)

/-- 'tidemilllaw18.AggEnds': WHATEVER THE INPUT: true; the input reads as it did. -/
def aggEndsSpec : ChangeSpec := { name := "aggEnds", fn := fun _ => fun
  | [d1, d2, d3, d4] => { results := [.lit (.bool true)], args := [d1, d2, d3, d4] }
  | _ => none }
def aggEndsRow : OpenClaim := { program := "ytedkjhifbibpmaagreatdoor", sum := "e82a7631d0334877f14a397df060b10b217a772ccb9b76dbd0a298d56f467159", func := "tidemill/tidemilllaw18.AggEnds", spec := "aggEnds", inPlace := ["slices.overlaps[tidemill/kv.pair]", "slices.overlaps[tidemill/sess.session]"], unfollowed := true, recurses := true, named := ["tidemill/expr.kids"], plainKeys := false, apart := false, laid := [("tidemill/expr.kids", laid_tidemill_expr_kids)] }
def AggEndsSaid : Prop := aggEndsRow.holds Tryz.pinned (OpenSpec.ofChange aggEndsSpec)

/-- ITS FALSE NEIGHBOUR: 'it returns false'. Refute it at one input. -/
def aggEndsWrong : ChangeSpec := { name := "aggEnds", fn := fun _ => fun
  | [d1, d2, d3, d4] => { results := [.lit (.bool false)], args := [d1, d2, d3, d4] }
  | _ => none }
def AggEndsWrongFalsely : Prop := aggEndsRow.holds Tryz.pinned (OpenSpec.ofChange aggEndsWrong)

/-- 'tidemilllaw18.AggFails': WHATEVER THE INPUT: true; the input reads as it did. -/
def aggFailsSpec : ChangeSpec := { name := "aggFails", fn := fun _ => fun
  | [d1, d2, d3, d4] => { results := [.lit (.bool true)], args := [d1, d2, d3, d4] }
  | _ => none }
def aggFailsRow : OpenClaim := { program := "ytedkjhifbibpmaagreatdoor", sum := "e82a7631d0334877f14a397df060b10b217a772ccb9b76dbd0a298d56f467159", func := "tidemill/tidemilllaw18.AggFails", spec := "aggFails", inPlace := ["slices.overlaps[tidemill/kv.pair]", "slices.overlaps[tidemill/sess.session]"], unfollowed := true, recurses := true, named := ["tidemill/expr.kids"], plainKeys := false, apart := false, laid := [("tidemill/expr.kids", laid_tidemill_expr_kids)] }
def AggFailsSaid : Prop := aggFailsRow.holds Tryz.pinned (OpenSpec.ofChange aggFailsSpec)

/-- ITS FALSE NEIGHBOUR: 'it returns false'. Refute it at one input. -/
def aggFailsWrong : ChangeSpec := { name := "aggFails", fn := fun _ => fun
  | [d1, d2, d3, d4] => { results := [.lit (.bool false)], args := [d1, d2, d3, d4] }
  | _ => none }
def AggFailsWrongFalsely : Prop := aggFailsRow.holds Tryz.pinned (OpenSpec.ofChange aggFailsWrong)

/-- 'tidemilllaw20.ModelAgain': WHATEVER THE INPUT: true; the input reads as it did. -/
def modelAgainSpec : ChangeSpec := { name := "modelAgain", fn := fun _ => fun
  | [d1, d2, d3, d4] => { results := [.lit (.bool true)], args := [d1, d2, d3, d4] }
  | _ => none }
def modelAgainRow : OpenClaim := { program := "ytedkjhifbibpmaagreatdoor", sum := "e82a7631d0334877f14a397df060b10b217a772ccb9b76dbd0a298d56f467159", func := "tidemill/tidemilllaw20.ModelAgain", spec := "modelAgain", inPlace := ["slices.overlaps[tidemill/kv.pair]", "slices.overlaps[tidemill/sess.session]"], unfollowed := true, recurses := true, named := ["tidemill/topo.needs", "tidemill/expr.kids"], loops := true, plainKeys := false, apart := false, laid := [("tidemill/expr.kids", laid_tidemill_expr_kids), ("tidemill/topo.needs", laid_tidemill_topo_needs)] }
def ModelAgainSaid : Prop := modelAgainRow.holds Tryz.pinned (OpenSpec.ofChange modelAgainSpec)

/-- ITS FALSE NEIGHBOUR: 'it returns false'. Refute it at one input. -/
def modelAgainWrong : ChangeSpec := { name := "modelAgain", fn := fun _ => fun
  | [d1, d2, d3, d4] => { results := [.lit (.bool false)], args := [d1, d2, d3, d4] }
  | _ => none }
def ModelAgainWrongFalsely : Prop := modelAgainRow.holds Tryz.pinned (OpenSpec.ofChange modelAgainWrong)

/-- 'tidemilllaw20.ModelSame': WHATEVER THE INPUT: true; the input reads as it did. -/
def modelSameSpec : ChangeSpec := { name := "modelSame", fn := fun _ => fun
  | [d1, d2, d3] => { results := [.lit (.bool true)], args := [d1, d2, d3] }
  | _ => none }
def modelSameRow : OpenClaim := { program := "ytedkjhifbibpmaagreatdoor", sum := "e82a7631d0334877f14a397df060b10b217a772ccb9b76dbd0a298d56f467159", func := "tidemill/tidemilllaw20.ModelSame", spec := "modelSame", inPlace := ["slices.overlaps[tidemill/kv.pair]", "slices.overlaps[tidemill/sess.session]"], unfollowed := true, recurses := true, named := ["tidemill/topo.needs", "tidemill/expr.kids"], loops := true, plainKeys := false, apart := false, laid := [("tidemill/expr.kids", laid_tidemill_expr_kids), ("tidemill/topo.needs", laid_tidemill_topo_needs)] }
def ModelSameSaid : Prop := modelSameRow.holds Tryz.pinned (OpenSpec.ofChange modelSameSpec)

/-- ITS FALSE NEIGHBOUR: 'it returns false'. Refute it at one input. -/
def modelSameWrong : ChangeSpec := { name := "modelSame", fn := fun _ => fun
  | [d1, d2, d3] => { results := [.lit (.bool false)], args := [d1, d2, d3] }
  | _ => none }
def ModelSameWrongFalsely : Prop := modelSameRow.holds Tryz.pinned (OpenSpec.ofChange modelSameWrong)

/-- 'tidemilllaw20.ModelOuts': WHATEVER THE INPUT: true; the input reads as it did. -/
def modelOutsSpec : ChangeSpec := { name := "modelOuts", fn := fun _ => fun
  | [d1, d2, d3] => { results := [.lit (.bool true)], args := [d1, d2, d3] }
  | _ => none }
def modelOutsRow : OpenClaim := { program := "ytedkjhifbibpmaagreatdoor", sum := "e82a7631d0334877f14a397df060b10b217a772ccb9b76dbd0a298d56f467159", func := "tidemill/tidemilllaw20.ModelOuts", spec := "modelOuts", inPlace := ["slices.overlaps[tidemill/kv.pair]", "slices.overlaps[tidemill/sess.session]"], unfollowed := true, recurses := true, named := ["tidemill/topo.needs", "tidemill/expr.kids"], loops := true, plainKeys := false, apart := false, laid := [("tidemill/expr.kids", laid_tidemill_expr_kids), ("tidemill/topo.needs", laid_tidemill_topo_needs)] }
def ModelOutsSaid : Prop := modelOutsRow.holds Tryz.pinned (OpenSpec.ofChange modelOutsSpec)

/-- ITS FALSE NEIGHBOUR: 'it returns false'. Refute it at one input. -/
def modelOutsWrong : ChangeSpec := { name := "modelOuts", fn := fun _ => fun
  | [d1, d2, d3] => { results := [.lit (.bool false)], args := [d1, d2, d3] }
  | _ => none }
def ModelOutsWrongFalsely : Prop := modelOutsRow.holds Tryz.pinned (OpenSpec.ofChange modelOutsWrong)

/-- 'tidemilllaw20.ModelNobody': WHATEVER THE INPUT: true; the input reads as it did. -/
def modelNobodySpec : ChangeSpec := { name := "modelNobody", fn := fun _ => fun
  | [d1, d2] => { results := [.lit (.bool true)], args := [d1, d2] }
  | _ => none }
def modelNobodyRow : OpenClaim := { program := "ytedkjhifbibpmaagreatdoor", sum := "e82a7631d0334877f14a397df060b10b217a772ccb9b76dbd0a298d56f467159", func := "tidemill/tidemilllaw20.ModelNobody", spec := "modelNobody", inPlace := ["slices.overlaps[tidemill/kv.pair]", "slices.overlaps[tidemill/sess.session]"], unfollowed := true, recurses := true, named := ["tidemill/topo.needs", "tidemill/expr.kids"], plainKeys := false, apart := false, laid := [("tidemill/expr.kids", laid_tidemill_expr_kids), ("tidemill/topo.needs", laid_tidemill_topo_needs)] }
def ModelNobodySaid : Prop := modelNobodyRow.holds Tryz.pinned (OpenSpec.ofChange modelNobodySpec)

/-- ITS FALSE NEIGHBOUR: 'it returns false'. Refute it at one input. -/
def modelNobodyWrong : ChangeSpec := { name := "modelNobody", fn := fun _ => fun
  | [d1, d2] => { results := [.lit (.bool false)], args := [d1, d2] }
  | _ => none }
def ModelNobodyWrongFalsely : Prop := modelNobodyRow.holds Tryz.pinned (OpenSpec.ofChange modelNobodyWrong)

/-- 'tidemilllaw20.ModelChains': WHATEVER THE INPUT: true; the input reads as it did. -/
def modelChainsSpec : ChangeSpec := { name := "modelChains", fn := fun _ => fun
  | [d1, d2] => { results := [.lit (.bool true)], args := [d1, d2] }
  | _ => none }
def modelChainsRow : OpenClaim := { program := "ytedkjhifbibpmaagreatdoor", sum := "e82a7631d0334877f14a397df060b10b217a772ccb9b76dbd0a298d56f467159", func := "tidemill/tidemilllaw20.ModelChains", spec := "modelChains", inPlace := ["slices.overlaps[tidemill/kv.pair]", "slices.overlaps[tidemill/sess.session]"], unfollowed := true, recurses := true, named := ["tidemill/topo.needs", "tidemill/expr.kids"], loops := true, plainKeys := false, apart := false, laid := [("tidemill/expr.kids", laid_tidemill_expr_kids), ("tidemill/topo.needs", laid_tidemill_topo_needs)] }
def ModelChainsSaid : Prop := modelChainsRow.holds Tryz.pinned (OpenSpec.ofChange modelChainsSpec)

/-- ITS FALSE NEIGHBOUR: 'it returns false'. Refute it at one input. -/
def modelChainsWrong : ChangeSpec := { name := "modelChains", fn := fun _ => fun
  | [d1, d2] => { results := [.lit (.bool false)], args := [d1, d2] }
  | _ => none }
def ModelChainsWrongFalsely : Prop := modelChainsRow.holds Tryz.pinned (OpenSpec.ofChange modelChainsWrong)

/-- 'tidemilllaw21.TaskAgain': WHATEVER THE INPUT: true; the input reads as it did. -/
def taskAgainSpec : ChangeSpec := { name := "taskAgain", fn := fun _ => fun
  | [d1, d2, d3, d4] => { results := [.lit (.bool true)], args := [d1, d2, d3, d4] }
  | _ => none }
def taskAgainRow : OpenClaim := { program := "ytedkjhifbibpmaagreatdoor", sum := "e82a7631d0334877f14a397df060b10b217a772ccb9b76dbd0a298d56f467159", func := "tidemill/tidemilllaw21.TaskAgain", spec := "taskAgain", inPlace := ["slices.overlaps[tidemill/kv.pair]", "slices.overlaps[tidemill/sess.session]"], unfollowed := true, recurses := true, named := ["tidemill/rec.uses", "tidemill/topo.needs", "tidemill/expr.kids"], loops := true, plainKeys := false, apart := false, laid := [("tidemill/expr.kids", laid_tidemill_expr_kids), ("tidemill/rec.uses", laid_tidemill_rec_uses), ("tidemill/topo.needs", laid_tidemill_topo_needs)] }
def TaskAgainSaid : Prop := taskAgainRow.holds Tryz.pinned (OpenSpec.ofChange taskAgainSpec)

/-- ITS FALSE NEIGHBOUR: 'it returns false'. Refute it at one input. -/
def taskAgainWrong : ChangeSpec := { name := "taskAgain", fn := fun _ => fun
  | [d1, d2, d3, d4] => { results := [.lit (.bool false)], args := [d1, d2, d3, d4] }
  | _ => none }
def TaskAgainWrongFalsely : Prop := taskAgainRow.holds Tryz.pinned (OpenSpec.ofChange taskAgainWrong)

/-- 'tidemilllaw21.TaskOffs': WHATEVER THE INPUT: true; the input reads as it did. -/
def taskOffsSpec : ChangeSpec := { name := "taskOffs", fn := fun _ => fun
  | [d1, d2, d3, d4] => { results := [.lit (.bool true)], args := [d1, d2, d3, d4] }
  | _ => none }
def taskOffsRow : OpenClaim := { program := "ytedkjhifbibpmaagreatdoor", sum := "e82a7631d0334877f14a397df060b10b217a772ccb9b76dbd0a298d56f467159", func := "tidemill/tidemilllaw21.TaskOffs", spec := "taskOffs", inPlace := ["slices.overlaps[tidemill/kv.pair]", "slices.overlaps[tidemill/sess.session]"], unfollowed := true, recurses := true, named := ["tidemill/rec.uses", "tidemill/topo.needs", "tidemill/expr.kids"], loops := true, plainKeys := false, apart := false, laid := [("tidemill/expr.kids", laid_tidemill_expr_kids), ("tidemill/rec.uses", laid_tidemill_rec_uses), ("tidemill/topo.needs", laid_tidemill_topo_needs)] }
def TaskOffsSaid : Prop := taskOffsRow.holds Tryz.pinned (OpenSpec.ofChange taskOffsSpec)

/-- ITS FALSE NEIGHBOUR: 'it returns false'. Refute it at one input. -/
def taskOffsWrong : ChangeSpec := { name := "taskOffs", fn := fun _ => fun
  | [d1, d2, d3, d4] => { results := [.lit (.bool false)], args := [d1, d2, d3, d4] }
  | _ => none }
def TaskOffsWrongFalsely : Prop := taskOffsRow.holds Tryz.pinned (OpenSpec.ofChange taskOffsWrong)

/-- 'tidemilllaw21.TaskNobody': WHATEVER THE INPUT: true; the input reads as it did. -/
def taskNobodySpec : ChangeSpec := { name := "taskNobody", fn := fun _ => fun
  | [d] => { results := [.lit (.bool true)], args := [d] }
  | _ => none }
def taskNobodyRow : OpenClaim := { program := "ytedkjhifbibpmaagreatdoor", sum := "e82a7631d0334877f14a397df060b10b217a772ccb9b76dbd0a298d56f467159", func := "tidemill/tidemilllaw21.TaskNobody", spec := "taskNobody", inPlace := ["slices.overlaps[tidemill/kv.pair]", "slices.overlaps[tidemill/sess.session]"], unfollowed := true, recurses := true, named := ["tidemill/rec.uses", "tidemill/topo.needs", "tidemill/expr.kids"], plainKeys := false, apart := false, laid := [("tidemill/expr.kids", laid_tidemill_expr_kids), ("tidemill/rec.uses", laid_tidemill_rec_uses), ("tidemill/topo.needs", laid_tidemill_topo_needs)] }
def TaskNobodySaid : Prop := taskNobodyRow.holds Tryz.pinned (OpenSpec.ofChange taskNobodySpec)

/-- ITS FALSE NEIGHBOUR: 'it returns false'. Refute it at one input. -/
def taskNobodyWrong : ChangeSpec := { name := "taskNobody", fn := fun _ => fun
  | [d] => { results := [.lit (.bool false)], args := [d] }
  | _ => none }
def TaskNobodyWrongFalsely : Prop := taskNobodyRow.holds Tryz.pinned (OpenSpec.ofChange taskNobodyWrong)

/-- 'tidemilllaw21.TaskFrees': WHATEVER THE INPUT: true; the input reads as it did. -/
def taskFreesSpec : ChangeSpec := { name := "taskFrees", fn := fun _ => fun
  | [d] => { results := [.lit (.bool true)], args := [d] }
  | _ => none }
def taskFreesRow : OpenClaim := { program := "ytedkjhifbibpmaagreatdoor", sum := "e82a7631d0334877f14a397df060b10b217a772ccb9b76dbd0a298d56f467159", func := "tidemill/tidemilllaw21.TaskFrees", spec := "taskFrees", inPlace := ["slices.overlaps[tidemill/kv.pair]", "slices.overlaps[tidemill/sess.session]"], unfollowed := true, recurses := true, named := ["tidemill/rec.uses", "tidemill/topo.needs", "tidemill/expr.kids"], plainKeys := false, apart := false, laid := [("tidemill/expr.kids", laid_tidemill_expr_kids), ("tidemill/rec.uses", laid_tidemill_rec_uses), ("tidemill/topo.needs", laid_tidemill_topo_needs)] }
def TaskFreesSaid : Prop := taskFreesRow.holds Tryz.pinned (OpenSpec.ofChange taskFreesSpec)

/-- ITS FALSE NEIGHBOUR: 'it returns false'. Refute it at one input. -/
def taskFreesWrong : ChangeSpec := { name := "taskFrees", fn := fun _ => fun
  | [d] => { results := [.lit (.bool false)], args := [d] }
  | _ => none }
def TaskFreesWrongFalsely : Prop := taskFreesRow.holds Tryz.pinned (OpenSpec.ofChange taskFreesWrong)

/- THE SECOND FORM. 'bulk': how many values and letters a reading holds, each counted each time it is reached (what is shared counts as often as it is met; a slice's spare places count too). A statement '..UptoSaid' is the law's where the arguments, and the package variables that the reading takes, are together of bulk at most 1048576: NARROWER than '..Said'. Prove '..Said' where nothing that the law and all that it calls make is longer than what came in: it says more and counts as full. Else prove '..UptoSaid'. A law counts once. -/
mutual
def uptoBulk {H : Type} : DataW H → Nat
  | .lit (.string bytes) => bytes.length + 1
  | .lit _ => 1
  | .nil => 1
  | .ptr d => uptoBulk d + 1
  | .slice elems spare => uptoBulkAll elems + uptoBulkAll spare + 1
  | .agg parts => uptoBulkAll parts + 1
  | .iface _ d => uptoBulk d + 1
  | .map entries => uptoBulkEntries entries + 1
  | .held _ => 1
def uptoBulkAll {H : Type} : List (DataW H) → Nat
  | [] => 0
  | d :: r => uptoBulk d + uptoBulkAll r
def uptoBulkEntries {H : Type} : List (Lit × DataW H) → Nat
  | [] => 0
  | x :: r => uptoBulkEntry x + uptoBulkEntries r
def uptoBulkEntry {H : Type} : Lit × DataW H → Nat
  | (.string bytes, d) => bytes.length + uptoBulk d + 1
  | (_, d) => uptoBulk d + 1
 end
def uptoSmall : (H : Type) → List (DataW H) → Bool := fun _ ds => decide (uptoBulkAll ds ≤ 1048576)
def OpenSpec.upto (s : _root_.Go.ChangeSpec) : _root_.Go.OpenSpec := { _root_.Go.OpenSpec.ofChange s with cond := some uptoSmall }

/-- 'tidemilllaw18.AggAgain', WHERE WHAT IT READS IS OF BULK AT MOST 1048576: true; the input reads as it did. -/
def aggAgainUptoRow : OpenClaim := { program := "ytedkjhifbibpmaagreatdoor", sum := "e82a7631d0334877f14a397df060b10b217a772ccb9b76dbd0a298d56f467159", func := "tidemill/tidemilllaw18.AggAgain", spec := "aggAgain", inPlace := ["slices.overlaps[tidemill/kv.pair]", "slices.overlaps[tidemill/sess.session]"], unfollowed := true, recurses := true, named := ["tidemill/expr.kids"], plainKeys := false, apart := false, laid := [("tidemill/expr.kids", laid_tidemill_expr_kids)], narrowed := true }
def AggAgainUptoSaid : Prop := aggAgainUptoRow.holds Tryz.pinned (OpenSpec.upto aggAgainSpec)

/-- 'tidemilllaw18.AggEnds', WHERE WHAT IT READS IS OF BULK AT MOST 1048576: true; the input reads as it did. -/
def aggEndsUptoRow : OpenClaim := { program := "ytedkjhifbibpmaagreatdoor", sum := "e82a7631d0334877f14a397df060b10b217a772ccb9b76dbd0a298d56f467159", func := "tidemill/tidemilllaw18.AggEnds", spec := "aggEnds", inPlace := ["slices.overlaps[tidemill/kv.pair]", "slices.overlaps[tidemill/sess.session]"], unfollowed := true, recurses := true, named := ["tidemill/expr.kids"], plainKeys := false, apart := false, laid := [("tidemill/expr.kids", laid_tidemill_expr_kids)], narrowed := true }
def AggEndsUptoSaid : Prop := aggEndsUptoRow.holds Tryz.pinned (OpenSpec.upto aggEndsSpec)

/-- 'tidemilllaw18.AggFails', WHERE WHAT IT READS IS OF BULK AT MOST 1048576: true; the input reads as it did. -/
def aggFailsUptoRow : OpenClaim := { program := "ytedkjhifbibpmaagreatdoor", sum := "e82a7631d0334877f14a397df060b10b217a772ccb9b76dbd0a298d56f467159", func := "tidemill/tidemilllaw18.AggFails", spec := "aggFails", inPlace := ["slices.overlaps[tidemill/kv.pair]", "slices.overlaps[tidemill/sess.session]"], unfollowed := true, recurses := true, named := ["tidemill/expr.kids"], plainKeys := false, apart := false, laid := [("tidemill/expr.kids", laid_tidemill_expr_kids)], narrowed := true }
def AggFailsUptoSaid : Prop := aggFailsUptoRow.holds Tryz.pinned (OpenSpec.upto aggFailsSpec)

/-- 'tidemilllaw20.ModelAgain', WHERE WHAT IT READS IS OF BULK AT MOST 1048576: true; the input reads as it did. -/
def modelAgainUptoRow : OpenClaim := { program := "ytedkjhifbibpmaagreatdoor", sum := "e82a7631d0334877f14a397df060b10b217a772ccb9b76dbd0a298d56f467159", func := "tidemill/tidemilllaw20.ModelAgain", spec := "modelAgain", inPlace := ["slices.overlaps[tidemill/kv.pair]", "slices.overlaps[tidemill/sess.session]"], unfollowed := true, recurses := true, named := ["tidemill/topo.needs", "tidemill/expr.kids"], loops := true, plainKeys := false, apart := false, laid := [("tidemill/expr.kids", laid_tidemill_expr_kids), ("tidemill/topo.needs", laid_tidemill_topo_needs)], narrowed := true }
def ModelAgainUptoSaid : Prop := modelAgainUptoRow.holds Tryz.pinned (OpenSpec.upto modelAgainSpec)

/-- 'tidemilllaw20.ModelSame', WHERE WHAT IT READS IS OF BULK AT MOST 1048576: true; the input reads as it did. -/
def modelSameUptoRow : OpenClaim := { program := "ytedkjhifbibpmaagreatdoor", sum := "e82a7631d0334877f14a397df060b10b217a772ccb9b76dbd0a298d56f467159", func := "tidemill/tidemilllaw20.ModelSame", spec := "modelSame", inPlace := ["slices.overlaps[tidemill/kv.pair]", "slices.overlaps[tidemill/sess.session]"], unfollowed := true, recurses := true, named := ["tidemill/topo.needs", "tidemill/expr.kids"], loops := true, plainKeys := false, apart := false, laid := [("tidemill/expr.kids", laid_tidemill_expr_kids), ("tidemill/topo.needs", laid_tidemill_topo_needs)], narrowed := true }
def ModelSameUptoSaid : Prop := modelSameUptoRow.holds Tryz.pinned (OpenSpec.upto modelSameSpec)

/-- 'tidemilllaw20.ModelOuts', WHERE WHAT IT READS IS OF BULK AT MOST 1048576: true; the input reads as it did. -/
def modelOutsUptoRow : OpenClaim := { program := "ytedkjhifbibpmaagreatdoor", sum := "e82a7631d0334877f14a397df060b10b217a772ccb9b76dbd0a298d56f467159", func := "tidemill/tidemilllaw20.ModelOuts", spec := "modelOuts", inPlace := ["slices.overlaps[tidemill/kv.pair]", "slices.overlaps[tidemill/sess.session]"], unfollowed := true, recurses := true, named := ["tidemill/topo.needs", "tidemill/expr.kids"], loops := true, plainKeys := false, apart := false, laid := [("tidemill/expr.kids", laid_tidemill_expr_kids), ("tidemill/topo.needs", laid_tidemill_topo_needs)], narrowed := true }
def ModelOutsUptoSaid : Prop := modelOutsUptoRow.holds Tryz.pinned (OpenSpec.upto modelOutsSpec)

/-- 'tidemilllaw20.ModelNobody', WHERE WHAT IT READS IS OF BULK AT MOST 1048576: true; the input reads as it did. -/
def modelNobodyUptoRow : OpenClaim := { program := "ytedkjhifbibpmaagreatdoor", sum := "e82a7631d0334877f14a397df060b10b217a772ccb9b76dbd0a298d56f467159", func := "tidemill/tidemilllaw20.ModelNobody", spec := "modelNobody", inPlace := ["slices.overlaps[tidemill/kv.pair]", "slices.overlaps[tidemill/sess.session]"], unfollowed := true, recurses := true, named := ["tidemill/topo.needs", "tidemill/expr.kids"], plainKeys := false, apart := false, laid := [("tidemill/expr.kids", laid_tidemill_expr_kids), ("tidemill/topo.needs", laid_tidemill_topo_needs)], narrowed := true }
def ModelNobodyUptoSaid : Prop := modelNobodyUptoRow.holds Tryz.pinned (OpenSpec.upto modelNobodySpec)

/-- 'tidemilllaw20.ModelChains', WHERE WHAT IT READS IS OF BULK AT MOST 1048576: true; the input reads as it did. -/
def modelChainsUptoRow : OpenClaim := { program := "ytedkjhifbibpmaagreatdoor", sum := "e82a7631d0334877f14a397df060b10b217a772ccb9b76dbd0a298d56f467159", func := "tidemill/tidemilllaw20.ModelChains", spec := "modelChains", inPlace := ["slices.overlaps[tidemill/kv.pair]", "slices.overlaps[tidemill/sess.session]"], unfollowed := true, recurses := true, named := ["tidemill/topo.needs", "tidemill/expr.kids"], loops := true, plainKeys := false, apart := false, laid := [("tidemill/expr.kids", laid_tidemill_expr_kids), ("tidemill/topo.needs", laid_tidemill_topo_needs)], narrowed := true }
def ModelChainsUptoSaid : Prop := modelChainsUptoRow.holds Tryz.pinned (OpenSpec.upto modelChainsSpec)

/-- 'tidemilllaw21.TaskAgain', WHERE WHAT IT READS IS OF BULK AT MOST 1048576: true; the input reads as it did. -/
def taskAgainUptoRow : OpenClaim := { program := "ytedkjhifbibpmaagreatdoor", sum := "e82a7631d0334877f14a397df060b10b217a772ccb9b76dbd0a298d56f467159", func := "tidemill/tidemilllaw21.TaskAgain", spec := "taskAgain", inPlace := ["slices.overlaps[tidemill/kv.pair]", "slices.overlaps[tidemill/sess.session]"], unfollowed := true, recurses := true, named := ["tidemill/rec.uses", "tidemill/topo.needs", "tidemill/expr.kids"], loops := true, plainKeys := false, apart := false, laid := [("tidemill/expr.kids", laid_tidemill_expr_kids), ("tidemill/rec.uses", laid_tidemill_rec_uses), ("tidemill/topo.needs", laid_tidemill_topo_needs)], narrowed := true }
def TaskAgainUptoSaid : Prop := taskAgainUptoRow.holds Tryz.pinned (OpenSpec.upto taskAgainSpec)

/-- 'tidemilllaw21.TaskOffs', WHERE WHAT IT READS IS OF BULK AT MOST 1048576: true; the input reads as it did. -/
def taskOffsUptoRow : OpenClaim := { program := "ytedkjhifbibpmaagreatdoor", sum := "e82a7631d0334877f14a397df060b10b217a772ccb9b76dbd0a298d56f467159", func := "tidemill/tidemilllaw21.TaskOffs", spec := "taskOffs", inPlace := ["slices.overlaps[tidemill/kv.pair]", "slices.overlaps[tidemill/sess.session]"], unfollowed := true, recurses := true, named := ["tidemill/rec.uses", "tidemill/topo.needs", "tidemill/expr.kids"], loops := true, plainKeys := false, apart := false, laid := [("tidemill/expr.kids", laid_tidemill_expr_kids), ("tidemill/rec.uses", laid_tidemill_rec_uses), ("tidemill/topo.needs", laid_tidemill_topo_needs)], narrowed := true }
def TaskOffsUptoSaid : Prop := taskOffsUptoRow.holds Tryz.pinned (OpenSpec.upto taskOffsSpec)

/-- 'tidemilllaw21.TaskNobody', WHERE WHAT IT READS IS OF BULK AT MOST 1048576: true; the input reads as it did. -/
def taskNobodyUptoRow : OpenClaim := { program := "ytedkjhifbibpmaagreatdoor", sum := "e82a7631d0334877f14a397df060b10b217a772ccb9b76dbd0a298d56f467159", func := "tidemill/tidemilllaw21.TaskNobody", spec := "taskNobody", inPlace := ["slices.overlaps[tidemill/kv.pair]", "slices.overlaps[tidemill/sess.session]"], unfollowed := true, recurses := true, named := ["tidemill/rec.uses", "tidemill/topo.needs", "tidemill/expr.kids"], plainKeys := false, apart := false, laid := [("tidemill/expr.kids", laid_tidemill_expr_kids), ("tidemill/rec.uses", laid_tidemill_rec_uses), ("tidemill/topo.needs", laid_tidemill_topo_needs)], narrowed := true }
def TaskNobodyUptoSaid : Prop := taskNobodyUptoRow.holds Tryz.pinned (OpenSpec.upto taskNobodySpec)

/-- 'tidemilllaw21.TaskFrees', WHERE WHAT IT READS IS OF BULK AT MOST 1048576: true; the input reads as it did. -/
def taskFreesUptoRow : OpenClaim := { program := "ytedkjhifbibpmaagreatdoor", sum := "e82a7631d0334877f14a397df060b10b217a772ccb9b76dbd0a298d56f467159", func := "tidemill/tidemilllaw21.TaskFrees", spec := "taskFrees", inPlace := ["slices.overlaps[tidemill/kv.pair]", "slices.overlaps[tidemill/sess.session]"], unfollowed := true, recurses := true, named := ["tidemill/rec.uses", "tidemill/topo.needs", "tidemill/expr.kids"], plainKeys := false, apart := false, laid := [("tidemill/expr.kids", laid_tidemill_expr_kids), ("tidemill/rec.uses", laid_tidemill_rec_uses), ("tidemill/topo.needs", laid_tidemill_topo_needs)], narrowed := true }
def TaskFreesUptoSaid : Prop := taskFreesUptoRow.holds Tryz.pinned (OpenSpec.upto taskFreesSpec)

end Rows
end Go.Proofs.YtedkjhifbibpmaaGreatDoor
