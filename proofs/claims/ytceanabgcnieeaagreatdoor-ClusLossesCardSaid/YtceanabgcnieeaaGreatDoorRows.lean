/-
  NARROWER THAN 'FOR EVERY INPUT', by the rows' own cells (each row's printed sentence says how): ClusLosses: laid · ClusFences: laid · ClusStops: laid · TopSums: laid.
  DERIVED. THE GIVEN ROWS OF THIS SEAT. 4 by the template 'for every input the law returns true; each argument reads behind the call as it read before'; 0 by the template 'total and deterministic' (their statements: YtceanabgcnieeaaGreatDoorTotals.lean).
  GIVEN WITH THE SEED: the statements are not yours to turn. If you find one false, say at which input.
  Laid BY PROGRAM, IN A SANDBOX (cutbox-rows.mjs): the forced cells as the released guide's own fill.sh prints them over the translation 60d362b5028c301b… (all of the seat's roots in one cut). By AI agents, Wed Nov 11 2026. No macro, syntax, notation, axiom, sorry.
-/
import Derived.Test.YtceanabgcnieeaaGreatDoorChecked
import GoSem.Claim
import GoSem.ClaimJoined
import GoSem.ClaimMapViews
import Derived.JoinedTies
import Derived.KernelRfl
namespace Go.Proofs.YtceanabgcnieeaaGreatDoor
/- THE CELL 'sum', in the pinned program and in every row, IS THE sha256 OF THE DUMP (.gsa) THAT YtceanabgcnieeaaGreatDoorProg.lean LOADS. Nothing in Lean hashes anything: it is a label: what it is worth is what the hold of that sum in a sandbox is worth. -/
noncomputable def Tryz.pinned : Pinned := { name := "ytceanabgcnieeaagreatdoor", sum := "60d362b5028c301b157adbd170d3495c937bbd96c761f15ff09318ccfb458708", checked := Tryz.checked }
namespace Rows
def none {H : Type} : Left H := { results := [], args := [] }

/- WHAT THE LISTED PACKAGE-LEVEL VARIABLES READ AS WHEN THE CALL BEGINS. Each datum BY PROGRAM (the guide's laid-datum.mjs) off the statement by which the dump's own 'gosem.cut.vars' lays the variable. In a bare row this is a premise. The card (YtceanabgcnieeaaGreatDoorCards.lean) ties it to the program's text. -/
def laid_tidemill_expr_kids {H : Type} : DataW H := .agg [.lit (.int .i64 0), .lit (.int .i64 0), .lit (.int .i64 0), .lit (.int .i64 0), .lit (.int .i64 0), .lit (.int .i64 0), .lit (.int .i64 2), .lit (.int .i64 2), .lit (.int .i64 2), .lit (.int .i64 2), .lit (.int .i64 2), .lit (.int .i64 2), .lit (.int .i64 2), .lit (.int .i64 3), .lit (.int .i64 1), .lit (.int .i64 2), .lit (.int .i64 2)]
def laid_tidemill_rec_uses {H : Type} : DataW H := .agg [.lit (.int .i64 0), .lit (.int .i64 24), .lit (.int .i64 63), .lit (.int .i64 199), .lit (.int .i64 7), .lit (.int .i64 3), .lit (.int .i64 0)]
def laid_tidemill_topo_needs {H : Type} : DataW H := .agg [.agg [.lit (.int .i64 0), .lit (.int .i64 0), .lit (.int .i64 0), .lit (.int .i64 0)], .agg [.lit (.int .i64 0), .lit (.int .i64 0), .lit (.int .i64 0), .lit (.int .i64 7)], .agg [.lit (.int .i64 1), .lit (.int .i64 1), .lit (.int .i64 0), .lit (.int .i64 0)], .agg [.lit (.int .i64 1), .lit (.int .i64 1), .lit (.int .i64 0), .lit (.int .i64 0)], .agg [.lit (.int .i64 1), .lit (.int .i64 1), .lit (.int .i64 0), .lit (.int .i64 0)], .agg [.lit (.int .i64 1), .lit (.int .i64 1), .lit (.int .i64 0), .lit (.int .i64 0)], .agg [.lit (.int .i64 1), .lit (.int .i64 2), .lit (.int .i64 0), .lit (.int .i64 0)], .agg [.lit (.int .i64 1), .lit (.int .i64 2), .lit (.int .i64 1), .lit (.int .i64 1048576)], .agg [.lit (.int .i64 1), .lit (.int .i64 2), .lit (.int .i64 1), .lit (.int .i64 1048576)], .agg [.lit (.int .i64 2), .lit (.int .i64 2), .lit (.int .i64 0), .lit (.int .i64 0)], .agg [.lit (.int .i64 1), .lit (.int .i64 0), .lit (.int .i64 0), .lit (.int .i64 7)]]

/-- 'tidemilllaw23.ClusLosses': WHATEVER THE INPUT: true; the input reads as it did. -/
def clusLossesSpec : ChangeSpec := { name := "clusLosses", fn := fun _ => fun
  | [d1, d2] => { results := [.lit (.bool true)], args := [d1, d2] }
  | _ => none }
def clusLossesRow : OpenClaim := { program := "ytceanabgcnieeaagreatdoor", sum := "60d362b5028c301b157adbd170d3495c937bbd96c761f15ff09318ccfb458708", func := "tidemill/tidemilllaw23.ClusLosses", spec := "clusLosses", inPlace := ["sync/atomic.AddInt64", "sync/atomic.LoadInt64", "slices.overlaps[tidemill/kv.pair]", "slices.overlaps[tidemill/sess.session]"], unfollowed := true, recurses := true, named := ["tidemill/topo.needs", "tidemill/expr.kids", "tidemill/rec.uses"], plainKeys := false, apart := false, laid := [("tidemill/expr.kids", laid_tidemill_expr_kids), ("tidemill/rec.uses", laid_tidemill_rec_uses), ("tidemill/topo.needs", laid_tidemill_topo_needs)] }
def ClusLossesSaid : Prop := clusLossesRow.holds Tryz.pinned (OpenSpec.ofChange clusLossesSpec)

/-- ITS FALSE NEIGHBOUR: 'it returns false'. Refute it at one input. -/
def clusLossesWrong : ChangeSpec := { name := "clusLosses", fn := fun _ => fun
  | [d1, d2] => { results := [.lit (.bool false)], args := [d1, d2] }
  | _ => none }
def ClusLossesWrongFalsely : Prop := clusLossesRow.holds Tryz.pinned (OpenSpec.ofChange clusLossesWrong)

/-- 'tidemilllaw23.ClusFences': WHATEVER THE INPUT: true; the input reads as it did. -/
def clusFencesSpec : ChangeSpec := { name := "clusFences", fn := fun _ => fun
  | [d1, d2, d3] => { results := [.lit (.bool true)], args := [d1, d2, d3] }
  | _ => none }
def clusFencesRow : OpenClaim := { program := "ytceanabgcnieeaagreatdoor", sum := "60d362b5028c301b157adbd170d3495c937bbd96c761f15ff09318ccfb458708", func := "tidemill/tidemilllaw23.ClusFences", spec := "clusFences", inPlace := ["sync/atomic.AddInt64", "sync/atomic.LoadInt64", "slices.overlaps[tidemill/kv.pair]", "slices.overlaps[tidemill/sess.session]"], unfollowed := true, recurses := true, named := ["tidemill/topo.needs", "tidemill/expr.kids", "tidemill/rec.uses"], plainKeys := false, apart := false, laid := [("tidemill/expr.kids", laid_tidemill_expr_kids), ("tidemill/rec.uses", laid_tidemill_rec_uses), ("tidemill/topo.needs", laid_tidemill_topo_needs)] }
def ClusFencesSaid : Prop := clusFencesRow.holds Tryz.pinned (OpenSpec.ofChange clusFencesSpec)

/-- ITS FALSE NEIGHBOUR: 'it returns false'. Refute it at one input. -/
def clusFencesWrong : ChangeSpec := { name := "clusFences", fn := fun _ => fun
  | [d1, d2, d3] => { results := [.lit (.bool false)], args := [d1, d2, d3] }
  | _ => none }
def ClusFencesWrongFalsely : Prop := clusFencesRow.holds Tryz.pinned (OpenSpec.ofChange clusFencesWrong)

/-- 'tidemilllaw23.ClusStops': WHATEVER THE INPUT: true; the input reads as it did. -/
def clusStopsSpec : ChangeSpec := { name := "clusStops", fn := fun _ => fun
  | [d1, d2] => { results := [.lit (.bool true)], args := [d1, d2] }
  | _ => none }
def clusStopsRow : OpenClaim := { program := "ytceanabgcnieeaagreatdoor", sum := "60d362b5028c301b157adbd170d3495c937bbd96c761f15ff09318ccfb458708", func := "tidemill/tidemilllaw23.ClusStops", spec := "clusStops", inPlace := ["sync/atomic.AddInt64", "sync/atomic.LoadInt64", "slices.overlaps[tidemill/kv.pair]", "slices.overlaps[tidemill/sess.session]"], unfollowed := true, recurses := true, named := ["tidemill/topo.needs", "tidemill/expr.kids", "tidemill/rec.uses"], plainKeys := false, apart := false, laid := [("tidemill/expr.kids", laid_tidemill_expr_kids), ("tidemill/rec.uses", laid_tidemill_rec_uses), ("tidemill/topo.needs", laid_tidemill_topo_needs)] }
def ClusStopsSaid : Prop := clusStopsRow.holds Tryz.pinned (OpenSpec.ofChange clusStopsSpec)

/-- ITS FALSE NEIGHBOUR: 'it returns false'. Refute it at one input. -/
def clusStopsWrong : ChangeSpec := { name := "clusStops", fn := fun _ => fun
  | [d1, d2] => { results := [.lit (.bool false)], args := [d1, d2] }
  | _ => none }
def ClusStopsWrongFalsely : Prop := clusStopsRow.holds Tryz.pinned (OpenSpec.ofChange clusStopsWrong)

/-- 'tidemilltop.TopSums': WHATEVER THE INPUT: true; the input reads as it did. -/
def topSumsSpec : ChangeSpec := { name := "topSums", fn := fun _ => fun
  | [d] => { results := [.lit (.bool true)], args := [d] }
  | _ => none }
def topSumsRow : OpenClaim := { program := "ytceanabgcnieeaagreatdoor", sum := "60d362b5028c301b157adbd170d3495c937bbd96c761f15ff09318ccfb458708", func := "tidemill/tidemilltop.TopSums", spec := "topSums", inPlace := ["sync/atomic.AddInt64", "sync/atomic.LoadInt64", "slices.overlaps[tidemill/kv.pair]", "slices.overlaps[tidemill/sess.session]"], unfollowed := true, recurses := true, named := ["tidemill/topo.needs", "tidemill/expr.kids", "tidemill/rec.uses"], plainKeys := false, apart := false, laid := [("tidemill/expr.kids", laid_tidemill_expr_kids), ("tidemill/rec.uses", laid_tidemill_rec_uses), ("tidemill/topo.needs", laid_tidemill_topo_needs)] }
def TopSumsSaid : Prop := topSumsRow.holds Tryz.pinned (OpenSpec.ofChange topSumsSpec)

/-- ITS FALSE NEIGHBOUR: 'it returns false'. Refute it at one input. -/
def topSumsWrong : ChangeSpec := { name := "topSums", fn := fun _ => fun
  | [d] => { results := [.lit (.bool false)], args := [d] }
  | _ => none }
def TopSumsWrongFalsely : Prop := topSumsRow.holds Tryz.pinned (OpenSpec.ofChange topSumsWrong)

/- THE SECOND FORM. 'bulk': how many values and letters a reading holds, each counted each time it is reached (what is shared counts as often as it is met; a slice's spare places count too). A statement '..UptoSaid' is the law's where the arguments, and the package variables that the reading takes, are together of bulk at most 1048576: NARROWER than '..Said'. Prove '..Said' where nothing that the law and all that it calls make is longer than what came in: it says more and counts as full. Else prove '..UptoSaid'. A law counts once. -/
mutual
def uptoBulk {H : Type} : DataW H → Nat
  | .lit (.string bytes) => bytes.length + 1
  | .lit _ => 1
  | .nil => 1
  | .ptr d => uptoBulk d + 1
  | .slice elems spare => uptoBulkAll elems + uptoBulkAll spare + 1
  | .agg parts => uptoBulkAll parts + 1
  | .iface _ d => uptoBulk d + 1
  | .map entries => uptoBulkEntries entries + 1
  | .held _ => 1
def uptoBulkAll {H : Type} : List (DataW H) → Nat
  | [] => 0
  | d :: r => uptoBulk d + uptoBulkAll r
def uptoBulkEntries {H : Type} : List (Lit × DataW H) → Nat
  | [] => 0
  | x :: r => uptoBulkEntry x + uptoBulkEntries r
def uptoBulkEntry {H : Type} : Lit × DataW H → Nat
  | (.string bytes, d) => bytes.length + uptoBulk d + 1
  | (_, d) => uptoBulk d + 1
 end
def uptoSmall : (H : Type) → List (DataW H) → Bool := fun _ ds => decide (uptoBulkAll ds ≤ 1048576)
def OpenSpec.upto (s : _root_.Go.ChangeSpec) : _root_.Go.OpenSpec := { _root_.Go.OpenSpec.ofChange s with cond := some uptoSmall }

/-- 'tidemilllaw23.ClusLosses', WHERE WHAT IT READS IS OF BULK AT MOST 1048576: true; the input reads as it did. -/
def clusLossesUptoRow : OpenClaim := { program := "ytceanabgcnieeaagreatdoor", sum := "60d362b5028c301b157adbd170d3495c937bbd96c761f15ff09318ccfb458708", func := "tidemill/tidemilllaw23.ClusLosses", spec := "clusLosses", inPlace := ["sync/atomic.AddInt64", "sync/atomic.LoadInt64", "slices.overlaps[tidemill/kv.pair]", "slices.overlaps[tidemill/sess.session]"], unfollowed := true, recurses := true, named := ["tidemill/topo.needs", "tidemill/expr.kids", "tidemill/rec.uses"], plainKeys := false, apart := false, laid := [("tidemill/expr.kids", laid_tidemill_expr_kids), ("tidemill/rec.uses", laid_tidemill_rec_uses), ("tidemill/topo.needs", laid_tidemill_topo_needs)], narrowed := true }
def ClusLossesUptoSaid : Prop := clusLossesUptoRow.holds Tryz.pinned (OpenSpec.upto clusLossesSpec)

/-- 'tidemilllaw23.ClusFences', WHERE WHAT IT READS IS OF BULK AT MOST 1048576: true; the input reads as it did. -/
def clusFencesUptoRow : OpenClaim := { program := "ytceanabgcnieeaagreatdoor", sum := "60d362b5028c301b157adbd170d3495c937bbd96c761f15ff09318ccfb458708", func := "tidemill/tidemilllaw23.ClusFences", spec := "clusFences", inPlace := ["sync/atomic.AddInt64", "sync/atomic.LoadInt64", "slices.overlaps[tidemill/kv.pair]", "slices.overlaps[tidemill/sess.session]"], unfollowed := true, recurses := true, named := ["tidemill/topo.needs", "tidemill/expr.kids", "tidemill/rec.uses"], plainKeys := false, apart := false, laid := [("tidemill/expr.kids", laid_tidemill_expr_kids), ("tidemill/rec.uses", laid_tidemill_rec_uses), ("tidemill/topo.needs", laid_tidemill_topo_needs)], narrowed := true }
def ClusFencesUptoSaid : Prop := clusFencesUptoRow.holds Tryz.pinned (OpenSpec.upto clusFencesSpec)

/-- 'tidemilllaw23.ClusStops', WHERE WHAT IT READS IS OF BULK AT MOST 1048576: true; the input reads as it did. -/
def clusStopsUptoRow : OpenClaim := { program := "ytceanabgcnieeaagreatdoor", sum := "60d362b5028c301b157adbd170d3495c937bbd96c761f15ff09318ccfb458708", func := "tidemill/tidemilllaw23.ClusStops", spec := "clusStops", inPlace := ["sync/atomic.AddInt64", "sync/atomic.LoadInt64", "slices.overlaps[tidemill/kv.pair]", "slices.overlaps[tidemill/sess.session]"], unfollowed := true, recurses := true, named := ["tidemill/topo.needs", "tidemill/expr.kids", "tidemill/rec.uses"], plainKeys := false, apart := false, laid := [("tidemill/expr.kids", laid_tidemill_expr_kids), ("tidemill/rec.uses", laid_tidemill_rec_uses), ("tidemill/topo.needs", laid_tidemill_topo_needs)], narrowed := true }
def ClusStopsUptoSaid : Prop := clusStopsUptoRow.holds Tryz.pinned (OpenSpec.upto clusStopsSpec)

/-- 'tidemilltop.TopSums', WHERE WHAT IT READS IS OF BULK AT MOST 1048576: true; the input reads as it did. -/
def topSumsUptoRow : OpenClaim := { program := "ytceanabgcnieeaagreatdoor", sum := "60d362b5028c301b157adbd170d3495c937bbd96c761f15ff09318ccfb458708", func := "tidemill/tidemilltop.TopSums", spec := "topSums", inPlace := ["sync/atomic.AddInt64", "sync/atomic.LoadInt64", "slices.overlaps[tidemill/kv.pair]", "slices.overlaps[tidemill/sess.session]"], unfollowed := true, recurses := true, named := ["tidemill/topo.needs", "tidemill/expr.kids", "tidemill/rec.uses"], plainKeys := false, apart := false, laid := [("tidemill/expr.kids", laid_tidemill_expr_kids), ("tidemill/rec.uses", laid_tidemill_rec_uses), ("tidemill/topo.needs", laid_tidemill_topo_needs)], narrowed := true }
def TopSumsUptoSaid : Prop := topSumsUptoRow.holds Tryz.pinned (OpenSpec.upto topSumsSpec)

end Rows
end Go.Proofs.YtceanabgcnieeaaGreatDoor
