/-
  NARROWER THAN 'FOR EVERY INPUT', by the rows' own cells (each row's printed sentence says how): TaskAgain: loops, laid · TaskOffs: loops, laid · TaskNobody: laid · TaskFrees: laid.
  DERIVED. THE GIVEN ROWS OF THIS SEAT. 4 by the template 'for every input the law returns true; each argument reads behind the call as it read before'; 0 by the template 'total and deterministic' (their statements: YtemdgidnhgcafaaGreatDoorTotals.lean).
  GIVEN WITH THE SEED: the statements are not yours to turn. If you find one false, say at which input.
  Laid BY PROGRAM, IN A SANDBOX (cutbox-rows.mjs): the forced cells as the released guide's own fill.sh prints them over the translation 8ed45e702f90d112… (all of the seat's roots in one cut). By AI agents, Wed Nov 11 2026. No macro, syntax, notation, axiom, sorry.
-/
import Derived.Test.YtemdgidnhgcafaaGreatDoorChecked
import GoSem.Claim
import GoSem.ClaimJoined
import GoSem.ClaimMapViews
import Derived.JoinedTies
import Derived.KernelRfl
namespace Go.Proofs.YtemdgidnhgcafaaGreatDoor
/- THE CELL 'sum', in the pinned program and in every row, IS THE sha256 OF THE DUMP (.gsa) THAT YtemdgidnhgcafaaGreatDoorProg.lean LOADS. Nothing in Lean hashes anything: it is a label: what it is worth is what the hold of that sum in a sandbox is worth. -/
noncomputable def Tryz.pinned : Pinned := { name := "ytemdgidnhgcafaagreatdoor", sum := "8ed45e702f90d11251380c8095b82a6e6654f416ff15cea1b5eb57971a130a53", checked := Tryz.checked }
namespace Rows
def none {H : Type} : Left H := { results := [], args := [] }

/- WHAT THE LISTED PACKAGE-LEVEL VARIABLES READ AS WHEN THE CALL BEGINS. Each datum BY PROGRAM (the guide's laid-datum.mjs) off the statement by which the dump's own 'gosem.cut.vars' lays the variable. In a bare row this is a premise. The card (YtemdgidnhgcafaaGreatDoorCards.lean) ties it to the program's text. -/
def laid_tidemill_expr_kids {H : Type} : DataW H := .agg [.lit (.int .i64 0), .lit (.int .i64 0), .lit (.int .i64 0), .lit (.int .i64 0), .lit (.int .i64 0), .lit (.int .i64 0), .lit (.int .i64 2), .lit (.int .i64 2), .lit (.int .i64 2), .lit (.int .i64 2), .lit (.int .i64 2), .lit (.int .i64 2), .lit (.int .i64 2), .lit (.int .i64 3), .lit (.int .i64 1), .lit (.int .i64 2), .lit (.int .i64 2)]
def laid_tidemill_rec_uses {H : Type} : DataW H := .agg [.lit (.int .i64 0), .lit (.int .i64 24), .lit (.int .i64 63), .lit (.int .i64 199), .lit (.int .i64 7), .lit (.int .i64 3), .lit (.int .i64 0)]
def laid_tidemill_topo_needs {H : Type} : DataW H := .agg [.agg [.lit (.int .i64 0), .lit (.int .i64 0), .lit (.int .i64 0), .lit (.int .i64 0)], .agg [.lit (.int .i64 0), .lit (.int .i64 0), .lit (.int .i64 0), .lit (.int .i64 7)], .agg [.lit (.int .i64 1), .lit (.int .i64 1), .lit (.int .i64 0), .lit (.int .i64 0)], .agg [.lit (.int .i64 1), .lit (.int .i64 1), .lit (.int .i64 0), .lit (.int .i64 0)], .agg [.lit (.int .i64 1), .lit (.int .i64 1), .lit (.int .i64 0), .lit (.int .i64 0)], .agg [.lit (.int .i64 1), .lit (.int .i64 1), .lit (.int .i64 0), .lit (.int .i64 0)], .agg [.lit (.int .i64 1), .lit (.int .i64 2), .lit (.int .i64 0), .lit (.int .i64 0)], .agg [.lit (.int .i64 1), .lit (.int .i64 2), .lit (.int .i64 1), .lit (.int .i64 1048576)], .agg [.lit (.int .i64 1), .lit (.int .i64 2), .lit (.int .i64 1), .lit (.int .i64 1048576)], .agg [.lit (.int .i64 2), .lit (.int .i64 2), .lit (.int .i64 0), .lit (.int .i64 0)], .agg [.lit (.int .i64 1), .lit (.int .i64 0), .lit (.int .i64 0), .lit (.int .i64 7)]]

/-- 'tidemilllaw21.TaskAgain': WHATEVER THE INPUT: true; the input reads as it did. -/
def taskAgainSpec : ChangeSpec := { name := "taskAgain", fn := fun _ => fun
  | [d1, d2, d3, d4] => { results := [.lit (.bool true)], args := [d1, d2, d3, d4] }
  | _ => none }
def taskAgainRow : OpenClaim := { program := "ytemdgidnhgcafaagreatdoor", sum := "8ed45e702f90d11251380c8095b82a6e6654f416ff15cea1b5eb57971a130a53", func := "tidemill/tidemilllaw21.TaskAgain", spec := "taskAgain", inPlace := ["slices.overlaps[tidemill/kv.pair]", "slices.overlaps[tidemill/sess.session]"], unfollowed := true, recurses := true, named := ["tidemill/rec.uses", "tidemill/topo.needs", "tidemill/expr.kids"], loops := true, plainKeys := false, apart := false, laid := [("tidemill/expr.kids", laid_tidemill_expr_kids), ("tidemill/rec.uses", laid_tidemill_rec_uses), ("tidemill/topo.needs", laid_tidemill_topo_needs)] }
def TaskAgainSaid : Prop := taskAgainRow.holds Tryz.pinned (OpenSpec.ofChange taskAgainSpec)

/-- ITS FALSE NEIGHBOUR: 'it returns false'. Refute it at one input. -/
def taskAgainWrong : ChangeSpec := { name := "taskAgain", fn := fun _ => fun
  | [d1, d2, d3, d4] => { results := [.lit (.bool false)], args := [d1, d2, d3, d4] }
  | _ => none }
def TaskAgainWrongFalsely : Prop := taskAgainRow.holds Tryz.pinned (OpenSpec.ofChange taskAgainWrong)

/-- 'tidemilllaw21.TaskOffs': WHATEVER THE INPUT: true; the input reads as it did. -/
def taskOffsSpec : ChangeSpec := { name := "taskOffs", fn := fun _ => fun
  | [d1, d2, d3, d4] => { results := [.lit (.bool true)], args := [d1, d2, d3, d4] }
  | _ => none }
def taskOffsRow : OpenClaim := { program := "ytemdgidnhgcafaagreatdoor", sum := "8ed45e702f90d11251380c8095b82a6e6654f416ff15cea1b5eb57971a130a53", func := "tidemill/tidemilllaw21.TaskOffs", spec := "taskOffs", inPlace := ["slices.overlaps[tidemill/kv.pair]", "slices.overlaps[tidemill/sess.session]"], unfollowed := true, recurses := true, named := ["tidemill/rec.uses", "tidemill/topo.needs", "tidemill/expr.kids"], loops := true, plainKeys := false, apart := false, laid := [("tidemill/expr.kids", laid_tidemill_expr_kids), ("tidemill/rec.uses", laid_tidemill_rec_uses), ("tidemill/topo.needs", laid_tidemill_topo_needs)] }
def TaskOffsSaid : Prop := taskOffsRow.holds Tryz.pinned (OpenSpec.ofChange taskOffsSpec)

/-- ITS FALSE NEIGHBOUR: 'it returns false'. Refute it at one input. -/
def taskOffsWrong : ChangeSpec := { name := "taskOffs", fn := fun _ => fun
  | [d1, d2, d3, d4] => { results := [.lit (.bool false)], args := [d1, d2, d3, d4] }
  | _ => none }
def TaskOffsWrongFalsely : Prop := taskOffsRow.holds Tryz.pinned (OpenSpec.ofChange taskOffsWrong)

/-- 'tidemilllaw21.TaskNobody': WHATEVER THE INPUT: true; the input reads as it did. -/
def taskNobodySpec : ChangeSpec := { name := "taskNobody", fn := fun _ => fun
  | [d] => { results := [.lit (.bool true)], args := [d] }
  | _ => none }
def taskNobodyRow : OpenClaim := { program := "ytemdgidnhgcafaagreatdoor", sum := "8ed45e702f90d11251380c8095b82a6e6654f416ff15cea1b5eb57971a130a53", func := "tidemill/tidemilllaw21.TaskNobody", spec := "taskNobody", inPlace := ["slices.overlaps[tidemill/kv.pair]", "slices.overlaps[tidemill/sess.session]"], unfollowed := true, recurses := true, named := ["tidemill/rec.uses", "tidemill/topo.needs", "tidemill/expr.kids"], plainKeys := false, apart := false, laid := [("tidemill/expr.kids", laid_tidemill_expr_kids), ("tidemill/rec.uses", laid_tidemill_rec_uses), ("tidemill/topo.needs", laid_tidemill_topo_needs)] }
def TaskNobodySaid : Prop := taskNobodyRow.holds Tryz.pinned (OpenSpec.ofChange taskNobodySpec)

/-- ITS FALSE NEIGHBOUR: 'it returns false'. Refute it at one input. -/
def taskNobodyWrong : ChangeSpec := { name := "taskNobody", fn := fun _ => fun
  | [d] => { results := [.lit (.bool false)], args := [d] }
  | _ => none }
def TaskNobodyWrongFalsely : Prop := taskNobodyRow.holds Tryz.pinned (OpenSpec.ofChange taskNobodyWrong)

/-- 'tidemilllaw21.TaskFrees': WHATEVER THE INPUT: true; the input reads as it did. -/
def taskFreesSpec : ChangeSpec := { name := "taskFrees", fn := fun _ => fun
  | [d] => { results := [.lit (.bool true)], args := [d] }
  | _ => none }
def taskFreesRow : OpenClaim := { program := "ytemdgidnhgcafaagreatdoor", sum := "8ed45e702f90d11251380c8095b82a6e6654f416ff15cea1b5eb57971a130a53", func := "tidemill/tidemilllaw21.TaskFrees", spec := "taskFrees", inPlace := ["slices.overlaps[tidemill/kv.pair]", "slices.overlaps[tidemill/sess.session]"], unfollowed := true, recurses := true, named := ["tidemill/rec.uses", "tidemill/topo.needs", "tidemill/expr.kids"], plainKeys := false, apart := false, laid := [("tidemill/expr.kids", laid_tidemill_expr_kids), ("tidemill/rec.uses", laid_tidemill_rec_uses), ("tidemill/topo.needs", laid_tidemill_topo_needs)] }
def TaskFreesSaid : Prop := taskFreesRow.holds Tryz.pinned (OpenSpec.ofChange taskFreesSpec)

/-- ITS FALSE NEIGHBOUR: 'it returns false'. Refute it at one input. -/
def taskFreesWrong : ChangeSpec := { name := "taskFrees", fn := fun _ => fun
  | [d] => { results := [.lit (.bool false)], args := [d] }
  | _ => none }
def TaskFreesWrongFalsely : Prop := taskFreesRow.holds Tryz.pinned (OpenSpec.ofChange taskFreesWrong)

/- THE SECOND FORM. 'bulk': how many values and letters a reading holds, each counted each time it is reached (what is shared counts as often as it is met; a slice's spare places count too). A statement '..UptoSaid' is the law's where the arguments, and the package variables that the reading takes, are together of bulk at most 1048576: NARROWER than '..Said'. Prove '..Said' where nothing that the law and all that it calls make is longer than what came in: it says more and counts as full. Else prove '..UptoSaid'. A law counts once. -/
mutual
def uptoBulk {H : Type} : DataW H → Nat
  | .lit (.string bytes) => bytes.length + 1
  | .lit _ => 1
  | .nil => 1
  | .ptr d => uptoBulk d + 1
  | .slice elems spare => uptoBulkAll elems + uptoBulkAll spare + 1
  | .agg parts => uptoBulkAll parts + 1
  | .iface _ d => uptoBulk d + 1
  | .map entries => uptoBulkEntries entries + 1
  | .held _ => 1
def uptoBulkAll {H : Type} : List (DataW H) → Nat
  | [] => 0
  | d :: r => uptoBulk d + uptoBulkAll r
def uptoBulkEntries {H : Type} : List (Lit × DataW H) → Nat
  | [] => 0
  | x :: r => uptoBulkEntry x + uptoBulkEntries r
def uptoBulkEntry {H : Type} : Lit × DataW H → Nat
  | (.string bytes, d) => bytes.length + uptoBulk d + 1
  | (_, d) => uptoBulk d + 1
 end
def uptoSmall : (H : Type) → List (DataW H) → Bool := fun _ ds => decide (uptoBulkAll ds ≤ 1048576)
def OpenSpec.upto (s : _root_.Go.ChangeSpec) : _root_.Go.OpenSpec := { _root_.Go.OpenSpec.ofChange s with cond := some uptoSmall }

/-- 'tidemilllaw21.TaskAgain', WHERE WHAT IT READS IS OF BULK AT MOST 1048576: true; the input reads as it did. -/
def taskAgainUptoRow : OpenClaim := { program := "ytemdgidnhgcafaagreatdoor", sum := "8ed45e702f90d11251380c8095b82a6e6654f416ff15cea1b5eb57971a130a53", func := "tidemill/tidemilllaw21.TaskAgain", spec := "taskAgain", inPlace := ["slices.overlaps[tidemill/kv.pair]", "slices.overlaps[tidemill/sess.session]"], unfollowed := true, recurses := true, named := ["tidemill/rec.uses", "tidemill/topo.needs", "tidemill/expr.kids"], loops := true, plainKeys := false, apart := false, laid := [("tidemill/expr.kids", laid_tidemill_expr_kids), ("tidemill/rec.uses", laid_tidemill_rec_uses), ("tidemill/topo.needs", laid_tidemill_topo_needs)], narrowed := true }
def TaskAgainUptoSaid : Prop := taskAgainUptoRow.holds Tryz.pinned (OpenSpec.upto taskAgainSpec)

/-- 'tidemilllaw21.TaskOffs', WHERE WHAT IT READS IS OF BULK AT MOST 1048576: true; the input reads as it did. -/
def taskOffsUptoRow : OpenClaim := { program := "ytemdgidnhgcafaagreatdoor", sum := "8ed45e702f90d11251380c8095b82a6e6654f416ff15cea1b5eb57971a130a53", func := "tidemill/tidemilllaw21.TaskOffs", spec := "taskOffs", inPlace := ["slices.overlaps[tidemill/kv.pair]", "slices.overlaps[tidemill/sess.session]"], unfollowed := true, recurses := true, named := ["tidemill/rec.uses", "tidemill/topo.needs", "tidemill/expr.kids"], loops := true, plainKeys := false, apart := false, laid := [("tidemill/expr.kids", laid_tidemill_expr_kids), ("tidemill/rec.uses", laid_tidemill_rec_uses), ("tidemill/topo.needs", laid_tidemill_topo_needs)], narrowed := true }
def TaskOffsUptoSaid : Prop := taskOffsUptoRow.holds Tryz.pinned (OpenSpec.upto taskOffsSpec)

/-- 'tidemilllaw21.TaskNobody', WHERE WHAT IT READS IS OF BULK AT MOST 1048576: true; the input reads as it did. -/
def taskNobodyUptoRow : OpenClaim := { program := "ytemdgidnhgcafaagreatdoor", sum := "8ed45e702f90d11251380c8095b82a6e6654f416ff15cea1b5eb57971a130a53", func := "tidemill/tidemilllaw21.TaskNobody", spec := "taskNobody", inPlace := ["slices.overlaps[tidemill/kv.pair]", "slices.overlaps[tidemill/sess.session]"], unfollowed := true, recurses := true, named := ["tidemill/rec.uses", "tidemill/topo.needs", "tidemill/expr.kids"], plainKeys := false, apart := false, laid := [("tidemill/expr.kids", laid_tidemill_expr_kids), ("tidemill/rec.uses", laid_tidemill_rec_uses), ("tidemill/topo.needs", laid_tidemill_topo_needs)], narrowed := true }
def TaskNobodyUptoSaid : Prop := taskNobodyUptoRow.holds Tryz.pinned (OpenSpec.upto taskNobodySpec)

/-- 'tidemilllaw21.TaskFrees', WHERE WHAT IT READS IS OF BULK AT MOST 1048576: true; the input reads as it did. -/
def taskFreesUptoRow : OpenClaim := { program := "ytemdgidnhgcafaagreatdoor", sum := "8ed45e702f90d11251380c8095b82a6e6654f416ff15cea1b5eb57971a130a53", func := "tidemill/tidemilllaw21.TaskFrees", spec := "taskFrees", inPlace := ["slices.overlaps[tidemill/kv.pair]", "slices.overlaps[tidemill/sess.session]"], unfollowed := true, recurses := true, named := ["tidemill/rec.uses", "tidemill/topo.needs", "tidemill/expr.kids"], plainKeys := false, apart := false, laid := [("tidemill/expr.kids", laid_tidemill_expr_kids), ("tidemill/rec.uses", laid_tidemill_rec_uses), ("tidemill/topo.needs", laid_tidemill_topo_needs)], narrowed := true }
def TaskFreesUptoSaid : Prop := taskFreesUptoRow.holds Tryz.pinned (OpenSpec.upto taskFreesSpec)

end Rows
end Go.Proofs.YtemdgidnhgcafaaGreatDoor
