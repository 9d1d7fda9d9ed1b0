/-
  DERIVED. GIVEN WITH THE SEED: THE PROGRAM's TIES (one call each: nine closed facts by the kernel) AND EACH ROW's TIE, after the 31st guide's Derived/Test/Toyas{Tie, Card}.lean. No idea stands in it: it is a product of the set-up. Laid BY PROGRAM, IN A SANDBOX (cutbox-door.mjs). By AI agents, Wed Nov 11 2026. No macro, syntax, notation, axiom, sorry.
-/
import Derived.Test.YtfcjehlhoebmnaaGreatDoorRows
import Derived.LaidByTextLater
import Derived.SevenTiedAt
import Derived.LaidSub
import Derived.LaidOnce
namespace Go.Proofs.YtfcjehlhoebmnaaGreatDoor
open Go
set_option maxRecDepth 100000
theorem seatTie1 : Tryz.prog.laidByTextLater [("tidemill/expr.kids", Rows.laid_tidemill_expr_kids), ("tidemill/rec.uses", Rows.laid_tidemill_rec_uses), ("tidemill/topo.needs", Rows.laid_tidemill_topo_needs)] [.data, .data, .data] true :=
  Program.laidByTextLater_by_one 34 8 45 (by kernel_rfl) (by kernel_rfl) (by kernel_rfl) (by kernel_rfl) (by kernel_rfl) (by kernel_rfl) (fun _ _ => by kernel_rfl)
theorem noOwnUnsafe : Tryz.pinned.checked.prog.headLifts.contains "ownunsafe" = false := by kernel_rfl
theorem tie : Tryz.prog.laidByTextLater [("tidemill/expr.kids", Rows.laid_tidemill_expr_kids), ("tidemill/rec.uses", Rows.laid_tidemill_rec_uses), ("tidemill/topo.needs", Rows.laid_tidemill_topo_needs)] [.data, .data, .data] true :=
  Program.laidByTextLater.sub seatTie1 ["tidemill/expr.kids", "tidemill/rec.uses", "tidemill/topo.needs"] (by kernel_rfl) (by kernel_rfl)
theorem clusNobody_row_tie : Rows.clusNobodyRow.laidByTextAt .later Tryz.pinned [.data, .data, .data] true :=
  OpenClaim.laidByTextAt_later rfl rfl tie noOwnUnsafe
theorem topTotals_row_tie : Rows.topTotalsRow.laidByTextAt .later Tryz.pinned [.data, .data, .data] true :=
  OpenClaim.laidByTextAt_later rfl rfl tie noOwnUnsafe
theorem clusNobodyUpto_row_tie : Rows.clusNobodyUptoRow.laidByTextAt .later Tryz.pinned [.data, .data, .data] true :=
  OpenClaim.laidByTextAt_later rfl rfl tie noOwnUnsafe
theorem topTotalsUpto_row_tie : Rows.topTotalsUptoRow.laidByTextAt .later Tryz.pinned [.data, .data, .data] true :=
  OpenClaim.laidByTextAt_later rfl rfl tie noOwnUnsafe
end Go.Proofs.YtfcjehlhoebmnaaGreatDoor
