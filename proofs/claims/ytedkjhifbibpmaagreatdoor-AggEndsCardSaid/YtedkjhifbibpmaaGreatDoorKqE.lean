/-
  What functions of the program do, told of abstract states. Conditions: as each theorem says.
-/
import Derived.Test.YtedkjhifbibpmaaGreatDoorMeC
namespace Go.Proofs.YtedkjhifbibpmaaGreatDoor.Pk
open Go Go.Proofs Go.Proofs.YtedkjhifbibpmaaGreatDoor.Ab
set_option linter.unusedVariables false
set_option linter.unusedSimpArgs false
set_option maxRecDepth 10000
/-- What a record tells. -/
def apC (K : KK) (e : Ex) (l : List Chg) (r : Rec) : List Chg :=
  match apK K e l r with
  | .error _ => []
  | .ok N => putCs K l r.k r.t N
/-- What Apply answers: a record, changes, an error. -/
theorem apR_is (K : KK) (e : Ex) (l : List Chg) (r : Rec) : ∃ q c er, apR K e l r = .tuple [.agg (recE q), c, .int .i64 er] ∧ (∀ h, aSrc Tryz.prog 5 35 c h = some ((apC K e l r).length, (apC K e l r).flatMap chgE)) ∧ (er = 0 ∨ apC K e l r = []) ∧ (∀ h, Cast c h (rowC (apC K e l r)) h) := by
  cases h : apK K e l r with
  | error c =>
    have h1 : apC K e l r = [] := by unfold apC; rw [h]
    have h2 : apR K e l r = errA c := by unfold apR; rw [h]
    rw [h1, h2]
    exact ⟨⟨0, 0, 0⟩, .snil, c, rfl, srcN, .inr rfl, fun h => Cast.snil0 h⟩
  | ok N =>
    have h1 : apC K e l r = putCs K l r.k r.t N := by unfold apC; rw [h]
    have h2 : apR K e l r = okA r.k N (timeK K l r.k r.t) (rowC (putCs K l r.k r.t N)) := by unfold apR; rw [h]
    rw [h1, h2]
    exact ⟨⟨r.k, N, timeK K l r.k r.t⟩, _, 0, rfl, srcC _, .inl rfl, fun h => Cast.refl _ _⟩
theorem putCs_len {K : KK} {l : List Chg} (w : WfK K l) (k t v : Int) : (putCs K l k t v).length ≤ 1025 := by
  have := w.len
  cases K with
  | kv => simp [putCs]
  | win g => simp [putCs]
  | ses g =>
    simp only [putCs, putC, List.length_append, List.length_map, List.length_cons, List.length_nil]
    have h1 := List.length_filter_le (otherS (mkS g l k t v)) (found g l k t)
    have h2 := found_le g l k t
    omega
theorem apC_len {K : KK} {e : Ex} {l : List Chg} (w : WfK K l) (r : Rec) : (apC K e l r).length ≤ 1025 := by
  unfold apC
  split
  · simp
  · exact putCs_len w _ _ _
theorem expC_len {K : KK} {l : List Chg} (w : WfK K l) (m : Int) : (expC K m l).length ≤ 1024 := by
  have h1 : (expC K m l).length = ((l.filter (goneK K m)).map goneS).length := (inK_perm K _).length_eq
  rw [h1, List.length_map]
  exact Nat.le_trans (List.length_filter_le _ _) w.len
end Go.Proofs.YtedkjhifbibpmaaGreatDoor.Pk
