/-
  What functions of the program do, told of abstract states. Conditions: as each theorem says.
-/
import Derived.Test.YtpobgoeeljknpaaDoorExDa
import Derived.Test.YtpobgoeeljknpaaDoorExG
namespace Go.Proofs.YtpobgoeeljknpaaDoor.Pk
open Go Go.Proofs Go.Proofs.YtpobgoeeljknpaaDoor.Ab
set_option linter.unusedVariables false
set_option linter.unusedSimpArgs false
def negX : Nat → Ex
  | 0 => .mk 3 0 []
  | k + 1 => .mk 14 0 [negX k]
def vX : Ex := .mk 3 0 []
theorem vX_ok : OkE vX := .mk 3 0 [] (by decide) (by simp) (by decide) (by decide)
theorem two_ok {a b : Ex} (ha : OkE a) (hb : OkE b) : OkE (.mk 6 0 [a, b]) := by
  refine .mk 6 0 [a, b] (by simp) ?_ (by decide) (by decide)
  intro k hk
  simp only [List.mem_cons, List.not_mem_nil, or_false] at hk
  rcases hk with rfl | rfl
  · exact ha
  · exact hb
theorem may_neg : ∀ k, k < 24 → mayX (negX k) = decide (k < 16) := by decide +kernel
theorem val_neg : ∀ k, k < 16 → (valF 0 0 0 0 16 (negX k)).isSome = true := by decide +kernel
theorem litE1 (h : AHeap) (a : Ex) : aBuildSlice Tryd.prog 23 1 [(0, .agg (encE a))] h = some (.sl h.n 0 1 1, h.push (.cells (encE a) 25 none)) := by
  rw [buildSlice_go sl_23]; cases a; rfl
theorem litE0 (h : AHeap) : aBuildSlice Tryd.prog 23 1 [(0, .agg [.int .i64 3, .int .i64 0, .snil])] h = some (.sl h.n 0 1 1, h.push (.cells [.int .i64 3, .int .i64 0, .snil] 25 none)) := by
  rw [buildSlice_go sl_23]; rfl
/-- One `neg` more: what lies in the variable is told otherwise. -/
theorem neg_step {h : AHeap} {X : Nat} {a : Ex} (hX : X < h.n) {c0 : List V} (g : h.get X = .cells c0 25 none) :
    ∃ h2, Cast .top ((h.push (.cells (encE a) 25 none)).set X (.cells [.int .i64 14, .int .i64 0, .sl h.n 0 1 1] 25 none)) .top h2 ∧ Keep ((h.push (.cells (encE a) 25 none)).set X (.cells [.int .i64 14, .int .i64 0, .sl h.n 0 1 1] 25 none)) h2 (fun _ => True) ∧ h2.get X = .cells (encE (.mk 14 0 [a])) 25 none := by
  obtain ⟨H, hH⟩ : ∃ y, y = (h.push (.cells (encE a) 25 none)).set X (.cells [.int .i64 14, .int .i64 0, .sl h.n 0 1 1] 25 none) := ⟨_, rfl⟩
  have oj : Own (h.push (.cells (encE a) 25 none)) 25 3 (.sl h.n 0 1 1) (encE a) := Own.fresh' (encE a) 1 (encE_len a) (by decide)
  have oH : Own H 25 3 (.sl h.n 0 1 1) ([a].flatMap encE) := by
    have := oj.keep (Keep.set (h.push (.cells (encE a) 25 none)) X (.cells [.int .i64 14, .int .i64 0, .sl h.n 0 1 1] 25 none)) (by intro j hj; simp only [idOf, Option.some.injEq] at hj; omega)
    rw [hH]; simpa using this
  have nH : H.n = h.n + 1 := by rw [hH]; rfl
  have gH : H.get X = .cells [.int .i64 14, .int .i64 0, .sl h.n 0 1 1] 25 none := by rw [hH, get_set_same]
  obtain ⟨h1, c, k⟩ := Cast.own (n := [a].length) oH (rows_len encE_len [a]) (by decide)
  have g1 : h1.get X = .cells [.int .i64 14, .int .i64 0, .sl h.n 0 1 1] 25 none := (k.get X (by omega) (by simp [isId, idOf]; omega)).trans gH
  have cl : CastL [.int .i64 14, .int .i64 0, .sl h.n 0 1 1] H (encE (.mk 14 0 [a])) h1 := by
    rw [encE_eq]
    exact CastL.cons (Cast.refl _ _) (CastL.cons (Cast.refl _ _) (CastL.cons c (CastL.refl _ _)))
  rw [← hH]
  refine ⟨_, Cast.cellC gH cl g1 (by rw [encE_len]; rfl) .top, ?_, get_set_same⟩
  exact (k.mono fun _ _ => trivial).trans' ((Keep.set _ _ _).mono fun _ _ => trivial)
theorem val_cast {h : AHeap} {X : Nat} (g : h.get X = .cells [.int .i64 3, .int .i64 0, .snil] 25 none) : Cast .top h .top (h.set X (.cells (encE vX) 25 none)) := by
  refine Cast.cellC g ?_ g (by rw [encE_len]; rfl) .top
  unfold vX
  rw [encE_eq]
  exact CastL.skip (CastL.skip (CastL.last (Cast.nil0 h)))
/-- A row whose room isn't known is taken as one of known room. -/
theorem SWp.rowK {n : Nat} {c : Code} {Q : AExit → AFrame → AHeap → Prop} {f : AFrame} {h : AHeap} {t : Tmp} {l : List Ex} (rv : RowV h (f t) l)
    (hk : ∀ f' h', (∀ k, k ≠ t → f' k = f k) → RowK h' (f' t) l → Keep h h' (isId (f t)) → idOf (f' t) = idOf (f t) → SWp Tryd.prog n c Q f' h') : SWp Tryd.prog n c Q f h := by
  rcases rv with r | ⟨i, hv, h1, h2⟩
  · exact hk f h (fun _ _ => rfl) r (Keep.refl _ _) rfl
  · refine SWp.room hv h2 fun C a b cc => hk _ _ (fun k hk => by simp [AFrame.put, hk]) ?_ ((Keep.set _ _ _).mono fun q hq => by subst hq; rw [hv]; simp [isId, idOf]) ?_
    · have : (f.put (some t) (.sl i 0 l.length C)) t = .sl i 0 l.length C := by simp [AFrame.put]
      rw [this]
      exact RowU.room h1 a b cc
    · have : (f.put (some t) (.sl i 0 l.length C)) t = .sl i 0 l.length C := by simp [AFrame.put]
      rw [this, hv]; rfl
end Go.Proofs.YtpobgoeeljknpaaDoor.Pk
