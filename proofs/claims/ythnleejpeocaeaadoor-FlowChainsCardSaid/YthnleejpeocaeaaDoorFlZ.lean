/-
  What functions of the program do, told of abstract states. Conditions: as each theorem says.
-/
import Derived.Test.YthnleejpeocaeaaDoorFlU
import Derived.Test.YthnleejpeocaeaaDoorFlE
namespace Go.Proofs.YthnleejpeocaeaaDoor.Pk
open Go Go.Proofs Go.Proofs.YthnleejpeocaeaaDoor.Ab
set_option linter.unusedVariables false
set_option linter.unusedSimpArgs false
/-! ### The reference's walk through a chain -/
/-- The walk's state: what came out, and how many of each vertex. -/
structure Sw (h0 : AHeap) (b : Nat) (s : PS) (v : V) (h : AHeap) : Prop where
  k : Keep h0 h none_
  hb : h0.n ≤ b
  bl : b < h.n
  own : Own h 24 3 v (s.1.flatMap recE)
  new : ∀ k, idOf v = some k → h0.n ≤ k ∧ k ≠ b
  gt : h.get b = .cells (i64V s.2) 3 none
theorem Sw.on {h0 h h' : AHeap} {b : Nat} {s : PS} {v : V} (a : Sw h0 b s v h) (k : Keep h h' none_) : Sw h0 b s v h' :=
  ⟨a.k.trans' k, a.hb, Nat.lt_of_lt_of_le a.bl k.n, a.own.keepN k, a.new, by rw [k.get _ a.bl (fun q => q)]; exact a.gt⟩
theorem Sw.out {h0 h h' : AHeap} {b : Nat} {s : PS} {v v' : V} {r : Rec} (a : Sw h0 b s v h) (o' : Own h' 24 3 v' (s.1.flatMap recE ++ recE r)) (k : Keep h h' (isId v)) (nw : NewOr h v v') : Sw h0 b (s.1 ++ [r], s.2) v' h' := by
  refine ⟨a.k.trans k fun j hj q => ?_, a.hb, Nat.lt_of_lt_of_le a.bl k.n, by simpa using o', fun j hj => ?_, ?_⟩
  · have := (a.new j q).1; omega
  · rcases nw with q | q
    · exact a.new j (q ▸ hj)
    · have h1 := q j hj
      have h2 := a.k.n
      have h3 := a.bl
      omega
  · rw [k.get _ a.bl (fun q => (a.new b q).2 rfl)]; exact a.gt
theorem Sw.tot {h0 h : AHeap} {b : Nat} {s : PS} {v : V} (a : Sw h0 b s v h) (t : List Int) : Sw h0 b (s.1, t) v (h.set b (.cells (i64V t) 3 none)) :=
  ⟨a.k.setNew a.hb _, a.hb, a.bl, a.own.keep (Keep.set h b _) fun j hj q => (a.new j hj).2 q, a.new, by simp [AHeap.set]⟩
def walkV (v : V) (b n : Nat) (at_ bad : Int) : V := .agg [v, .sl b 0 n n, .int .i64 at_, .int .i64 bad]
theorem passL_ok1 {f : Rec → PS → (Int × Int) × PS} (H : ∀ r s, (f r s).1.2 = 0 → (f r s).1.1 = -1) : ∀ (R : List Rec) (s : PS), (passL f R s).1.2 = 0 → (passL f R s).1.1 = -1
  | [], s, h => rfl
  | x :: R, s, h => by
    unfold passL at h ⊢
    by_cases he : (f x s).1.2 = 0
    · rw [if_neg (by simp [he])] at h ⊢; exact passL_ok1 H R _ h
    · rw [if_pos he] at h; exact absurd h he
theorem passX_ok1 : ∀ (vs : List Vx) (i : Nat) (r : Rec) (s : PS), (passX vs i r s).1.2 = 0 → (passX vs i r s).1.1 = -1
  | [], i, r, s, h => rfl
  | v :: vs, i, r, s, h => by
    unfold passX at h ⊢
    by_cases h1 : (applyX v r).2 ≠ 0
    · rw [if_pos h1] at h; exact absurd h h1
    · rw [if_neg h1] at h ⊢
      by_cases h2 : 10000 < (addT s.2 i (applyX v r).1.length).getD i 0
      · rw [if_pos h2] at h; simp at h
      · rw [if_neg h2] at h ⊢
        exact passL_ok1 (fun r s h => passX_ok1 vs (i + 1) r s h) _ _ h
end Go.Proofs.YthnleejpeocaeaaDoor.Pk
