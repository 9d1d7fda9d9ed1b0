/-
  What functions of the program do, told of abstract states. Conditions: as each theorem says.
-/
import Derived.Test.YtpjfhfmbhjghcaaGreatDoorExE
import Derived.Test.YtpjfhfmbhjghcaaGreatDoorExV
namespace Go.Proofs.YtpjfhfmbhjghcaaGreatDoor.Pk
open Go Go.Proofs Go.Proofs.YtpjfhfmbhjghcaaGreatDoor.Ab
set_option linter.unusedVariables false
set_option linter.unusedSimpArgs false
def evO : Option Int → V
  | some n => .tuple [.int .i64 n, .int .i64 0]
  | none => .tuple [.int .i64 0, .int .i64 10]
theorem pEvalM (e : Ex) (rk rv rt acc : Int) (o : Option Int) (hm : mayX e = true) (hv : valF rk rv rt acc 16 e = o) (h : AHeap) (hg : KG h) :
    Pure Tryz.prog 40 [.agg (encE e), .agg [.int .i64 rk, .int .i64 rv, .int .i64 rt], .int .i64 acc] h (evO o) := by
  have := pEval e rk rv rt acc h hg
  rw [hm, hv] at this
  cases o <;> exact this
/-! ### Values told in a weaker way -/
def WkV (v v2 : V) : Prop := ∀ ρ v', VRel ρ v v' → VRel ρ v2 v'
def WkL (l l2 : List V) : Prop := ∀ ρ l', LRel ρ l l' → LRel ρ l2 l'
theorem WkV.refl (v : V) : WkV v v := fun _ _ h => h
theorem WkL.refl (l : List V) : WkL l l := fun _ _ h => h
theorem WkL.cons {v v2 : V} {l l2 : List V} (a : WkV v v2) (b : WkL l l2) : WkL (v :: l) (v2 :: l2) := fun ρ l' h => by
  obtain ⟨v', t', rfl, h1, h2⟩ := h.uncons
  exact LRel.cons (a ρ v' h1) (b ρ t' h2)
theorem WkL.append {a a2 b b2 : List V} (ha : WkL a a2) (hl : a.length = a2.length) (hb : WkL b b2) : WkL (a ++ b) (a2 ++ b2) := fun ρ l' h => by
  have h1 := h.take a.length
  have h2 := h.drop a.length
  rw [List.take_left] at h1
  rw [List.drop_left] at h2
  have := (ha ρ _ h1).append (hb ρ _ h2)
  rwa [List.take_append_drop] at this
theorem WkV.snil : WkV .snil (.imm 0 []) := fun ρ v' h => by cases h; exact .immZ none 0 (by simp)
theorem WkV.imm {n : Nat} {cs cs2 : List V} (h : WkL cs cs2) (hl : cs.length = cs2.length) : WkV (.imm n cs) (.imm n cs2) := fun ρ v' hv => by
  cases hv with
  | imm o n cap hb hn ho hx =>
    rename_i b arr
    have hL : LRel ρ cs ((arr.toList.drop o).take cs.length) := by
      refine ⟨by simp; omega, fun k v v' h1 h2 => ?_⟩
      rw [List.getElem?_take] at h2
      split at h2
      · rw [List.getElem?_drop] at h2
        exact hx k v v' h1 (by simpa using h2)
      · cases h2
    have h2 := h ρ _ hL
    refine .imm o n cap hb hn (by omega) fun k v v' h3 h4 => ?_
    have hk : k < cs.length := by rw [hl]; exact (List.getElem?_eq_some_iff.1 h3).1
    refine h2.2 k v v' h3 ?_
    rw [List.getElem?_take, if_pos hk, List.getElem?_drop]
    simpa using h4
  | immZ a c ha =>
    have : cs2 = [] := List.eq_nil_of_length_eq_zero (by simpa using hl.symm)
    subst this
    exact .immZ a c ha
theorem WkV.cast {v v2 : V} (a : WkV v v2) (h : AHeap) : Cast v h v2 h := fun ρ B w0 w r' hw hv => ⟨ρ, Ren.le.refl ρ, hw, a ρ r' hv⟩
theorem wkE0 (o n : Int) : WkL [.int .i64 o, .int .i64 n, .snil] (encE (.mk o n [])) := by
  rw [encE_eq]
  exact WkL.cons (.refl _) (.cons (.refl _) (.cons .snil (.refl _)))
end Go.Proofs.YtpjfhfmbhjghcaaGreatDoor.Pk
