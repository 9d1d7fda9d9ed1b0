/-
  What functions of the program do, told of abstract states. Conditions: as each theorem says.
-/
import Derived.Test.YthnleejpeocaeaaDoorFlS
namespace Go.Proofs.YthnleejpeocaeaaDoor.Pk
open Go Go.Proofs Go.Proofs.YthnleejpeocaeaaDoor.Ab
set_option linter.unusedVariables false
set_option linter.unusedSimpArgs false
theorem wm (m : Nat) (hm : m ≤ 4) : IntKind.i64.wrap (m : Int) = m := by rw [Go.IntWalk.i64_in _ (by omega)]
theorem addT_one (i : Nat) (n : Nat) (m : Nat) (hi : i < n) (hm : m ≤ 4) : (addT (List.replicate n 0) i m).getD i 0 = m := by
  simp [addT, List.getD_eq_getElem?_getD, hi, w64, wm m hm]
theorem chain1 {v : Vx} {r : Rec} {l : List Rec} (h : applyX v r = (l, 0)) : chainX [v] r = (l, -1, 0) := by
  have h4 : l.length ≤ 4 := by have := applyX_le v r; rwa [h] at this
  have hp : ∀ (m : List Rec) (s : PS), passL (passX [] (0 + 1)) m s = ((-1, 0), (s.1 ++ m, s.2)) := by
    intro m
    induction m with
    | nil => intro s; simp [passL]
    | cons x m ih => intro s; unfold passL; rw [if_neg (by simp [passX]), ih]; simp [passX]
  have e : passX [v] 0 r ([], List.replicate [v].length 0) = ((-1, 0), (l, addT (List.replicate 1 0) 0 l.length)) := by
    unfold passX
    rw [h, if_neg (by simp), if_neg (by rw [show (([] : List Rec), List.replicate [v].length (0 : Int)).2 = List.replicate 1 0 from rfl, addT_one 0 1 _ (by decide) h4]; omega), hp]
    rfl
  unfold chainX
  rw [e]
  rfl
theorem chain2 {v1 v2 : Vx} {r x : Rec} {l : List Rec} (h1 : applyX v1 r = ([x], 0)) (h2 : applyX v2 x = (l, 0)) : chainX [v1, v2] r = (l, -1, 0) := by
  have h4 : l.length ≤ 4 := by have := applyX_le v2 x; rwa [h2] at this
  have hp : ∀ (m : List Rec) (s : PS), passL (passX [] (0 + 1 + 1)) m s = ((-1, 0), (s.1 ++ m, s.2)) := by
    intro m
    induction m with
    | nil => intro s; simp [passL]
    | cons x m ih => intro s; unfold passL; rw [if_neg (by simp [passX]), ih]; simp [passX]
  have ha : addT (List.replicate 2 0) 0 1 = [1, 0] := by decide
  have e2 : passX [v2] (0 + 1) x ([], [1, 0]) = ((-1, 0), (l, addT [1, 0] 1 l.length)) := by
    unfold passX
    rw [h2, if_neg (by simp), if_neg (by simp [addT, w64, wm _ h4]; omega), hp]
    rfl
  have e : passX [v1, v2] 0 r ([], List.replicate [v1, v2].length 0) = ((-1, 0), (l, addT [1, 0] 1 l.length)) := by
    unfold passX
    rw [h1, if_neg (by simp), if_neg (by show ¬ 10000 < (addT (List.replicate 2 0) 0 1).getD 0 0; decide)]
    show passL (passX [v2] (0 + 1)) [x] ([], addT (List.replicate 2 0) 0 1) = _
    rw [ha]
    unfold passL
    rw [e2, if_neg (by simp)]
    rfl
  unfold chainX
  rw [e]
  rfl
theorem chain2n {v1 v2 : Vx} {r : Rec} (h1 : applyX v1 r = ([], 0)) : chainX [v1, v2] r = ([], -1, 0) := by
  have e : passX [v1, v2] 0 r ([], List.replicate [v1, v2].length 0) = ((-1, 0), ([], addT (List.replicate 2 0) 0 0)) := by
    unfold passX
    rw [h1, if_neg (by simp), if_neg (by show ¬ 10000 < (addT (List.replicate 2 0) 0 0).getD 0 0; decide)]
    rfl
  unfold chainX
  rw [e]
  rfl
def vAdd (a : Int) : Vx := ⟨2, [], .mk 6 0 [.mk 3 0 [], .mk 1 a []], 0⟩
def vMul (a : Int) : Vx := ⟨2, [], .mk 8 0 [.mk 3 0 [], .mk 1 a []], 0⟩
def vLess (a : Int) : Vx := ⟨3, [], .mk 11 0 [.mk 3 0 [], .mk 1 a []], 0⟩
theorem applyAdd (a : Int) (r : Rec) : applyX (vAdd a) r = ([⟨r.k, w64 (r.v + a), r.t⟩], 0) := by
  have m : mayX (vAdd a).e = true := by simp [vAdd, mayX, cnt, cntL, fitsX, kidsN, Ex.ks]
  have v : valF r.k r.v r.t 0 16 (vAdd a).e = some (w64 (r.v + a)) := by simp [vAdd, valF, combX]
  simp only [applyX, m, v, if_true]
  simp [vAdd, resX]
theorem applyMul (a : Int) (r : Rec) : applyX (vMul a) r = ([⟨r.k, w64 (r.v * a), r.t⟩], 0) := by
  have m : mayX (vMul a).e = true := by simp [vMul, mayX, cnt, cntL, fitsX, kidsN, Ex.ks]
  have v : valF r.k r.v r.t 0 16 (vMul a).e = some (w64 (r.v * a)) := by simp [vMul, valF, combX]
  simp only [applyX, m, v, if_true]
  simp [vMul, resX]
theorem applyLess (a : Int) (r : Rec) : applyX (vLess a) r = (if r.v < a then [r] else [], 0) := by
  have m : mayX (vLess a).e = true := by simp [vLess, mayX, cnt, cntL, fitsX, kidsN, Ex.ks]
  have v : valF r.k r.v r.t 0 16 (vLess a).e = some (if r.v < a then 1 else 0) := by simp [vLess, valF, combX]
  simp only [applyX, m, v, if_true]
  by_cases h : r.v < a <;> simp [vLess, resX, h]
theorem chainMaps (a b : Int) (r : Rec) : chainX [vAdd a, vMul b] r = ([⟨r.k, w64 (w64 (r.v + a) * b), r.t⟩], -1, 0) := chain2 (applyAdd a r) (applyMul b _)
theorem chainLess (a : Int) (r : Rec) : chainX [vLess a] r = (if r.v < a then [r] else [], -1, 0) := chain1 (applyLess a r)
theorem chainLess2 (a : Int) (r : Rec) : chainX [vLess a, vLess a] r = (if r.v < a then [r] else [], -1, 0) := by
  have h := applyLess a r
  by_cases c : r.v < a
  · rw [if_pos c] at h ⊢
    have h2 := chain2 h h
    exact h2
  · rw [if_neg c] at h ⊢
    exact chain2n h
end Go.Proofs.YthnleejpeocaeaaDoor.Pk
