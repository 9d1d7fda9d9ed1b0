/-
  What functions of the program do, told of abstract states. Conditions: as each theorem says.
-/
import Derived.Test.YthnleejpeocaeaaDoorFlC
namespace Go.Proofs.YthnleejpeocaeaaDoor.Pk
open Go Go.Proofs Go.Proofs.YthnleejpeocaeaaDoor.Ab
set_option linter.unusedVariables false
set_option linter.unusedSimpArgs false

/-! ### What a record becomes through vertices -/
abbrev PS := List Rec × List Int
/-- One record after the other, until one has an error. -/
def passL (f : Rec → PS → (Int × Int) × PS) : List Rec → PS → (Int × Int) × PS
  | [], s => ((-1, 0), s)
  | x :: l, s => if (f x s).1.2 ≠ 0 then f x s else passL f l (f x s).2
def addT (t : List Int) (i m : Nat) : List Int := t.set i (w64 (t.getD i 0 + m))
/-- Through the rest of the vertices. -/
def passX : List Vx → Nat → Rec → PS → (Int × Int) × PS
  | [], _, r, s => ((-1, 0), (s.1 ++ [r], s.2))
  | v :: vs, i, r, s =>
    if (applyX v r).2 ≠ 0 then (((i : Int), (applyX v r).2), s)
    else if 10000 < (addT s.2 i (applyX v r).1.length).getD i 0 then (((i : Int), 3), (s.1, addT s.2 i (applyX v r).1.length))
    else passL (passX vs (i + 1)) (applyX v r).1 (s.1, addT s.2 i (applyX v r).1.length)

theorem resX_le (kind n : Int) (r : Rec) : (resX kind n r).length ≤ 4 := by
  unfold resX
  repeat' split
  all_goals first | (rw [copR_len]; omega) | simp
theorem applyX_le (v : Vx) (r : Rec) : (applyX v r).1.length ≤ 4 := by
  unfold applyX
  repeat' split
  all_goals first | exact resX_le _ _ _ | simp
theorem passL_len {f : Rec → PS → (Int × Int) × PS} {m : Nat} (hf : ∀ x s, (f x s).2.1.length ≤ s.1.length + m) : ∀ (l : List Rec) (s : PS), (passL f l s).2.1.length ≤ s.1.length + l.length * m
  | [], s => by simp [passL]
  | x :: l, s => by
    unfold passL
    have h1 := hf x s
    split
    · simp only [List.length_cons, Nat.add_mul]; omega
    · have h2 := passL_len hf l (f x s).2
      simp only [List.length_cons, Nat.add_mul]; omega
theorem passX_len : ∀ (vs : List Vx) (i : Nat) (r : Rec) (s : PS), (passX vs i r s).2.1.length ≤ s.1.length + 4 ^ vs.length
  | [], i, r, s => by simp [passX]
  | v :: vs, i, r, s => by
    have hp : 0 < 4 ^ (v :: vs).length := Nat.pow_pos (by decide)
    unfold passX
    split
    · simp only; omega
    · split
      · simp only; omega
      · have h1 := passL_len (passX_len vs (i + 1)) (applyX v r).1 (s.1, addT s.2 i (applyX v r).1.length)
        have h2 : (applyX v r).1.length * 4 ^ vs.length ≤ 4 * 4 ^ vs.length := Nat.mul_le_mul_right _ (applyX_le v r)
        simp only [List.length_cons, Nat.pow_succ] at *
        omega
theorem addT_len (t : List Int) (i m : Nat) : (addT t i m).length = t.length := by simp [addT]
theorem passL_tot {f : Rec → PS → (Int × Int) × PS} (hf : ∀ x s, (f x s).2.2.length = s.2.length) : ∀ (l : List Rec) (s : PS), (passL f l s).2.2.length = s.2.length
  | [], s => by simp [passL]
  | x :: l, s => by
    unfold passL
    split
    · exact hf x s
    · rw [passL_tot hf l, hf x s]
theorem passX_tot : ∀ (vs : List Vx) (i : Nat) (r : Rec) (s : PS), (passX vs i r s).2.2.length = s.2.length
  | [], i, r, s => by simp [passX]
  | v :: vs, i, r, s => by
    unfold passX
    split
    · rfl
    · split
      · exact addT_len _ _ _
      · rw [passL_tot (passX_tot vs (i + 1))]; exact addT_len _ _ _

/-! ### The closure's state -/
def passF (n : Nat) : V := .func (.func 12) [] [.ptr n 0, .ptr (n + 2) 0, .ptr (n + 4) 0, .ptr (n + 5) 0]
structure St (h0 : AHeap) (L : List Vx) (s : PS) (h : AHeap) : Prop where
  k : Keep h0 h none_
  n : h0.n + 6 ≤ h.n
  gl : h.get h0.n = .cells [.imm L.length (L.flatMap encX)] 22 none
  go : ∃ v, h.get (h0.n + 2) = .cells [v] 28 none ∧ Own h 24 3 v (s.1.flatMap recE) ∧ ∀ k, idOf v = some k → h0.n + 6 ≤ k
  gt : h.get (h0.n + 3) = .cells (i64V s.2) 3 none
  gs : h.get (h0.n + 4) = .cells [.sl (h0.n + 3) 0 s.2.length s.2.length] 42 none
  gf : h.get (h0.n + 5) = .cells [passF h0.n] 46 none
theorem St.on {h0 h h' : AHeap} {L : List Vx} {s : PS} (a : St h0 L s h) (k : Keep h h' none_) : St h0 L s h' := by
  have n := a.n
  obtain ⟨v, g, o, d⟩ := a.go
  have get : ∀ j, j < h.n → h'.get j = h.get j := fun j hj => k.get j hj (fun q => q)
  exact ⟨a.k.trans' k, Nat.le_trans n k.n, by rw [get _ (by omega)]; exact a.gl, ⟨v, by rw [get _ (by omega)]; exact g, o.keepN k, d⟩, by rw [get _ (by omega)]; exact a.gt, by rw [get _ (by omega)]; exact a.gs, by rw [get _ (by omega)]; exact a.gf⟩
/-- A new row told. -/
theorem St.out {h0 h h' : AHeap} {L : List Vx} {s : PS} {v v' : V} {r : Rec} (a : St h0 L s h) (g : h.get (h0.n + 2) = .cells [v] 28 none) (d : ∀ k, idOf v = some k → h0.n + 6 ≤ k) (o' : Own h' 24 3 v' (s.1.flatMap recE ++ recE r))
    (k : Keep h h' (isId v)) (nw : NewOr h v v') : St h0 L (s.1 ++ [r], s.2) (h'.set (h0.n + 2) (.cells [v'] 28 none)) := by
  have n := a.n
  have get : ∀ j, j < h0.n + 6 → h'.get j = h.get j := fun j hj => k.get j (by omega) (fun q => by have := d j q; omega)
  have sg : ∀ j, j ≠ h0.n + 2 → (h'.set (h0.n + 2) (.cells [v'] 28 none)).get j = h'.get j := fun j hj => by simp [AHeap.set, hj]
  have d' : ∀ k, idOf v' = some k → h0.n + 6 ≤ k := fun j hj => by
    rcases nw with q | q
    · exact d j (q ▸ hj)
    · have := q j hj; omega
  refine ⟨?_, Nat.le_trans n k.n, ?_, ⟨v', by simp [AHeap.set], ?_, d'⟩, ?_, ?_, ?_⟩
  · exact (a.k.trans k fun j hj q => by have := d j q; omega).setNew (by omega) _
  · rw [sg _ (by omega), get _ (by omega)]; exact a.gl
  · simp only [List.flatMap_append, List.flatMap_cons, List.flatMap_nil, List.append_nil]
    exact o'.keep (Keep.set h' _ _) fun j hj q => by have := d' j hj; omega
  · rw [sg _ (by omega), get _ (by omega)]; exact a.gt
  · rw [sg _ (by omega), get _ (by omega)]; exact a.gs
  · rw [sg _ (by omega), get _ (by omega)]; exact a.gf
/-- A total told. -/
theorem St.tot {h0 h : AHeap} {L : List Vx} {s : PS} (a : St h0 L s h) (t : List Int) (ht : t.length = s.2.length) : St h0 L (s.1, t) (h.set (h0.n + 3) (.cells (i64V t) 3 none)) := by
  have n := a.n
  obtain ⟨v, g, o, d⟩ := a.go
  have sg : ∀ j, j ≠ h0.n + 3 → (h.set (h0.n + 3) (.cells (i64V t) 3 none)).get j = h.get j := fun j hj => by simp [AHeap.set, hj]
  refine ⟨a.k.setNew (by omega) _, n, ?_, ⟨v, ?_, o.keep (Keep.set h _ _) fun j hj q => by have := d j hj; omega, d⟩, by simp [AHeap.set], ?_, ?_⟩
  · rw [sg _ (by omega)]; exact a.gl
  · rw [sg _ (by omega)]; exact g
  · rw [sg _ (by omega)]; rw [show (s.1, t).2.length = s.2.length from ht]; exact a.gs
  · rw [sg _ (by omega)]; exact a.gf
theorem ixT (b N i : Nat) (hi : i < N) : aIndexAddr Tryd.prog 42 (.sl b 0 N N) (.int .i64 (i : Int)) = some (.ptr b i) := by
  rw [aIndexAddr_eq, ss_42, ixGo_sl, if_pos ⟨by omega, by omega⟩]
  simp
theorem dropT (t : List Int) (i : Nat) (hi : i < t.length) {e : TypeId} : dropC (.cells (i64V t) e none) i = some (.int .i64 (t.getD i 0) :: i64V (t.drop (i + 1))) := by
  rw [dropC_cells, if_pos (by rw [i64V_length]; omega)]
  have e1 : (i64V t).drop i = .int .i64 t[i] :: i64V (t.drop (i + 1)) := by
    unfold i64V
    rw [← List.map_drop, List.drop_eq_getElem_cons hi, List.map_cons]
  have e2 : t.getD i 0 = t[i] := by simp [List.getD_eq_getElem?_getD, List.getElem?_eq_getElem hi]
  rw [e1, e2]
theorem setT (t : List Int) (i : Nat) (x : Int) (hi : i < t.length) {e : TypeId} : setC (some 1) (.cells (i64V t) e none) i [.int .i64 x] = some (.cells (i64V (t.set i x)) e none) := by
  rw [setC_one rfl, if_pos (by rw [i64V_length]; omega), i64V_set]
end Go.Proofs.YthnleejpeocaeaaDoor.Pk
