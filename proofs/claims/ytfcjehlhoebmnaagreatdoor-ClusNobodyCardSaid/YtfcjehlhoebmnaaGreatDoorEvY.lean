/-
  What functions of the program do, told of abstract states. Conditions: as each theorem says.
-/
import Derived.Test.YtfcjehlhoebmnaaGreatDoorEvU
import Derived.Test.YtfcjehlhoebmnaaGreatDoorAbD
import Derived.Lib.LaidTab
import Derived.Lib.LaidU8
import Derived.Stop.LaidErr
namespace Go.Proofs.YtfcjehlhoebmnaaGreatDoor.Pk
open Go Go.Proofs Go.Proofs.YtfcjehlhoebmnaaGreatDoor.Ab
set_option linter.unusedVariables false

def kidsN : List Int := [0, 0, 0, 0, 0, 0, 2, 2, 2, 2, 2, 2, 2, 3, 1, 2, 2]
def usesN : List Int := [0, 24, 63, 199, 7, 3, 0]
def needsL : List (List Int) := [[0, 0, 0, 0], [0, 0, 0, 7], [1, 1, 0, 0], [1, 1, 0, 0], [1, 1, 0, 0], [1, 1, 0, 0], [1, 2, 0, 0], [1, 2, 1, 1048576], [1, 2, 1, 1048576], [2, 2, 0, 0], [1, 0, 0, 7]]
def needsI : List Int := needsL.flatten
def rowD {H : Type} (r : List Int) : DataW H := .agg (r.map fun z => .lit (.int .i64 z))
def needsD {H : Type} : DataW H := .agg (needsL.map rowD)

theorem rows_of_take {α : Type} : ∀ (n : Nat) (cs : List α) (f : Nat → List α), cs.length = n * 4 → (∀ i, i < n → (cs.drop (i * 4)).take 4 = f i) → cs = ((List.range n).map f).flatten
  | 0, cs, f, hl, h => by
    have : cs = [] := List.eq_nil_of_length_eq_zero (by simpa using hl)
    subst this
    rfl
  | n + 1, cs, f, hl, h => by
    have h0 := h 0 (by omega)
    simp only [Nat.zero_mul, List.drop_zero] at h0
    have ih := rows_of_take n (cs.drop 4) (fun i => f (i + 1)) (by rw [List.length_drop]; omega) fun i hi => by
      have := h (i + 1) (by omega)
      rw [List.drop_drop, show 4 + i * 4 = (i + 1) * 4 by omega]
      exact this
    rw [List.range_succ_eq_map, List.map_cons, List.flatten_cons, List.map_map]
    show cs = f 0 ++ ((List.range n).map fun i => f (i + 1)).flatten
    rw [← ih, ← h0, List.take_append_drop]
/-- A struct of four integers of kind i64. -/
def fldsOk (P : Program) (t : TypeId) : Bool := match P.underlying t with
  | some (.struct fs) => fs.size == 4 && (List.range 4).all fun i => match fs[i]? with
    | some f => (match P.underlying f.type with | some (.int .i64) => true | _ => false) && (f.offset == i && P.cellsOf f.type == 1)
    | none => false
  | _ => false
theorem fldsOk_spec {P : Program} {t : TypeId} (h : fldsOk P t = true) : ∃ fs, P.underlying t = some (.struct fs) ∧ fs.size = 4 ∧ ∀ (i : Nat) (f : Field), fs[i]? = some f → P.underlying f.type = some (.int .i64) ∧ f.offset = i ∧ P.cellsOf f.type = 1 := by
  unfold fldsOk at h
  split at h
  · rename_i fs hu
    simp only [Bool.and_eq_true, beq_iff_eq, List.all_eq_true, List.mem_range] at h
    refine ⟨fs, hu, h.1, fun i f hf => ?_⟩
    have hi : i < 4 := by
      have := (Array.getElem?_eq_some_iff.1 hf).1
      omega
    have := h.2 i hi
    rw [hf] at this
    simp only [Bool.and_eq_true, beq_iff_eq] at this
    obtain ⟨a, b, c⟩ := this
    refine ⟨?_, b, c⟩
    split at a
    · assumption
    · cases a
  · cases h
theorem cells_of_needs {P : Program} {w : World} {base : Nat} {sp : Nat → Bool} {held : Bool} {fuel : Nat} {t e : TypeId} {cs : List Value} {p : List MemPlace}
    (ht : P.underlying t = some (.array 11 e)) (hok : fldsOk P e = true) (hce : P.cellsOf e = 4) (hct : P.cellsOf t = 44)
    (h : DataW.trod (fun _ => ()) P w base sp held fuel t cs = some ((needsD : DataW Unit), p)) : cs = needsI.map fun z => Value.int .i64 z := by
  obtain ⟨fs, hu, hs, hf⟩ := fldsOk_spec hok
  have hl : cs.length = 44 := by
    cases fuel with
    | zero => simp [DataW.trod] at h
    | succ fuel =>
      simp only [DataW.trod, ht] at h
      split at h
      · rename_i hl
        rw [hct] at hl
        exact hl
      · cases h
  have hrow : ∀ i, i < 11 → (cs.drop (i * 4)).take 4 = (needsL.getD i []).map fun z => Value.int .i64 z := by
    intro i hi
    obtain ⟨fuel', d, q, hd, htr⟩ := Lib.array_elem ht h i hi
    rw [hce] at htr
    have hd' : d = rowD (needsL.getD i []) := by
      rw [List.getElem?_map] at hd
      have : needsL[i]? = some (needsL.getD i []) := by
        rw [List.getD, List.getElem?_eq_getElem (show i < needsL.length from hi)]
        rfl
      rw [this] at hd
      simpa using hd.symm
    subst hd'
    exact Lib.ints_of_struct hu hf (by rw [hce, hs]) htr
  have := rows_of_take 11 cs _ (by omega) hrow
  rw [this]
  rfl
theorem globOk4 {W : World} (h : laidMet Tryz.prog [("tidemill/expr.kids", Lib.tabData .i64 kidsN), ("tidemill/rec.uses", Lib.tabData .i64 usesN), ("tidemill/topo.needs", needsD)] W) : GlobOk (gl gE) W := by
  have t1 : Lib.TabIs Tryz.prog W "tidemill/expr.kids" .i64 kidsN := Lib.tabIs_of_head (k := .i64) (zs := kidsN) (g := 2) (t := 312) (e := 3) (n := 17) (by kernel_rfl) (by kernel_rfl) (by kernel_rfl) (by kernel_rfl) (by kernel_rfl) (by kernel_rfl) h
  have t3 : Lib.TabIs Tryz.prog W "tidemill/rec.uses" .i64 usesN := Lib.tabIs_of_head (k := .i64) (zs := usesN) (g := 1) (t := 167) (e := 3) (n := 7) (by kernel_rfl) (by kernel_rfl) (by kernel_rfl) (by kernel_rfl) (by kernel_rfl) (by kernel_rfl) (laidMet.tail h)
  have t2 : Lib.TabIs Tryz.prog W "tidemill/topo.needs" .i64 needsI := by
    obtain ⟨ps, ⟨g', t', cs, fuel, p, q, hg', ht', hvar, hd, _, _⟩, _⟩ := laidMet.tail (laidMet.tail h)
    have hg : Tryz.prog.globalNamed "tidemill/topo.needs" = some 0 := by kernel_rfl
    have hty : (Tryz.prog.globals[0]?).map (·.type) = some 129 := by kernel_rfl
    obtain rfl := Option.some.inj (hg.symm.trans hg')
    obtain rfl := Option.some.inj (hty.symm.trans ht')
    unfold Lib.TabIs
    rw [hvar, ← cells_of_needs (e := 128) (by kernel_rfl) (by kernel_rfl) (by kernel_rfl) (by kernel_rfl) hd]
  intro k cs hk
  by_cases c1 : k = 2
  · subst c1
    obtain rfl : kidsN.map (V.int .i64) = cs := Option.some.inj (show some (kidsN.map (V.int .i64)) = some cs from hk)
    exact tab_glob (by kernel_rfl) t1
  by_cases c2 : k = 0
  · subst c2
    obtain rfl : needsI.map (V.int .i64) = cs := Option.some.inj (show some (needsI.map (V.int .i64)) = some cs from hk)
    exact tab_glob (by kernel_rfl) t2
  by_cases c3 : k = 1
  · subst c3
    obtain rfl : usesN.map (V.int .i64) = cs := Option.some.inj (show some (usesN.map (V.int .i64)) = some cs from hk)
    exact tab_glob (by kernel_rfl) t3
  · exfalso
    have : gl gE k = none := by
      unfold gl gE
      simp only [List.find?_cons, List.find?_nil, beq_eq_false_iff_ne.2 (Ne.symm c1), beq_eq_false_iff_ne.2 (Ne.symm c2), beq_eq_false_iff_ne.2 (Ne.symm c3), Option.map_none]
    rw [this] at hk
    cases hk
/-- The law. -/
theorem clusNobody : SCalls Tryz.prog 3 [.agg [.top, .top, .top, .top, .top, .top, .top, .top, .top, .top], .top] (globHeap (gl gE)) fun x _ => x = .bool true := by
  obtain ⟨s, hs⟩ := okB_spec nobodyOk
  exact (run_call hs).2.mono fun x h ⟨h1, _⟩ => h1
theorem top_of {ρ : Ren} {l : List V} {x : Value} (hl : l.length = 10) (h : VRel ρ (.agg l) x) : VRel ρ (.agg [.top, .top, .top, .top, .top, .top, .top, .top, .top, .top]) x := by
  cases h with
  | agg hs hx =>
    refine .agg (by rw [← hs, hl]; rfl) fun k v v' hv hv' => ?_
    have : ∀ y ∈ [V.top, .top, .top, .top, .top, .top, .top, .top, .top, .top], y = .top := by simp
    rw [this v (List.mem_of_getElem? hv)]
    exact .top _
end Go.Proofs.YtfcjehlhoebmnaaGreatDoor.Pk
