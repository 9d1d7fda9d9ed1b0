/-
  What functions of the program do, told of abstract states. Conditions: as each theorem says.
-/
import Derived.Test.YtfcjehlhoebmnaaGreatDoorRB
import Derived.Test.YtfcjehlhoebmnaaGreatDoorPC
import Derived.Test.YtfcjehlhoebmnaaGreatDoorEvV
import Derived.Test.YtfcjehlhoebmnaaGreatDoorAbB
import Derived.Lib.LaidTab
import Derived.Lib.LaidU8
import Derived.Stop.LaidErr
namespace Go.Proofs.YtfcjehlhoebmnaaGreatDoor.Pk
open Go Go.Proofs Go.Proofs.YtfcjehlhoebmnaaGreatDoor.Ab
set_option linter.unusedVariables false
set_option linter.unusedSimpArgs false
def kidsE : List Int := [0, 0, 0, 0, 0, 0, 2, 2, 2, 2, 2, 2, 2, 3, 1, 2, 2]
def usesE : List Int := [0, 24, 63, 199, 7, 3, 0]
def needsL : List (List Int) := [[0, 0, 0, 0], [0, 0, 0, 7], [1, 1, 0, 0], [1, 1, 0, 0], [1, 1, 0, 0], [1, 1, 0, 0], [1, 2, 0, 0], [1, 2, 1, 1048576], [1, 2, 1, 1048576], [2, 2, 0, 0], [1, 0, 0, 7]]
def needsI : List Int := needsL.flatten
def rowD {H : Type} (r : List Int) : DataW H := .agg (r.map fun z => .lit (.int .i64 z))
def needsD {H : Type} : DataW H := .agg (needsL.map rowD)
theorem rows_of_take {α : Type} : ∀ (n : Nat) (cs : List α) (f : Nat → List α), cs.length = n * 4 → (∀ i, i < n → (cs.drop (i * 4)).take 4 = f i) → cs = ((List.range n).map f).flatten
 | 0, cs, f, hl, h => by
  have : cs = [] := List.eq_nil_of_length_eq_zero (by simpa using hl)
  subst this
  rfl
 | n + 1, cs, f, hl, h => by
  have h0 := h 0 (by omega)
  simp only [Nat.zero_mul, List.drop_zero] at h0
  have ih := rows_of_take n (cs.drop 4) (fun i => f (i + 1)) (by rw [List.length_drop]; omega) fun i hi => by
   have := h (i + 1) (by omega)
   rw [List.drop_drop, show 4 + i * 4 = (i + 1) * 4 by omega]
   exact this
  rw [List.range_succ_eq_map, List.map_cons, List.flatten_cons, List.map_map]
  show cs = f 0 ++ ((List.range n).map fun i => f (i + 1)).flatten
  rw [← ih, ← h0, List.take_append_drop]
def fldsOk (P : Program) (t : TypeId) : Bool := match P.underlying t with
 | some (.struct fs) => fs.size == 4 && (List.range 4).all fun i => match fs[i]? with
  | some f => (match P.underlying f.type with | some (.int .i64) => true | _ => false) && (f.offset == i && P.cellsOf f.type == 1)
  | none => false
 | _ => false
theorem fldsOk_spec {P : Program} {t : TypeId} (h : fldsOk P t = true) : ∃ fs, P.underlying t = some (.struct fs) ∧ fs.size = 4 ∧ ∀ (i : Nat) (f : Field), fs[i]? = some f → P.underlying f.type = some (.int .i64) ∧ f.offset = i ∧ P.cellsOf f.type = 1 := by
 unfold fldsOk at h
 split at h
 ·rename_i fs hu
  simp only [Bool.and_eq_true, beq_iff_eq, List.all_eq_true, List.mem_range] at h
  refine ⟨fs, hu, h.1, fun i f hf => ?_⟩
  have hi : i < 4 := by
   have := (Array.getElem?_eq_some_iff.1 hf).1
   omega
  have := h.2 i hi
  rw [hf] at this
  simp only [Bool.and_eq_true, beq_iff_eq] at this
  obtain ⟨a, b, c⟩ := this
  refine ⟨?_, b, c⟩
  split at a
  ·assumption
  ·cases a
 ·cases h
theorem cells_of_needs {P : Program} {w : World} {base : Nat} {sp : Nat → Bool} {held : Bool} {fuel : Nat} {t e : TypeId} {cs : List Value} {p : List MemPlace}
  (ht : P.underlying t = some (.array 11 e)) (hok : fldsOk P e = true) (hce : P.cellsOf e = 4) (hct : P.cellsOf t = 44)
  (h : DataW.trod (fun _ => ()) P w base sp held fuel t cs = some ((needsD : DataW Unit), p)) : cs = needsI.map fun z => Value.int .i64 z := by
 obtain ⟨fs, hu, hs, hf⟩ := fldsOk_spec hok
 have hl : cs.length = 44 := by
  cases fuel with
  | zero => simp [DataW.trod] at h
  | succ fuel =>
   simp only [DataW.trod, ht] at h
   split at h
   ·rename_i hl
    rw [hct] at hl
    exact hl
   ·cases h
 have hrow : ∀ i, i < 11 → (cs.drop (i * 4)).take 4 = (needsL.getD i []).map fun z => Value.int .i64 z := by
  intro i hi
  obtain ⟨fuel', d, q, hd, htr⟩ := Lib.array_elem ht h i hi
  rw [hce] at htr
  have hd' : d = rowD (needsL.getD i []) := by
   rw [List.getElem?_map] at hd
   have : needsL[i]? = some (needsL.getD i []) := by
    rw [List.getD, List.getElem?_eq_getElem (show i < needsL.length from hi)]
    all_goals rfl
   rw [this] at hd
   simpa using hd.symm
  subst hd'
  exact Lib.ints_of_struct hu hf (by rw [hce, hs]) htr
 have := rows_of_take 11 cs _ (by omega) hrow
 rw [this]
 all_goals rfl
theorem globOk4 {W : World} (h : laidMet Tryz.prog [("tidemill/expr.kids", Lib.tabData .i64 kidsE), ("tidemill/rec.uses", Lib.tabData .i64 usesE), ("tidemill/topo.needs", needsD)] W) : GlobOk (gl gE) W := by
 have t1 : Lib.TabIs Tryz.prog W "tidemill/expr.kids" .i64 kidsE := Lib.tabIs_of_head (k := .i64) (zs := kidsE) (g := 2) (t := 312) (e := 3) (n := 17) (by kernel_rfl) (by kernel_rfl) (by kernel_rfl) (by kernel_rfl) (by kernel_rfl) (by kernel_rfl) h
 have t3 : Lib.TabIs Tryz.prog W "tidemill/rec.uses" .i64 usesE := Lib.tabIs_of_head (k := .i64) (zs := usesE) (g := 1) (t := 167) (e := 3) (n := 7) (by kernel_rfl) (by kernel_rfl) (by kernel_rfl) (by kernel_rfl) (by kernel_rfl) (by kernel_rfl) (laidMet.tail h)
 have t2 : Lib.TabIs Tryz.prog W "tidemill/topo.needs" .i64 needsI := by
  obtain ⟨ps, ⟨g', t', cs, fuel, p, q, hg', ht', hvar, hd, _, _⟩, _⟩ := laidMet.tail (laidMet.tail h)
  have hg : Tryz.prog.globalNamed "tidemill/topo.needs" = some 0 := by kernel_rfl
  have hty : (Tryz.prog.globals[0]?).map (·.type) = some 129 := by kernel_rfl
  obtain rfl := Option.some.inj (hg.symm.trans hg')
  obtain rfl := Option.some.inj (hty.symm.trans ht')
  unfold Lib.TabIs
  rw [hvar, ← cells_of_needs (e := 128) (by kernel_rfl) (by kernel_rfl) (by kernel_rfl) (by kernel_rfl) hd]
 intro k cs hk
 by_cases c1 : k = 2
 ·subst c1
  obtain rfl : kidsE.map (V.int .i64) = cs := Option.some.inj (show some (kidsE.map (V.int .i64)) = some cs from hk)
  exact tab_glob (by kernel_rfl) t1
 by_cases c2 : k = 0
 ·subst c2
  obtain rfl : needsI.map (V.int .i64) = cs := Option.some.inj (show some (needsI.map (V.int .i64)) = some cs from hk)
  exact tab_glob (by kernel_rfl) t2
 by_cases c3 : k = 1
 ·subst c3
  obtain rfl : usesE.map (V.int .i64) = cs := Option.some.inj (show some (usesE.map (V.int .i64)) = some cs from hk)
  exact tab_glob (by kernel_rfl) t3
 ·exfalso
  have : gl gE k = none := by
   unfold gl gE
   simp only [List.find?_cons, List.find?_nil, beq_eq_false_iff_ne.2 (Ne.symm c1), beq_eq_false_iff_ne.2 (Ne.symm c2), beq_eq_false_iff_ne.2 (Ne.symm c3), Option.map_none]
  rw [this] at hk
  cases hk
theorem vx_of {l : List V} (h : ShQ.fitsQ QE (.cat (.int .i64) (.cat (.sl (.int .i64)) (.cat (.ext 3) (.cat (.int .i64) .unit)))) l) : ∃ v : Vx, OkX v ∧ l = encX v := by
 obtain ⟨l1, _, rfl, ⟨kind, rfl, wk⟩, l2, _, rfl, ⟨es, rfl, hn, hes⟩, l3, _, rfl, ⟨⟨e, hok, rfl⟩, _⟩, l4, _, rfl, ⟨n, rfl, wn⟩, rfl⟩ := h
 obtain ⟨frm, rfl, hw⟩ := Ab.ints_of (k := .i64) hes
 refine ⟨⟨kind, frm, e, n⟩, ⟨hok, by simpa using hn, Ab.wf_i64 wk, Ab.wf_i64 wn, fun f hf => Ab.wf_i64 (hw f hf)⟩, ?_⟩
 simp only [encX, flat_one, List.length_map, List.append_nil, List.nil_append, List.cons_append, List.append_assoc]
 rfl
theorem topo_of {l : List V} (h : ShQ.fitsQ QE (.cat (.sl (.cat (.int .i64) (.cat (.sl (.int .i64)) (.cat (.ext 3) (.cat (.int .i64) .unit))))) (.cat (.int .i64) .unit)) l) : ∃ (t : List Vx) (p : Int), OkT t ∧ inR p ∧ l = topE t p := by
 obtain ⟨l1, _, rfl, ⟨es, rfl, hn, hes⟩, l2, _, rfl, ⟨p, rfl, wp⟩, rfl⟩ := h
 have : ∃ vs : List Vx, (∀ v ∈ vs, OkX v) ∧ es.length = vs.length ∧ es.flatten = vs.flatMap encX := by
  clear hn
  induction es with
  | nil => exact ⟨[], by simp, rfl, rfl⟩
  | cons a r ih =>
   obtain ⟨vs, h1, h2, h3⟩ := ih fun e he => hes e (by simp [he])
   obtain ⟨v, hv, rfl⟩ := vx_of (hes a (by simp))
   refine ⟨v :: vs, fun x hx => ?_, by simp [h2], by simp [h3]⟩
   rcases List.mem_cons.1 hx with rfl | hx
   ·exact hv
   ·exact h1 x hx
 obtain ⟨vs, h1, h2, h3⟩ := this
 exact ⟨vs, p, ⟨by omega, h1⟩, Ab.wf_i64 wp, by rw [h2, h3]; rfl⟩
theorem tgE : TG (globHeap (gl gE)) := ⟨rfl, rfl⟩
theorem topTotalsE (l : List Vx) (p : Int) (hok : OkT l) (bs : List Nat) (hb : ∀ b ∈ bs, b < 256) (hl : bs.length ≤ 2 ^ 47) :
  SCalls Tryz.prog 4 [.imm bs.length (bytesV bs), .agg (topE l p)] (globHeap (gl gE)) (fun r h' => r = .bool true) := topTotals lives0 l p hok bs hb hl _ tgE rfl
end Go.Proofs.YtfcjehlhoebmnaaGreatDoor.Pk
