/-
  What functions of the program do, told of abstract states. Conditions: as each theorem says.
-/
import Derived.Test.YtpobgoeeljknpaaDoorExM
import Derived.Test.YtpobgoeeljknpaaDoorAbD
import Derived.Test.YtpobgoeeljknpaaDoorAbD
import Derived.Test.YtpobgoeeljknpaaDoorAbD
namespace Go.Proofs.YtpobgoeeljknpaaDoor.Pk
open Go Go.Proofs Go.Proofs.YtpobgoeeljknpaaDoor.Ab
set_option linter.unusedVariables false
set_option linter.unusedSimpArgs false
/-! ### A row of expressions that is cut in front -/
def RowK (h : AHeap) (v : V) (l : List Ex) : Prop := ∃ i o cap c ex, v = .sl i o l.length cap ∧ i < h.n ∧ h.get i = .cells c 25 ex ∧ (c.drop o).take (l.length * 3) = l.flatMap encE ∧ l.length ≤ cap ∧ cap < 2 ^ 63 ∧ o + cap * 3 ≤ c.length
def RowU (h : AHeap) (v : V) (l : List Ex) : Prop := ∃ i, v = .sl i 0 l.length unk ∧ i < h.n ∧ h.get i = .cells (l.flatMap encE) 25 (some 3)
def RowV (h : AHeap) (v : V) (l : List Ex) : Prop := RowK h v l ∨ RowU h v l
theorem RowK.keep {h h' : AHeap} {v : V} {l : List Ex} {own : Nat → Prop} (r : RowK h v l) (k : Keep h h' own) (hn : ∀ j, idOf v = some j → ¬ own j) : RowK h' v l := by
  obtain ⟨i, o, cap, c, ex, rfl, h1, h2, h3⟩ := r
  exact ⟨i, o, cap, c, ex, rfl, Nat.lt_of_lt_of_le h1 k.n, (k.get i h1 (hn i rfl)).trans h2, h3⟩
theorem RowU.keep {h h' : AHeap} {v : V} {l : List Ex} {own : Nat → Prop} (r : RowU h v l) (k : Keep h h' own) (hn : ∀ j, idOf v = some j → ¬ own j) : RowU h' v l := by
  obtain ⟨i, rfl, h1, h2⟩ := r
  exact ⟨i, rfl, Nat.lt_of_lt_of_le h1 k.n, (k.get i h1 (hn i rfl)).trans h2⟩
theorem RowV.keep {h h' : AHeap} {v : V} {l : List Ex} {own : Nat → Prop} (r : RowV h v l) (k : Keep h h' own) (hn : ∀ j, idOf v = some j → ¬ own j) : RowV h' v l := by
  rcases r with r | r
  · exact .inl (r.keep k hn)
  · exact .inr (r.keep k hn)
theorem RowV.lt {h : AHeap} {v : V} {l : List Ex} (r : RowV h v l) : ∀ j, idOf v = some j → j < h.n := fun j hj => by
  rcases r with ⟨i, o, cap, c, ex, rfl, h1, _⟩ | ⟨i, rfl, h1, _⟩ <;> (simp only [idOf, Option.some.injEq] at hj; omega)
theorem rowE_len (l : List Ex) : (l.flatMap encE).length = l.length * 3 := rows_len encE_len l
/-- An element. -/
theorem RowV.ix {h : AHeap} {v : V} {l : List Ex} (r : RowV h v l) {k : Nat} (hk : k < l.length) : ∃ j off q, aIndexAddr Tryd.prog 23 v (.int .i64 (k : Int)) = some (.ptr j off) ∧ idOf v = some j ∧ dropC (h.get j) off = some (encE l[k] ++ q) := by
  have key : ∀ (c : List V) (o : Nat), (c.drop o).take (l.length * 3) = l.flatMap encE → c.drop (o + k * 3) = encE l[k] ++ ((l.drop (k + 1)).flatMap encE ++ c.drop (o + l.length * 3)) := fun c o hc => by
    have h1 : c.drop o = l.flatMap encE ++ c.drop (o + l.length * 3) := by
      rw [← hc, ← List.drop_drop]; exact (List.take_append_drop _ _).symm
    rw [← List.drop_drop, h1, List.drop_append_of_le_length (by rw [rowE_len]; omega), rows_drop encE_len, List.drop_eq_getElem_cons hk, List.flatMap_cons, List.append_assoc]
  rcases r with ⟨i, o, cap, c, ex, rfl, h1, h2, h3, h4, h5, h6⟩ | ⟨i, rfl, h1, h2⟩
  · refine ⟨i, o + k * 3, (l.drop (k + 1)).flatMap encE ++ c.drop (o + l.length * 3), ?_, rfl, ?_⟩
    · rw [aIndexAddr_eq, ss_23, ixGo_sl, if_pos ⟨by omega, by omega⟩, Int.toNat_natCast]
    · rw [h2, dropC_cells, if_pos (by omega), key c o h3]
  · refine ⟨i, 0 + k * 3, (l.drop (k + 1)).flatMap encE ++ (l.flatMap encE).drop (0 + l.length * 3), ?_, rfl, ?_⟩
    · rw [aIndexAddr_eq, ss_23, ixGo_sl, if_pos ⟨by omega, by omega⟩, Int.toNat_natCast]
    · rw [h2, dropC_cells, if_pos (by rw [rowE_len]; omega), key _ 0 (by rw [List.drop_zero, List.take_of_length_le (by rw [rowE_len]; exact Nat.le_refl _)])]
theorem RowV.len {h h' : AHeap} {v : V} {l : List Ex} (r : RowV h v l) : aLen Tryd.prog 23 v h' = some (.int .i64 (l.length : Nat)) := by
  rcases r with ⟨i, o, cap, c, ex, rfl, _⟩ | ⟨i, rfl, _⟩ <;> exact aLen_sl kt_23
set_option maxRecDepth 10000 in
theorem RowK.tail {h : AHeap} {v : V} {x : Ex} {l : List Ex} (r : RowK h v (x :: l)) : ∃ v1, aSlice Tryd.prog 23 v (some (.int .i64 1)) none none = some v1 ∧ RowK h v1 l ∧ idOf v1 = idOf v := by
  obtain ⟨i, o, cap, c, ex, rfl, h1, h2, h3, h4, h5, h6⟩ := r
  simp only [List.length_cons] at h3 h4
  have := slK_from (P := Tryd.prog) (t := 23) (i := i) (o := o) (len := l.length + 1) (cap := cap) (k := .i64) (l := 1) ss_23 (by unfold unk; omega) (by omega) h4
  rw [List.length_cons]
  by_cases hc1 : cap = 1
  · have hl0 : l = [] := List.eq_nil_of_length_eq_zero (by omega)
    subst hl0
    rw [if_pos hc1] at this
    exact ⟨_, this, ⟨i, o, cap - 1, c, ex, by simp, h1, h2, by simp, by simp, by omega, by omega⟩, rfl⟩
  · rw [if_neg hc1] at this
    refine ⟨_, this, ⟨i, o + 1 * 3, cap - 1, c, ex, by rw [Nat.add_sub_cancel], h1, h2, ?_, by omega, by omega, by omega⟩, rfl⟩
    have h33 := congrArg (List.drop 3) h3
    rw [List.flatMap_cons, List.drop_left' (encE_len x), List.drop_take, List.drop_drop] at h33
    rw [← h33]
    congr 1
    omega
set_option maxRecDepth 10000 in
theorem RowV.app {h : AHeap} {v : V} {l : List Ex} (r : RowV h v l) (hl : l.length ≤ 2 ^ 40) (x : Ex) :
    ∃ v' h', aAppend Tryd.prog 23 23 v (.sl h.n 0 1 1) (h.push (.cells (encE x) 25 none)) = some (v', h') ∧ RowV h' v' (l ++ [x]) ∧ Keep h h' (isId v) ∧ (idOf v' = idOf v ∨ ∀ j, idOf v' = some j → h.n ≤ j) := by
  have kp : Keep h (h.push (.cells (encE x) 25 none)) none_ := Keep.push _ _ _
  have oj : Own (h.push (.cells (encE x) 25 none)) 25 3 (.sl h.n 0 1 1) (encE x) := Own.fresh' (encE x) 1 (encE_len x) (by decide)
  have hsrc := own_src (P := Tryd.prog) (t := 23) kt_23 oj (n := 1) (encE_len x) (by decide) (encE_one x)
  obtain ⟨H, hH⟩ : ∃ y, y = h.push (.cells (encE x) 25 none) := ⟨_, rfl⟩
  rw [← hH] at kp hsrc ⊢
  have nH : H.n = h.n + 1 := by rw [hH]; rfl
  obtain ⟨he, hz, hsz, hbs, hzs, _⟩ := slT_eq (P := Tryd.prog) sl_23
  have hlx : ((l ++ [x]).flatMap encE) = l.flatMap encE ++ encE x := by rw [List.flatMap_append]; simp
  have hbd : (l.length + 1) * (SlT.bs ⟨25, [V.int .i64 0, V.int .i64 0, V.snil], 3, 40⟩) ≤ lim ∧ l.length + 1 ≤ lim := ⟨by simp only [lim]; omega, by simp only [lim]; omega⟩
  rcases r with ⟨i, o, cap, c, ex, rfl, h1, h2, h3, h4, h5, h6⟩ | ⟨i, rfl, h1, h2⟩
  · have g2 := (kp.get i h1 (by simp [none_])).trans h2
    by_cases hroom : l.length + 1 ≤ cap
    · refine ⟨.sl i o (l.length + 1) cap, H.set i (.cells (lay c (o + l.length * 3) (encE x)) 25 ex), ?_, .inl ⟨i, o, cap, _, ex, by simp, by rw [set_n]; omega, get_set_same, ?_, by simpa using hroom, h5, ?_⟩, (kp.up).trans (Keep.set _ _ _) fun q hq hh => by subst hh; rfl, .inl rfl⟩
      · unfold aAppend
        simp only [he, hz, hsz, hbs, hsrc, List.length_cons, List.length_nil, if_true, Nat.zero_add, Nat.reduceAdd]
        rw [if_neg (by decide), if_pos ⟨by simp only [lim]; omega, by simp only [lim]; omega⟩]
        simp only [g2]
        rw [if_pos (by unfold unk; omega), if_pos hroom, if_pos (by omega)]
      · rw [hlx, ← h3]
        unfold lay
        have e1 : (c.take (o + l.length * 3)).drop o = (c.drop o).take (l.length * 3) := by rw [List.drop_take]; congr 1; omega
        rw [List.append_assoc, List.drop_append_of_le_length (by rw [List.length_take]; omega), e1, ← List.append_assoc]
        refine List.take_left' ?_
        rw [List.length_append, h3, rowE_len, encE_len, List.length_append, List.length_cons, List.length_nil]
        omega
      · rw [length_lay _ _ _ (by rw [encE_len]; omega)]; exact h6
    · refine ⟨.sl H.n 0 (l.length + 1) unk, H.push (.cells ((c.drop o).take (l.length * 3) ++ encE x) 25 (some 3)), ?_, .inr ⟨H.n, by simp, Nat.lt_succ_self _, by rw [get_push_new, h3, hlx]⟩, kp.up.trans' (Keep.push _ _ _), .inr fun j hj => by simp only [idOf, Option.some.injEq] at hj; omega⟩
      unfold aAppend
      simp only [he, hz, hsz, hbs, hsrc, List.length_cons, List.length_nil, if_true, Nat.zero_add, Nat.reduceAdd]
      rw [if_neg (by decide), if_pos ⟨by simp only [lim]; omega, by simp only [lim]; omega⟩]
      simp only [g2]
      rw [if_pos (by unfold unk; omega), if_neg hroom, if_pos (by omega)]
  · have g2 := (kp.get i h1 (by simp [none_])).trans h2
    refine ⟨.sl H.n 0 (l.length + 1) unk, (H.set i .dead).push (.cells ((l.flatMap encE).take (l.length * 3) ++ encE x) 25 (some 3)), ?_, .inr ⟨H.n, by simp, by rw [push_n, set_n]; omega, ?_⟩, ((kp.up).trans (Keep.set _ _ _) fun q hq hh => by subst hh; rfl).trans' (Keep.push _ _ _), .inr fun j hj => by simp only [idOf, Option.some.injEq] at hj; omega⟩
    · unfold aAppend
      simp only [he, hz, hsz, hbs, hsrc, List.length_cons, List.length_nil, if_true, Nat.zero_add, Nat.reduceAdd]
      rw [if_neg (by decide), if_pos ⟨by simp only [lim]; omega, by simp only [lim]; omega⟩]
      simp only [g2]
      rw [if_neg (by unfold unk; omega), if_pos (by simp; rw [← List.length_flatMap, rowE_len]; exact Nat.le_refl _)]
    · have : (H.set i .dead).n = H.n := rfl
      rw [← this, get_push_new, List.take_of_length_le (by rw [rowE_len]; omega), hlx]
/-- The room of a row made known. -/
theorem RowU.room {h : AHeap} {i C : Nat} {l : List Ex} (h1 : i < h.n) (hC : l.length ≤ C) (hC2 : C < 2 ^ 63) (hl : (l.flatMap encE).length ≤ C * 3) : RowK (h.set i (.cells (l.flatMap encE ++ List.replicate (C * 3 - (l.flatMap encE).length) .top) 25 none)) (.sl i 0 l.length C) l :=
  ⟨i, 0, C, _, none, rfl, by rw [set_n]; exact h1, get_set_same, by rw [List.drop_zero]; exact List.take_left' (rowE_len l), hC, hC2, by rw [List.length_append, List.length_replicate]; omega⟩
theorem CastF.of {h h2 : AHeap} {f : AFrame} (c : Cast .top h .top h2) : CastF f h f h2 := fun ρ B w0 w n a hw hf => by
  obtain ⟨ρ', le, hw', _⟩ := c ρ B w0 w .nilFunc hw (VRel.top _)
  exact ⟨ρ', le, hw', hf.mono le⟩
end Go.Proofs.YtpobgoeeljknpaaDoor.Pk
