/-
  What functions of the program do, told of abstract states. Conditions: as each theorem says.
-/
import Derived.Test.YtmgjjhpkhjebbaaQcD
import Derived.Test.YtmgjjhpkhjebbaaQoG
import Derived.Test.YtmgjjhpkhjebbaaAbD
namespace Go.Proofs.Ytmgjjhpkhjebbaa.Pk
open Go Go.Proofs Go.Proofs.Ytmgjjhpkhjebbaa.Ab Go.Sort
set_option linter.unusedVariables false
set_option linter.unusedSimpArgs false
theorem own_oneC {h : AHeap} {e : TypeId} {sz : Nat} {v : V} {cs : List V} (o : Own h e sz v cs) : v.one = true ∧ v.cells = some [v] := by
  rcases o with ⟨rfl | rfl, _⟩ | ⟨i, len, cap, c, ex, rfl, _⟩ <;> exact ⟨rfl, rfl⟩
theorem addNode {H0 h2 h4 : AHeap} {v v13 : V} {rows : List (List Cel)} {l : List Cel} (a2 : Acc H0 h2 39 1 v (rows.flatMap rowE)) (a4 : Acc h2 h4 36 3 v13 (l.flatMap celE)) (hr : rows.length ≤ 2 ^ 30) :
    ∃ v' h5 h7, aAppend Try.prog 37 37 v (.sl h4.n 0 1 1) (h4.push (.cells [v13] 39 none)) = some (v', h5) ∧ Cast .top h5 .top h7 ∧ Acc H0 h7 39 1 v' ((rows ++ [l]).flatMap rowE) := by
  have o4 := a2.own.keepN a4.keep
  obtain ⟨hone, _⟩ := own_oneC a4.own
  obtain ⟨v', h5, ea, o5, kp5, nw5⟩ := append_elemM (P := Try.prog) sl_37 (by decide) o4 (xs := [v13]) rfl (by simp [hone]) (fun m hm => by
    change m * 1 = _ + 1 at hm
    rw [rows_len (sz := 1) rowE_len] at hm
    exact ⟨by simp only [lim]; omega, by simp only [lim]; omega⟩)
  have n02 := a2.keep.n
  have n24 := a4.keep.n
  have hv : ∀ k, idOf v = some k → H0.n ≤ k ∧ k < h2.n := fun k hk => ⟨a2.new k hk, a2.own.lt k hk⟩
  have h13 : ∀ k, idOf v13 = some k → h2.n ≤ k ∧ k < h4.n := fun k hk => ⟨a4.new k hk, a4.own.lt k hk⟩
  have hv' : ∀ k, idOf v' = some k → H0.n ≤ k ∧ (k < h2.n ∨ h4.n ≤ k) := fun k hk => by
    rcases nw5 with e | e
    · have := hv k (e ▸ hk); omega
    · have := e k hk; omega
  obtain ⟨h6, c6, k6⟩ := Cast.own (a4.own.keep kp5 fun k hk e => by have := hv k e; have := h13 k hk; omega) (n := l.length) (rows_len celE_len l) (by decide)
  obtain ⟨h7, c7, o7, k7⟩ := Own.castLast o5 c6 k6 (fun i hi e => by have := hv' i hi; have := h13 i e; omega)
  refine ⟨v', h5, h7, ea, c7, ⟨?_, ?_, fun k hk => (hv' k hk).1⟩⟩
  · rw [List.flatMap_append]
    simpa [rowE] using o7
  · exact (((a2.keep.trans' a4.keep).trans kp5 fun q hq e => by have := hv q e; omega).trans k6 fun q hq e => by have := h13 q e; omega).trans k7 fun q hq e => by have := hv' q e; omega
theorem Cast.topThen {h h2 h3 : AHeap} {v v2 : V} (a : Cast .top h .top h2) (b : Cast v h2 v2 h3) : Cast v h v2 h3 := fun ρ B w0 w r' hw hv => by
  obtain ⟨ρ1, l1, w1, _⟩ := a ρ B w0 w undef hw (.top _)
  obtain ⟨ρ2, l2, w2, v2'⟩ := b ρ1 B w0 w r' w1 (hv.mono l1)
  exact ⟨ρ2, l1.trans l2, w2, v2'⟩
def rowsF (c : Cel) (m : Nat) : Nat → List (List Cel)
  | 0 => []
  | i + 1 => rowsF c m i ++ [if i < m then [c] else []]
theorem rowsF_len (c : Cel) (m : Nat) : ∀ i, (rowsF c m i).length = i
  | 0 => rfl
  | i + 1 => by rw [rowsF, List.length_append, rowsF_len c m i]; rfl
theorem rowsF_mem (c : Cel) (m : Nat) : ∀ i, ∀ r ∈ rowsF c m i, r = [] ∨ r = [c]
  | 0, r, h => by cases h
  | i + 1, r, h => by
    rw [rowsF] at h
    rcases List.mem_append.1 h with h | h
    · exact rowsF_mem c m i r h
    · rw [List.mem_singleton.1 h]; split
      · exact .inr rfl
      · exact .inl rfl
theorem rowsF_flat (c : Cel) (m : Nat) : ∀ i, (rowsF c m i).flatten = List.replicate (min i m) c
  | 0 => by simp [rowsF]
  | i + 1 => by
    rw [rowsF, List.flatten_append, rowsF_flat c m i]
    by_cases h : i < m
    · rw [if_pos h, show min i m = i by omega, show min (i + 1) m = i + 1 by omega, List.replicate_succ']; simp
    · rw [if_neg h, show min i m = m by omega, show min (i + 1) m = m by omega]; simp
theorem rowsF_cnt (c : Cel) (m k : Nat) (hm : m ≤ k) : cntR (rowsF c m k) (rowsF c m k).length = m := by
  unfold cntR
  rw [List.take_length, rowsF_flat, List.length_replicate]
  omega
theorem merge_len {c o : Cel} {m : Nat} (hne : o.at_ ≠ c.at_) {out : List Cel} (w : IsMerge (List.replicate m c ++ [o]) out) : out.length = 1 + min m 1 := by
  have hn : out.Nodup := w.up.imp fun {a b} hab e => by subst e; omega
  have f0 : ∀ m, atOf (List.replicate m c) o.at_ = [] := fun m => by unfold atOf; simp [Ne.symm hne]
  have f1 : ∀ m, atOf (List.replicate m c) c.at_ = List.replicate m c := fun m => by unfold atOf; simp
  have ho : o ∈ out := (w.mem o).2 (by rw [atOf_append, f0]; simp [atOf, bestOf, bestF])
  cases m with
  | zero =>
    have h1 : out.length ≤ [o].length := hn.length_le_of_subset fun x hx => by have := w.sub x hx; simpa using this
    have h2 : 1 ≤ out.length := List.length_pos_of_mem ho
    simp at h1
    simp
    omega
  | succ m =>
    have hcm : c ∈ out := (w.mem c).2 (by
      rw [atOf_append, f1]
      have : atOf [o] c.at_ = [] := by simp [atOf, hne]
      rw [this, List.append_nil]
      exact best_same c m)
    have h1 : out.length ≤ [c, o].length := hn.length_le_of_subset fun x hx => by
      rcases List.mem_append.1 (w.sub x hx) with h | h
      · rw [List.eq_of_mem_replicate h]; simp
      · rw [List.mem_singleton.1 h]; simp
    have hn2 : [c, o].Nodup := by simp; rintro rfl; exact hne rfl
    have h2 : [c, o].length ≤ out.length := hn2.length_le_of_subset fun x hx => by
      simp at hx
      rcases hx with rfl | rfl
      · exact hcm
      · exact ho
    simp at h1 h2
    omega
end Go.Proofs.Ytmgjjhpkhjebbaa.Pk
