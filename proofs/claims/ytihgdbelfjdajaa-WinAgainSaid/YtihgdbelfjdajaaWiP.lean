/-
  What functions of the program do, told of abstract states. Conditions: as each theorem says.
-/
import Derived.Test.YtihgdbelfjdajaaWiO
namespace Go.Proofs.Ytihgdbelfjdajaa.Pk
open Go Go.Proofs Go.Proofs.Ytihgdbelfjdajaa.Ab
set_option linter.unusedVariables false
set_option linter.unusedSimpArgs false
/-! ### Expire for any store -/
def gnW (size before : Int) (e : Nat × (Int × Int) × Int) : Bool := decide (e.2.1.2 + size ≤ before)
def goneW (size : Int) (e : Nat × (Int × Int) × Int) : Chg := ⟨e.2.1.1, e.2.1.2, e.2.1.2 + size, 0, true⟩
def leftW (size before : Int) (l vis : Ent) : Ent := l.filter fun e => !(gnW size before e && (vis.map (·.1)).contains e.1)
theorem kdel_filter : ∀ {l : Ent}, KNodup l → ∀ k, kdel l k = l.filter fun e => decide (e.2.1 ≠ k)
  | [], _, k => rfl
  | e :: l, hn, k => by
    have hn' := List.nodup_cons.1 hn
    unfold kdel
    by_cases hk : k = e.2.1
    · rw [if_pos hk, List.filter_cons_of_neg (by simp [hk])]
      symm
      rw [List.filter_eq_self]
      intro y hy
      simp only [decide_eq_true_eq]
      exact fun hh => hn'.1 (List.mem_map.2 ⟨y, hy, by rw [hh, hk]⟩)
    · rw [if_neg hk, List.filter_cons_of_pos (by simp [Ne.symm hk]), kdel_filter hn'.2]
theorem key_inj : ∀ {q : Ent}, KNodup q → ∀ {x y}, x ∈ q → y ∈ q → x.2.1 = y.2.1 → x = y
  | [], _, x, y, hx, _, _ => by cases hx
  | z :: q, hq, x, y, hx, hy, e => by
    have hq' := List.nodup_cons.1 hq
    rcases List.mem_cons.1 hx with h1 | h1
    · rcases List.mem_cons.1 hy with h2 | h2
      · rw [h1, h2]
      · exact absurd (List.mem_map.2 ⟨y, h2, by rw [← e, h1]⟩) hq'.1
    · rcases List.mem_cons.1 hy with h2 | h2
      · exact absurd (List.mem_map.2 ⟨x, h1, by rw [e, h2]⟩) hq'.1
      · exact key_inj hq'.2 h1 h2 e
theorem cont_snoc {vis : Ent} {x e : Nat × (Int × Int) × Int} (h : e.1 ≠ x.1) : ((vis ++ [x]).map (·.1)).contains e.1 = (vis.map (·.1)).contains e.1 := by
  rw [Bool.eq_iff_iff, List.contains_iff_mem, List.contains_iff_mem, List.map_append, List.mem_append]
  simp [h]
theorem left_gone {size before : Int} {l vis : Ent} {x : Nat × (Int × Int) × Int} (hk : KNodup l) (hs : (l.map (·.1)).Nodup) (hx : x ∈ l) (hg : gnW size before x = true) : kdel (leftW size before l vis) x.2.1 = leftW size before l (vis ++ [x]) := by
  unfold leftW
  rw [kdel_filter (List.Nodup.sublist ((List.filter_sublist).map _) hk), List.filter_filter]
  apply List.filter_congr
  intro e he
  by_cases hex : e = x
  · subst hex; simp [hg]
  · have h1 : e.2.1 ≠ x.2.1 := fun hh => hex (key_inj hk he hx hh)
    have h2 : e.1 ≠ x.1 := fun hh => hex (stamp_inj hs he hx hh)
    rw [cont_snoc h2]
    simp [h1]
theorem left_stay {size before : Int} {l vis : Ent} {x : Nat × (Int × Int) × Int} (hs : (l.map (·.1)).Nodup) (hx : x ∈ l) (hg : gnW size before x = false) : leftW size before l vis = leftW size before l (vis ++ [x]) := by
  unfold leftW
  apply List.filter_congr
  intro e he
  by_cases hex : e = x
  · subst hex; simp [hg]
  · have h2 : e.1 ≠ x.1 := fun hh => hex (stamp_inj hs he hx hh)
    rw [cont_snoc h2]
theorem left_end {size before : Int} {l vis : Ent} (hs : (l.map (·.1)).Nodup) (hall : ∀ e ∈ leftW size before l vis, e.1 ∈ vis.map (·.1)) : leftW size before l vis = l.filter (fun e => !gnW size before e) ∧ ∀ e ∈ l, gnW size before e = true → e.1 ∈ vis.map (·.1) := by
  have h2 : ∀ e ∈ l, gnW size before e = true → e.1 ∈ vis.map (·.1) := fun e he hg => by
    apply Classical.byContradiction
    intro hn
    have hc : (vis.map (·.1)).contains e.1 = false := by simpa using hn
    exact hn (hall e (List.mem_filter.2 ⟨he, by rw [hg, hc]; rfl⟩))
  refine ⟨?_, h2⟩
  unfold leftW
  apply List.filter_congr
  intro e he
  cases hg : gnW size before e
  · rfl
  · have hc : (vis.map (·.1)).contains e.1 = true := by simpa using h2 e he hg
    rw [hc]; rfl
theorem perm_gone {size before : Int} {l vis : Ent} (hs : (l.map (·.1)).Nodup) (hv : (vis.map (·.1)).Nodup) (h1 : ∀ e ∈ vis, e ∈ l) (h2 : ∀ e ∈ l, gnW size before e = true → e.1 ∈ vis.map (·.1)) : (vis.filter (gnW size before)).Perm (l.filter (gnW size before)) := by
  have nl : l.Nodup := (List.pairwise_map.1 hs).imp fun h e => h (by rw [e])
  have nv : vis.Nodup := (List.pairwise_map.1 hv).imp fun h e => h (by rw [e])
  rw [List.perm_ext_iff_of_nodup (nv.sublist List.filter_sublist) (nl.sublist List.filter_sublist)]
  intro a
  simp only [List.mem_filter]
  refine ⟨fun ⟨ha, hg⟩ => ⟨h1 a ha, hg⟩, fun ⟨ha, hg⟩ => ⟨?_, hg⟩⟩
  obtain ⟨b, hb, hab⟩ := List.mem_map.1 (h2 a ha hg)
  rw [← stamp_inj hs (h1 b hb) ha hab]; exact hb
end Go.Proofs.Ytihgdbelfjdajaa.Pk
