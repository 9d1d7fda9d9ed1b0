/-
  What functions of the program do, told of abstract states. Conditions: as each theorem says.
-/
import Derived.Test.YtpmmbcifhallbaaDoorTpZ
namespace Go.Proofs.YtpmmbcifhallbaaDoor.Pk
open Go Go.Proofs Go.Proofs.YtpmmbcifhallbaaDoor.Ab
set_option linter.unusedVariables false
theorem vx_of {l : List V} (h : ShQ.fitsQ QE (.cat (.int .i64) (.cat (.sl (.int .i64)) (.cat (.ext 3) (.cat (.int .i64) .unit)))) l) : ∃ v : Vx, OkX v ∧ l = encX v := by
  obtain ⟨l1, _, rfl, ⟨kind, rfl, wk⟩, l2, _, rfl, ⟨es, rfl, hn, hes⟩, l3, _, rfl, ⟨⟨e, hok, rfl⟩, _⟩, l4, _, rfl, ⟨n, rfl, wn⟩, rfl⟩ := h
  obtain ⟨frm, rfl, hw⟩ := Ab.ints_of (k := .i64) hes
  refine ⟨⟨kind, frm, e, n⟩, ⟨hok, by simpa using hn, Ab.wf_i64 wk, Ab.wf_i64 wn, fun f hf => Ab.wf_i64 (hw f hf)⟩, ?_⟩
  simp only [encX, flat_one, List.length_map, List.append_nil, List.nil_append, List.cons_append, List.append_assoc]
  rfl
theorem topo_of {l : List V} (h : ShQ.fitsQ QE (.cat (.sl (.cat (.int .i64) (.cat (.sl (.int .i64)) (.cat (.ext 3) (.cat (.int .i64) .unit))))) (.cat (.int .i64) .unit)) l) : ∃ (t : List Vx) (p : Int), OkT t ∧ inR p ∧ l = topE t p := by
  obtain ⟨l1, _, rfl, ⟨es, rfl, hn, hes⟩, l2, _, rfl, ⟨p, rfl, wp⟩, rfl⟩ := h
  have : ∃ vs : List Vx, (∀ v ∈ vs, OkX v) ∧ es.length = vs.length ∧ es.flatten = vs.flatMap encX := by
    clear hn
    induction es with
    | nil => exact ⟨[], by simp, rfl, rfl⟩
    | cons a r ih =>
      obtain ⟨vs, h1, h2, h3⟩ := ih fun e he => hes e (by simp [he])
      obtain ⟨v, hv, rfl⟩ := vx_of (hes a (by simp))
      refine ⟨v :: vs, fun x hx => ?_, by simp [h2], by simp [h3]⟩
      rcases List.mem_cons.1 hx with rfl | hx
      · exact hv
      · exact h1 x hx
  obtain ⟨vs, h1, h2, h3⟩ := this
  exact ⟨vs, p, ⟨by omega, h1⟩, Ab.wf_i64 wp, by rw [h2, h3]; rfl⟩
end Go.Proofs.YtpmmbcifhallbaaDoor.Pk
