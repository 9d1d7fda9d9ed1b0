/-
  What functions of the program do, told of abstract states. Conditions: as each theorem says.
-/
import Derived.Test.YthnleejpeocaeaaDoorFlA
namespace Go.Proofs.YthnleejpeocaeaaDoor.Pk
open Go Go.Proofs Go.Proofs.YthnleejpeocaeaaDoor.Ab
theorem vx_of {l : List V} (h : ShQ.fitsQ QE (.cat (.int .i64) (.cat (.sl (.int .i64)) (.cat (.ext 3) (.cat (.int .i64) .unit)))) l) : ∃ v : Vx, OkE v.e ∧ l = encX v := by
  obtain ⟨l1, _, rfl, ⟨kind, rfl, _⟩, l2, _, rfl, ⟨es, rfl, _, hes⟩, l3, _, rfl, ⟨⟨e, hok, rfl⟩, _⟩, l4, _, rfl, ⟨n, rfl, _⟩, rfl⟩ := h
  obtain ⟨frm, rfl, _⟩ := Ab.ints_of (k := .i64) hes
  refine ⟨⟨kind, frm, e, n⟩, hok, ?_⟩
  simp only [encX, flat_one, List.length_map, List.append_nil, List.nil_append, List.cons_append]
  rfl
theorem rec_of {l : List V} (h : Sh.fitsB (.cat (.int .i64) (.cat (.int .i64) (.cat (.int .i64) .unit))) l) : ∃ r : Rec, (inR r.k ∧ inR r.v ∧ inR r.t) ∧ l = recE r := by
  obtain ⟨l1, _, rfl, ⟨x, rfl, wx⟩, l2, _, rfl, ⟨y, rfl, wy⟩, l3, _, rfl, ⟨z, rfl, wz⟩, rfl⟩ := h
  exact ⟨⟨x, y, z⟩, ⟨Ab.wf_i64 wx, Ab.wf_i64 wy, Ab.wf_i64 wz⟩, rfl⟩
end Go.Proofs.YthnleejpeocaeaaDoor.Pk
