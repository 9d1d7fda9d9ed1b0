/-
  What functions of the program do, told of abstract states. Conditions: as each theorem says.
-/
import Derived.Test.YtjphnabogfiahaaDoorReL
import Derived.Test.YtjphnabogfiahaaDoorAbD
import Derived.Test.YtjphnabogfiahaaDoorAbD
import Derived.Test.YtjphnabogfiahaaDoorAbD
import Derived.Test.YtjphnabogfiahaaDoorAbD
import Derived.Test.YtjphnabogfiahaaDoorPaJ
namespace Go.Proofs.YtjphnabogfiahaaDoor.Pk
open Go Go.Proofs Go.Proofs.YtjphnabogfiahaaDoor.Ab
set_option linter.unusedVariables false
/-- What the variable holds. -/
def kgl : Nat → Option (List V) := fun k => if k = 0 then some usesC else none
theorem kgOk : KU (globHeap kgl) := rfl
theorem globOk {w : World} {name : String} (hg : Tryd.prog.globalNamed name = some 0) (h : Lib.TabIs Tryd.prog w name .i64 usesN) : GlobOk kgl w := fun k cs hk => by
  unfold kgl at hk
  split at hk
  · rename_i e
    subst e
    obtain rfl := Option.some.inj hk
    exact tab_glob hg h
  · cases hk
theorem list_of {l : List V} (h : Sh.fitsB (.sl (.int .i64)) l) : ∃ m : List Int, (∀ n ∈ m, in64 n) ∧ m.length ≤ 2 ^ 47 ∧ l = [.imm m.length (i64V m)] := by
  obtain ⟨es, rfl, hl, he⟩ := h
  obtain ⟨m, rfl, hw⟩ := ints_of he
  refine ⟨m, fun n hn => wf_i64' (hw n hn), by rw [List.length_map] at hl; omega, ?_⟩
  rw [List.length_map, flat_ints]
  rfl
theorem rcd_of {l : List V} (h : Sh.fitsB (.cat (.int .i64) (.cat (.int .i64) (.cat (.int .i64) .unit))) l) : ∃ r : Rcd, rIn r ∧ l = rcdE r := by
  obtain ⟨_, _, rfl, ⟨a, rfl, wa⟩, _, _, rfl, ⟨b, rfl, wb⟩, _, _, rfl, ⟨c, rfl, wc⟩, rfl⟩ := h
  exact ⟨⟨a, b, c⟩, ⟨wf_i64' wa, wf_i64' wb, wf_i64' wc⟩, rfl⟩
theorem ent_of {l : List V} (h : Sh.fitsB (.cat (.int .i64) (.cat (.int .i64) (.cat (.int .i64) (.cat (.int .i64) (.cat (.int .i64) (.cat (.cat (.int .i64) (.cat (.int .i64) (.cat (.int .i64) .unit))) (.cat .bool (.cat (.sl (.int .i64)) (.cat (.sl (.int .i64)) .unit))))))))) l) :
    ∃ x : Ent, eIn x ∧ eLen x ∧ l = entE x := by
  obtain ⟨_, _, rfl, ⟨a, rfl, wa⟩, _, _, rfl, ⟨b, rfl, wb⟩, _, _, rfl, ⟨c, rfl, wc⟩, _, _, rfl, ⟨d, rfl, wd⟩, _, _, rfl, ⟨e, rfl, we⟩, _, _, rfl, hr, _, _, rfl, ⟨g, rfl⟩, _, _, rfl, ho, _, _, rfl, hq, rfl⟩ := h
  obtain ⟨r, wr, rfl⟩ := rcd_of hr
  obtain ⟨o, wo, lo, rfl⟩ := list_of ho
  obtain ⟨q, wq, lq, rfl⟩ := list_of hq
  exact ⟨⟨a, b, c, d, e, r, g, o, q⟩, ⟨wf_i64' wa, wf_i64' wb, wf_i64' wc, wf_i64' wd, wf_i64' we, wr, wo, wq⟩, ⟨lo, lq⟩, rfl⟩
end Go.Proofs.YtjphnabogfiahaaDoor.Pk
