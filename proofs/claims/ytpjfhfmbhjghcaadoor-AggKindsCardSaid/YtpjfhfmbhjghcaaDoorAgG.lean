/-
  What functions of the program do, told of abstract states. Conditions: as each theorem says.
-/
import Derived.Test.YtpjfhfmbhjghcaaDoorMeA
import Derived.Test.YtpjfhfmbhjghcaaDoorAbD
import Derived.Test.YtpjfhfmbhjghcaaDoorAbD
import Derived.Test.YtpjfhfmbhjghcaaDoorAbD
import Derived.Test.YtpjfhfmbhjghcaaDoorAbD
namespace Go.Proofs.YtpjfhfmbhjghcaaDoor.Pk
open Go Go.Proofs Go.Proofs.YtpjfhfmbhjghcaaDoor.Ab
/-- What the variables hold. -/
def kgl : Nat → Option (List V) := fun k => if k = 0 then some kidsC else none
theorem kgOk : KG (globHeap kgl) := rfl
theorem globOk {w : World} {name : String} (hg : Tryd.prog.globalNamed name = some 0) (h : Lib.TabIs Tryd.prog w name .i64 kidsN) : GlobOk kgl w := fun k cs hk => by
  unfold kgl at hk
  split at hk
  · rename_i e
    subst e
    obtain rfl := Option.some.inj hk
    exact tab_glob hg h
  · cases hk
theorem rec_of {e : List V} (h : Sh.fitsB (.cat (.int .i64) (.cat (.int .i64) (.cat (.int .i64) .unit))) e) : ∃ c : Rec, e = recE c := by
  obtain ⟨l1, _, rfl, ⟨a, rfl, _⟩, l2, _, rfl, ⟨b, rfl, _⟩, l3, _, rfl, ⟨c, rfl, _⟩, rfl⟩ := h
  exact ⟨⟨a, b, c⟩, rfl⟩
theorem map_of {α : Type} {s : Sh} {enc : α → List V} (hs : ∀ e, s.fitsB e → ∃ c, e = enc c) : ∀ {es : List (List V)}, (∀ x ∈ es, s.fitsB x) → ∃ l : List α, es.length = l.length ∧ es.flatten = l.flatMap enc
  | [], _ => ⟨[], rfl, rfl⟩
  | e :: es, h => by
    obtain ⟨l, h1, h2⟩ := map_of hs (es := es) fun x hx => h x (by simp [hx])
    obtain ⟨c, rfl⟩ := hs e (h _ (by simp))
    exact ⟨c :: l, by simp [h1], by simp [h2]⟩
end Go.Proofs.YtpjfhfmbhjghcaaDoor.Pk
