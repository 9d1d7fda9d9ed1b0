/-
  What functions of the program do, told of abstract states. Conditions: as each theorem says.
-/
import Derived.Test.YtcdpepdjeneelaaDoorVtH
import Derived.Test.YtcdpepdjeneelaaDoorAbD
import Derived.Test.YtcdpepdjeneelaaDoorAbD
import Derived.Test.YtcdpepdjeneelaaDoorAbD
import Derived.Test.YtcdpepdjeneelaaDoorAbD
import Derived.Test.YtcdpepdjeneelaaDoorAbD
import Derived.Test.YtcdpepdjeneelaaDoorAbD
import Derived.Test.YtcdpepdjeneelaaDoorAbD
namespace Go.Proofs.YtcdpepdjeneelaaDoor.Pk
open Go Go.Proofs Go.Proofs.YtcdpepdjeneelaaDoor.Ab
set_option linter.unusedVariables false
/-- What the variable holds. -/
def kgl : Nat → Option (List V) := fun k => if k = 0 then some usesC else none
theorem kgOk : KU (globHeap kgl) := rfl
theorem globOk {w : World} {name : String} (hg : Tryd.prog.globalNamed name = some 0) (h : Lib.TabIs Tryd.prog w name .i64 usesN) : GlobOk kgl w := fun k cs hk => by
  unfold kgl at hk
  split at hk
  · rename_i e
    subst e
    obtain rfl := Option.some.inj hk
    exact tab_glob hg h
  · cases hk
theorem flat_i64 (ns : List Int) : (ns.map fun n => [V.int .i64 n]).flatten = i64V ns := by
  induction ns with
  | nil => rfl
  | cons n ns ih => simp [ih, i64V]
theorem list_of {l : List V} (h : Sh.fitsB (.sl (.int .i64)) l) : ∃ m : List Int, (∀ n ∈ m, in64 n) ∧ m.length ≤ 2 ^ 47 ∧ l = [.imm m.length (i64V m)] := by
  obtain ⟨es, rfl, hl, he⟩ := h
  obtain ⟨m, rfl, hw⟩ := ints_of he
  refine ⟨m, fun n hn => Ab.wf_i64 (hw n hn), by rw [List.length_map] at hl; omega, ?_⟩
  rw [List.length_map, flat_i64]
abbrev rcdSh : Sh := .cat (.int .i64) (.cat (.int .i64) (.cat (.int .i64) .unit))
abbrev entSh : Sh := .cat (.int .i64) (.cat (.int .i64) (.cat (.int .i64) (.cat (.int .i64) (.cat (.int .i64) (.cat (.cat (.int .i64) (.cat (.int .i64) (.cat (.int .i64) .unit))) (.cat .bool (.cat (.sl (.int .i64)) (.cat (.sl (.int .i64)) .unit))))))))
theorem rcd_of {l : List V} (h : Sh.fitsB rcdSh l) : ∃ r : Rcd, rIn r ∧ l = rcdE r := by
  obtain ⟨_, _, rfl, ⟨a, rfl, wa⟩, _, _, rfl, ⟨b, rfl, wb⟩, _, _, rfl, ⟨c, rfl, wc⟩, rfl⟩ := h
  exact ⟨⟨a, b, c⟩, ⟨Ab.wf_i64 wa, Ab.wf_i64 wb, Ab.wf_i64 wc⟩, rfl⟩
theorem ent_of {l : List V} (h : Sh.fitsB entSh l) : ∃ x : Ent, eLen x ∧ l = entE x := by
  obtain ⟨_, _, rfl, ⟨a, rfl, wa⟩, _, _, rfl, ⟨b, rfl, wb⟩, _, _, rfl, ⟨c, rfl, wc⟩, _, _, rfl, ⟨d, rfl, wd⟩, _, _, rfl, ⟨e, rfl, we⟩, _, _, rfl, hr, _, _, rfl, ⟨g, rfl⟩, _, _, rfl, ho, _, _, rfl, hq, rfl⟩ := h
  obtain ⟨r, wr, rfl⟩ := rcd_of hr
  obtain ⟨o, wo, lo, rfl⟩ := list_of ho
  obtain ⟨q, wq, lq, rfl⟩ := list_of hq
  exact ⟨⟨a, b, c, d, e, r, g, o, q⟩, ⟨lo, lq⟩, rfl⟩
theorem ents_of : ∀ {es : List (List V)}, (∀ x ∈ es, Sh.fitsB entSh x) → ∃ l : List Ent, es.length = l.length ∧ es.flatten = l.flatMap entE ∧ ∀ x ∈ l, eLen x
  | [], _ => ⟨[], rfl, rfl, by simp⟩
  | e :: es, h => by
    obtain ⟨l, h1, h2, h3⟩ := ents_of (es := es) fun x hx => h x (by simp [hx])
    obtain ⟨c, hc, rfl⟩ := ent_of (h e (by simp))
    exact ⟨c :: l, by simp [h1], by simp [h2], fun d hd => by
      rcases List.mem_cons.1 hd with rfl | hd
      · exact hc
      · exact h3 d hd⟩
theorem rcds_of : ∀ {es : List (List V)}, (∀ x ∈ es, Sh.fitsB rcdSh x) → ∃ l : List Rcd, es.length = l.length ∧ es.flatten = l.flatMap rcdE
  | [], _ => ⟨[], rfl, rfl⟩
  | e :: es, h => by
    obtain ⟨l, h1, h2⟩ := rcds_of (es := es) fun x hx => h x (by simp [hx])
    obtain ⟨c, hc, rfl⟩ := rcd_of (h e (by simp))
    exact ⟨c :: l, by simp [h1], by simp [h2]⟩
theorem flat_u8 (ns : List Int) : (ns.map fun n => [V.int .u8 n]).flatten = ns.map (V.int .u8) := by
  induction ns with
  | nil => rfl
  | cons n ns ih => simp [ih]
theorem u8s_of {es : List (List V)} (h : ∀ x ∈ es, Sh.fitsB (.int .u8) x) : ∃ l : List Int, es.length = l.length ∧ es.flatten = l.map (V.int .u8) ∧ ∀ n ∈ l, 0 ≤ n ∧ n < 256 := by
  obtain ⟨m, rfl, hw⟩ := ints_of h
  refine ⟨m, by simp, flat_u8 m, fun n hn => ?_⟩
  have := hw n hn
  simp only [Lit.wf, Bool.and_eq_true, decide_eq_true_eq] at this
  have h1 : IntKind.u8.min = 0 := rfl
  have h2 : IntKind.u8.max = 255 := rfl
  omega
end Go.Proofs.YtcdpepdjeneelaaDoor.Pk
