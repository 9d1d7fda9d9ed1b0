/-
  What functions of the program do, told of abstract states. Conditions: as each theorem says.
-/
import Derived.Test.YtlbekgogjlchjaaSlX
import Derived.Test.YtlbekgogjlchjaaAbD
import Derived.Test.YtlbekgogjlchjaaAbD
import Derived.Test.YtlbekgogjlchjaaAbD
namespace Go.Proofs.Ytlbekgogjlchjaa.Pk
open Go Go.Proofs Go.Proofs.Ytlbekgogjlchjaa.Ab
set_option linter.unusedVariables false
set_option linter.unusedSimpArgs false
theorem bytes_nat : ∀ {es : List (List V)}, (∀ x ∈ es, Sh.fitsB (.int .u8) x) → ∃ bs : List Nat, es = (bs.map fun n : Nat => [V.int .u8 (n : Int)]) ∧ ∀ b ∈ bs, b < 256
  | [], _ => ⟨[], rfl, by simp⟩
  | e :: es, h => by
    obtain ⟨l, rfl, hl⟩ := bytes_nat (es := es) fun x hx => h x (by simp [hx])
    obtain ⟨n, rfl, hw⟩ := h e (by simp)
    simp only [Lit.wf, Bool.and_eq_true, decide_eq_true_eq] at hw
    have h1 : IntKind.u8.min = 0 := rfl
    have h2 : IntKind.u8.max = 255 := rfl
    refine ⟨n.toNat :: l, ?_, fun b hb => ?_⟩
    · rw [List.map_cons, Int.toNat_of_nonneg (by omega)]
    · rcases List.mem_cons.1 hb with rfl | hb
      · omega
      · exact hl b hb
theorem flat_nat (bs : List Nat) : (bs.map fun n : Nat => [V.int .u8 (n : Int)]).flatten = bytesV bs := by
  induction bs with
  | nil => rfl
  | cons n ns ih => simp [ih, bytesV]
theorem ds_of {e : List V} (h : Sh.fitsB (.cat (.int .i64) (.cat (.int .i64) (.cat (.int .i64) (.cat (.int .i64) (.cat (.int .i64) (.cat (.sl (.int .u8)) .unit)))))) e) : ∃ d : DeedS, e = dsE d ∧ (∀ x ∈ d.b, x < 256) ∧ d.b.length ≤ 2 ^ 47 := by
  obtain ⟨_, _, rfl, ⟨a, rfl, _⟩, _, _, rfl, ⟨b, rfl, _⟩, _, _, rfl, ⟨c, rfl, _⟩, _, _, rfl, ⟨d, rfl, _⟩, _, _, rfl, ⟨e, rfl, _⟩, _, _, rfl, hB, rfl⟩ := h
  obtain ⟨es, rfl, hl, he⟩ := hB
  obtain ⟨bs, rfl, hb⟩ := bytes_nat he
  rw [List.length_map] at hl
  exact ⟨⟨a, b, c, d, e, bs⟩, by rw [List.length_map, flat_nat]; rfl, hb, by simp only; omega⟩
theorem dss_of : ∀ {es : List (List V)}, (∀ x ∈ es, Sh.fitsB (.cat (.int .i64) (.cat (.int .i64) (.cat (.int .i64) (.cat (.int .i64) (.cat (.int .i64) (.cat (.sl (.int .u8)) .unit)))))) x) → ∃ l : List DeedS, es.length = l.length ∧ es.flatten = l.flatMap dsE ∧ ∀ d ∈ l, (∀ x ∈ d.b, x < 256) ∧ d.b.length ≤ 2 ^ 47
  | [], _ => ⟨[], rfl, rfl, by simp⟩
  | e :: es, h => by
    obtain ⟨l, h1, h2, h3⟩ := dss_of (es := es) fun x hx => h x (by simp [hx])
    obtain ⟨c, rfl, hc⟩ := ds_of (h e (by simp))
    exact ⟨c :: l, by simp [h1], by simp [h2], fun d hd => by
      rcases List.mem_cons.1 hd with rfl | hd
      · exact hc
      · exact h3 d hd⟩
end Go.Proofs.Ytlbekgogjlchjaa.Pk
