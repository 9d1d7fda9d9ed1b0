/-
  What functions of the program do, told of abstract states. Conditions: as each theorem says.
-/
import Derived.Test.YtlbekgogjlchjaaSoO
import Derived.Test.YtlbekgogjlchjaaAbD
import Derived.Test.YtlbekgogjlchjaaAbD
import Derived.Test.YtlbekgogjlchjaaAbD
namespace Go.Proofs.Ytlbekgogjlchjaa.Pk
open Go Go.Proofs Go.Proofs.Ytlbekgogjlchjaa.Ab
set_option linter.unusedVariables false
set_option linter.unusedSimpArgs false
theorem bytes_nat : ∀ {es : List (List V)}, (∀ x ∈ es, Sh.fitsB (.int .u8) x) → ∃ bs : List Nat, es = (bs.map fun n : Nat => [V.int .u8 (n : Int)]) ∧ ∀ b ∈ bs, b < 256
  | [], _ => ⟨[], rfl, by simp⟩
  | e :: es, h => by
    obtain ⟨l, rfl, hl⟩ := bytes_nat (es := es) fun x hx => h x (by simp [hx])
    obtain ⟨n, rfl, hw⟩ := h e (by simp)
    simp only [Lit.wf, Bool.and_eq_true, decide_eq_true_eq] at hw
    have h1 : IntKind.u8.min = 0 := rfl
    have h2 : IntKind.u8.max = 255 := rfl
    refine ⟨n.toNat :: l, ?_, fun b hb => ?_⟩
    · rw [List.map_cons, Int.toNat_of_nonneg (by omega)]
    · rcases List.mem_cons.1 hb with rfl | hb
      · omega
      · exact hl b hb
theorem flat_nat (bs : List Nat) : (bs.map fun n : Nat => [V.int .u8 (n : Int)]).flatten = bytesV bs := by
  induction bs with
  | nil => rfl
  | cons n ns ih => simp [ih, bytesV]
theorem bs_of {e : List V} (h : Sh.fitsB (.sl (.int .u8)) e) : ∃ b : List Nat, e = [.imm b.length (bytesV b)] ∧ (∀ x ∈ b, x < 256) ∧ b.length ≤ 2 ^ 47 := by
  obtain ⟨es, rfl, hl, he⟩ := h
  obtain ⟨b, rfl, hb⟩ := bytes_nat he
  rw [List.length_map] at hl
  exact ⟨b, by rw [List.length_map, flat_nat], hb, by omega⟩
theorem brow_of : ∀ {es : List (List V)}, (∀ x ∈ es, Sh.fitsB (.sl (.int .u8)) x) → ∃ l : List (List Nat), es.length = l.length ∧ es.flatten = rowV l ∧ ∀ b ∈ l, (∀ x ∈ b, x < 256) ∧ b.length ≤ 2 ^ 47
  | [], _ => ⟨[], rfl, rfl, by simp⟩
  | e :: es, h => by
    obtain ⟨l, h1, h2, h3⟩ := brow_of (es := es) fun x hx => h x (by simp [hx])
    obtain ⟨c, rfl, hc⟩ := bs_of (h e (by simp))
    exact ⟨c :: l, by simp [h1], by simp [h2, rowV], fun d hd => by
      rcases List.mem_cons.1 hd with rfl | hd
      · exact hc
      · exact h3 d hd⟩
theorem bools_of : ∀ {es : List (List V)}, (∀ x ∈ es, Sh.fitsB .bool x) → ∃ l : List Bool, es.length = l.length ∧ es.flatten = bV l
  | [], _ => ⟨[], rfl, rfl⟩
  | e :: es, h => by
    obtain ⟨l, h1, h2⟩ := bools_of (es := es) fun x hx => h x (by simp [hx])
    obtain ⟨c, rfl⟩ := h e (by simp)
    exact ⟨c :: l, by simp [h1], by simp [h2, bV, boE]⟩
theorem wf_u8n {a : Int} (h : (Lit.int .u8 a).wf = true) : ∃ n : Nat, a = n ∧ n < 256 := by
  simp only [Lit.wf, Bool.and_eq_true, decide_eq_true_eq] at h
  have h1 : IntKind.u8.min = 0 := rfl
  have h2 : IntKind.u8.max = 255 := rfl
  exact ⟨a.toNat, by omega, by omega⟩
theorem dg_of {e : List V} (h : Sh.fitsB (.cat (.int .i64) (.cat (.int .i64) (.cat (.int .i64) (.cat (.int .i64) (.cat (.sl (.int .u8)) (.cat (.sl .bool) .unit)))))) e) : ∃ d : DeedG, e = dgE d ∧ (∀ x ∈ d.b, x < 256) ∧ d.reach.length ≤ 2 ^ 47 := by
  obtain ⟨_, _, rfl, ⟨a, rfl, _⟩, _, _, rfl, ⟨b, rfl, _⟩, _, _, rfl, ⟨c, rfl, _⟩, _, _, rfl, ⟨d, rfl, _⟩, _, _, rfl, hB, _, _, rfl, hR, rfl⟩ := h
  obtain ⟨bs, rfl, hb, _⟩ := bs_of hB
  obtain ⟨es, rfl, hl, he⟩ := hR
  obtain ⟨r, h1, h2⟩ := bools_of he
  refine ⟨⟨a, b, c, d, bs, r⟩, ?_, hb, by simp only; omega⟩
  rw [h1, h2]; rfl
theorem dgs_of : ∀ {es : List (List V)}, (∀ x ∈ es, Sh.fitsB (.cat (.int .i64) (.cat (.int .i64) (.cat (.int .i64) (.cat (.int .i64) (.cat (.sl (.int .u8)) (.cat (.sl .bool) .unit)))))) x) → ∃ l : List DeedG, es.length = l.length ∧ es.flatten = l.flatMap dgE ∧ ∀ d ∈ l, (∀ x ∈ d.b, x < 256) ∧ d.reach.length ≤ 2 ^ 47
  | [], _ => ⟨[], rfl, rfl, by simp⟩
  | e :: es, h => by
    obtain ⟨l, h1, h2, h3⟩ := dgs_of (es := es) fun x hx => h x (by simp [hx])
    obtain ⟨c, rfl, hc⟩ := dg_of (h e (by simp))
    exact ⟨c :: l, by simp [h1], by simp [h2], fun d hd => by
      rcases List.mem_cons.1 hd with rfl | hd
      · exact hc
      · exact h3 d hd⟩
end Go.Proofs.Ytlbekgogjlchjaa.Pk
