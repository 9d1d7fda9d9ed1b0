/-
  What functions of the program do, told of abstract states. Conditions: as each theorem says.
-/
import Derived.Test.YtjphnabogfiahaaDoorPaM
namespace Go.Proofs.YtjphnabogfiahaaDoor.Pk
open Go Go.Proofs Go.Proofs.YtjphnabogfiahaaDoor.Ab
set_option linter.unusedVariables false
set_option linter.unusedSimpArgs false

theorem RUintOk (p : V) (i : Nat) (n : Nat) (r : List Nat) (h : AHeap) (hr : IsRd h p i (enc n ++ r)) (hn : n < 2 ^ 64) (hb : ∀ b ∈ enc n ++ r, b < 256) (hc : (enc n ++ r).length ≤ 2 ^ 46) :
    SCalls Tryd.prog 49 [p] h (fun v h' => v = .tuple [.int .u64 n, .int .i64 0] ∧ IsRd h' p i r ∧ Keep h h' (· = i)) :=
  (RUint p i _ h hr hb (by omega)).mono fun v h' ⟨e, r', k⟩ => by
    rw [dec_app n hn] at e r'
    simp only [List.drop_left] at r'
    exact ⟨e, r', k⟩
theorem RIntOk (p : V) (i : Nat) (n : Int) (r : List Nat) (h : AHeap) (hr : IsRd h p i (enc (zz n) ++ r)) (hn : -2 ^ 63 ≤ n ∧ n < 2 ^ 63) (hb : ∀ b ∈ enc (zz n) ++ r, b < 256) (hc : (enc (zz n) ++ r).length ≤ 2 ^ 46) :
    SCalls Tryd.prog 43 [p] h (fun v h' => v = .tuple [.int .i64 n, .int .i64 0] ∧ IsRd h' p i r ∧ Keep h h' (· = i)) :=
  (RInt p i _ h hr hb (by omega)).mono fun v h' ⟨e, r', k⟩ => by
    rw [dec_app _ (zz_lt n hn.1 hn.2)] at e r'
    simp only [List.drop_left, unz_zz] at e r'
    exact ⟨e, r', k⟩
theorem RIntsOk (p : V) (i : Nat) (l : List Int) (r : List Nat) (h : AHeap) (hr : IsRd h p i (encInts l ++ r)) (hl : l.length ≤ 2 ^ 40) (h32 : ∀ n ∈ l, -2147483648 ≤ n ∧ n ≤ 2147483647) (hb : ∀ b ∈ encInts l ++ r, b < 256) (hc : (encInts l ++ r).length ≤ 2 ^ 40) :
    SCalls Tryd.prog 50 [p, .int .i64 (l.length : Nat)] h (fun v h' => v = .tuple [.imm l.length (i64V l), .int .i64 0] ∧ IsRd h' p i r ∧ Keep h h' (· = i)) :=
  (RInts p i _ _ h hr hb hc (by omega)).mono fun v h' ⟨e, r', k⟩ => by
    rw [getInts_app l r (by omega) h32] at e r'
    exact ⟨e, r', k⟩
theorem encInts_len (l : List Int) (hl : l.length < 2 ^ 40) (h : ∀ n ∈ l, -2147483648 ≤ n ∧ n ≤ 2147483647) : (encInts l).length ≤ 10 + 10 * l.length := by
  have h1 := enc_flat (l := l) fun n hn => by have := h n hn; omega
  have h2 := (enc_le l.length (by omega)).2
  unfold encInts
  rw [List.length_append]
  omega
theorem encInts_lt (l : List Int) : ∀ b ∈ encInts l, b < 256 := by
  intro b hb
  unfold encInts at hb
  rcases List.mem_append.1 hb with hb | hb
  · exact enc_lt _ _ (Nat.le_refl _) b hb
  · obtain ⟨n, _, hn⟩ := List.mem_flatMap.1 hb
    exact enc_lt _ _ (Nat.le_refl _) b hn
theorem encBytes_lt (x : List Nat) (hx : ∀ b ∈ x, b < 256) : ∀ b ∈ encBytes x, b < 256 := by
  intro b hb
  unfold encBytes at hb
  rcases List.mem_append.1 hb with hb | hb
  · exact enc_lt _ _ (Nat.le_refl _) b hb
  · exact hx b hb

end Go.Proofs.YtjphnabogfiahaaDoor.Pk
