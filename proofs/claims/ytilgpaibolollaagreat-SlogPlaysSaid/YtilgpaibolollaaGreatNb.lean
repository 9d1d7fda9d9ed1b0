/-
  What functions of the program do, told of abstract states. Conditions: as each theorem says.
-/
import Derived.Test.YtilgpaibolollaaGreatNa
import Derived.Test.YtilgpaibolollaaGreatAcD
namespace Go.Proofs.YtilgpaibolollaaGreat.Pk
open Go Go.Proofs Go.Proofs.YtilgpaibolollaaGreat.Ab
set_option maxRecDepth 10000
set_option linter.unusedVariables false
set_option linter.unusedSimpArgs false
/-! ### All frames from the beginning on -/
def scanF : Nat → List Nat → List (List Nat) × Nat
  | 0, _ => ([], 0)
  | k + 1, b => if b = [] ∨ (openC b).2.2 ≠ 0 then ([], 0) else ((openC b).1 :: (scanF k (b.drop (openC b).2.1)).1, (openC b).2.1 + (scanF k (b.drop (openC b).2.1)).2)
def rowV (l : List (List Nat)) : List V := l.map fun p => .imm p.length (bytesV p)
theorem rowV_clo (l : List (List Nat)) : CloL (rowV l) := CloL.map fun p _ => Clo.imm (bytesV_clo p)
theorem rowV_len (l : List (List Nat)) : (rowV l).length = l.length := by simp [rowV]
theorem rowV_app (a b : List (List Nat)) : rowV (a ++ b) = rowV a ++ rowV b := by simp [rowV]
theorem openC_ok (b : List Nat) (h : (openC b).2.2 = 0) : 4 ≤ (openC b).2.1 ∧ (openC b).2.1 ≤ b.length := by
  unfold openC at *
  by_cases h1 : (dec (b.take 10) 0 0).2.2 ≠ 0
  · rw [if_pos h1] at h
    exact absurd h h1
  rw [if_neg h1] at h ⊢
  by_cases h2 : 4096 < (dec (b.take 10) 0 0).1
  · rw [if_pos h2] at h
    exact absurd h (by decide)
  rw [if_neg h2] at h ⊢
  by_cases h3 : b.length < (dec (b.take 10) 0 0).2.1 + (dec (b.take 10) 0 0).1 + 4
  · rw [if_pos h3] at h
    exact absurd h (by decide)
  rw [if_neg h3] at h ⊢
  split at h
  · rename_i h4
    rw [if_pos h4]
    exact ⟨by simp only; omega, by simp only; omega⟩
  · exact absurd h (by decide)
theorem lit1r (h : AHeap) (n : Nat) (cs : List V) : aBuildSlice Tryz.prog 73 1 [(0, .imm n cs)] h = some (.sl h.n 0 1 1, h.push (.cells [.imm n cs] 29 none)) := by
  rw [buildSlice_go sl_73]
  rfl
set_option maxRecDepth 10000 in
theorem Scan (b : List Nat) (h : AHeap) (hb : ∀ x ∈ b, x < 256) (hl : b.length ≤ 2 ^ 30) : SCalls Tryz.prog 105 [.imm b.length (bytesV b)] h (fun r h' => ∃ v, r = .tuple [v, .int .i64 ((scanF b.length b).2 : Nat)] ∧ Acc h h' 29 1 v (rowV (scanF b.length b).1)) := by
  refine SCalls.enterI (c := _) Tryz.func105 rfl (by kernel_rfl) (by simp) ?_
  simp only [bW]
  refine SWp.scopeG (α := Unit) (l := 0) rfl (fun _ _ _ => False) (fun _ => 0) (fun _ _ _ hF => hF.elim) (fun _ _ _ hF => hF.elim) fun _ => ?_
  refine wpI_sound (by kernel_rfl) ?_
  simp only [bW]
  refine SWp.loopG (α := Nat × List (List Nat) × Nat × V) (fun x f h' => f 0 = .imm b.length (bytesV b) ∧ f 4 = x.2.2.2 ∧ f 5 = .int .i64 (x.2.2.1 : Nat) ∧ x.2.2.1 ≤ b.length ∧ x.2.1.length ≤ x.2.2.1 ∧ b.length - x.2.2.1 ≤ x.1 ∧ Acc h h' 29 1 x.2.2.2 (rowV x.2.1) ∧
    x.2.1 ++ (scanF x.1 (b.drop x.2.2.1)).1 = (scanF b.length b).1 ∧ x.2.2.1 + (scanF x.1 (b.drop x.2.2.1)).2 = (scanF b.length b).2) (fun x => x.1) (b.length, [], 0, .snil)
    ⟨rfl, rfl, rfl, Nat.zero_le _, Nat.le_refl _, Nat.le_refl _, Acc.nil (Keep.refl _ _), by simp, by simp⟩ ?_
  rintro ⟨k, acc, at_, v⟩ f h1 ⟨f0, f4, f5, hat, hal, hk, a1, hS1, hS2⟩
  simp only at f0 f4 f5 hat hal hk a1 hS1 hS2
  refine wpI_sound (by kernel_rfl) ?_
  have fin : Acc h h1 29 1 v (rowV acc) → (scanF k (b.drop at_)) = ([], 0) → ∃ v2, V.tuple [v, .int .i64 (at_ : Nat)] = .tuple [v2, .int .i64 ((scanF b.length b).2 : Nat)] ∧ Acc h h1 29 1 v2 (rowV (scanF b.length b).1) := fun a1 hz => by
    rw [hz] at hS1 hS2
    simp only [List.append_nil, Nat.add_zero] at hS1 hS2
    rw [← hS1, ← hS2]
    exact ⟨v, rfl, a1⟩
  by_cases hlt : at_ < b.length
  · have d1 : decide ((at_ : Int) < ((b.length : Nat) : Int)) = true := by rw [decide_eq_true_iff]; omega
    have hsl := slice_from b at_ (by omega) (kk := .i64)
    obtain ⟨k', rfl⟩ : ∃ k', k = k' + 1 := ⟨k - 1, by omega⟩
    have hne : b.drop at_ ≠ [] := fun hh => by
      have := congrArg List.length hh
      rw [List.length_drop, List.length_nil] at this
      omega
    simp only [bW, Nat.reduceEqDiff, reduceCtorEq, kt_29, f0, f5, d1, hsl]
    refine callI_pure cal121 (Open (b.drop at_) h1 (fun x hx => hb x (List.mem_of_mem_drop hx)) (by rw [List.length_drop]; omega)) ?_
    have hok := openC_ok (b.drop at_)
    have hF : scanF (k' + 1) (b.drop at_) = if b.drop at_ = [] ∨ (openC (b.drop at_)).2.2 ≠ 0 then ([], 0) else ((openC (b.drop at_)).1 :: (scanF k' ((b.drop at_).drop (openC (b.drop at_)).2.1)).1, (openC (b.drop at_)).2.1 + (scanF k' ((b.drop at_).drop (openC (b.drop at_)).2.1)).2) := rfl
    rw [List.length_drop] at hok
    generalize openC (b.drop at_) = O at hok hF ⊢
    obtain ⟨pay, len, err⟩ := O
    simp only at hok hF
    by_cases herr : err = 0
    · obtain ⟨hlo, hhi⟩ := hok herr
      subst herr
      rw [if_neg (by simp [hne]), List.drop_drop] at hF
      have d2 : ((0 : Int) != 0) = false := rfl
      have hw : IntKind.i64.wrap ((at_ : Int) + (len : Int)) = ((at_ + len : Nat) : Int) := by rw [Go.IntWalk.i64_in _ (by omega)]; omega
      have hl1 := lit1r h1 pay.length (bytesV pay)
      obtain ⟨v2, h2, e2, a2⟩ := a1.elem (P := Tryz.prog) sl_73 (by decide) (xs := [.imm pay.length (bytesV pay)]) rfl rfl (by simp only [rowV_len, lim]; omega) (by simp only [rowV_len, lim]; omega)
      have hov : openV (pay, len, 0) = .tuple [.imm pay.length (bytesV pay), .int .i64 (len : Nat), .int .i64 0] := rfl
      simp only [bW, hov, Nat.reduceEqDiff, f4, f5, hl1, e2, hw]
      rw [hF] at hS1 hS2
      refine hid_mk ⟨(k', acc ++ [pay], at_ + len, v2), ⟨f0, rfl, rfl, by simp only; omega, by simp only [List.length_append, List.length_cons, List.length_nil]; omega, by simp only; omega, ?_, ?_, ?_⟩, by simp only; omega⟩
      · rw [rowV_app]; exact a2
      · rw [← hS1]; simp [List.append_assoc]
      · rw [← hS2]; simp only; omega
    · have d2 : ((err : Int) != 0) = true := by simp; omega
      have hov : openV (pay, len, err) = .tuple [.snil, .int .i64 0, .int .i64 (err : Nat)] := by simp [openV, herr]
      rw [if_pos (.inr herr)] at hF
      simp only [bW, hov, Nat.reduceEqDiff, reduceCtorEq, f4, f5, d2]
      exact hid_mk (fin a1 hF)
  · have d1 : decide ((at_ : Int) < ((b.length : Nat) : Int)) = false := by rw [decide_eq_false_iff_not]; omega
    have hz : scanF k (b.drop at_) = ([], 0) := by
      rw [List.drop_of_length_le (by omega)]
      cases k with
      | zero => rfl
      | succ k => simp [scanF]
    simp only [bW, Nat.reduceEqDiff, reduceCtorEq, kt_29, f0, f4, f5, d1]
    exact hid_mk (fin a1 hz)
end Go.Proofs.YtilgpaibolollaaGreat.Pk
namespace Go.Proofs.YtilgpaibolollaaGreat.Pk
open Go Go.Proofs Go.Proofs.YtilgpaibolollaaGreat.Ab
set_option linter.unusedVariables false
/-! ### The checksum, bit by bit and byte by byte: the same numbers (pure) -/
theorem xrc (a b c : Nat) : (a ^^^ b) ^^^ c = (a ^^^ c) ^^^ b := by rw [Nat.xor_assoc, Nat.xor_comm b c, Nat.xor_assoc]
def polyN : Nat := 2197175160
def tN (x : Nat) : Nat := if x % 2 = 0 then x / 2 else (x / 2) ^^^ polyN
def tNs : Nat → Nat → Nat
  | 0, x => x
  | k + 1, x => tN (tNs k x)
def rb (w c : Nat) : Nat := if w % 2 = c % 2 then w / 2 else (w / 2) ^^^ polyN
def rbs : Nat → Nat → Nat → Nat
  | 0, w, _ => w
  | k + 1, w, c => rb (rbs k w c) (c / 2 ^ k)
theorem xor_mod2 (a b : Nat) : (a ^^^ b) % 2 = (a % 2) ^^^ (b % 2) := by
  have := Nat.xor_mod_two_pow (a := a) (b := b) (n := 1)
  simpa using this
theorem xor_div2 (a b : Nat) : (a ^^^ b) / 2 = (a / 2) ^^^ (b / 2) := by
  have := Nat.xor_div_two_pow (a := a) (b := b) (n := 1)
  simpa using this
theorem xor_even (a b : Nat) : (a ^^^ b) % 2 = 0 ↔ a % 2 = b % 2 := by
  rw [xor_mod2]
  have h1 : a % 2 = 0 ∨ a % 2 = 1 := by omega
  have h2 : b % 2 = 0 ∨ b % 2 = 1 := by omega
  rcases h1 with h1 | h1 <;> rcases h2 with h2 | h2 <;> rw [h1, h2] <;> decide
theorem rb_tN (w c : Nat) : rb w c ^^^ (c / 2) = tN (w ^^^ c) := by
  unfold rb tN
  by_cases h : w % 2 = c % 2
  · rw [if_pos h, if_pos ((xor_even w c).mpr h), xor_div2]
  · rw [if_neg h, if_neg (fun h' => h ((xor_even w c).mp h')), xor_div2, xrc]
theorem rbs_tNs (k w c : Nat) : rbs k w c ^^^ (c / 2 ^ k) = tNs k (w ^^^ c) := by
  induction k with
  | zero => simp [rbs, tNs]
  | succ k ih =>
    have e : c / 2 ^ (k + 1) = (c / 2 ^ k) / 2 := by rw [Nat.div_div_eq_div_mul, Nat.pow_succ]
    rw [rbs, tNs, e, rb_tN, ih]
theorem tN_xor (a b : Nat) (hb : b % 2 = 0) : tN (a ^^^ b) = tN a ^^^ (b / 2) := by
  unfold tN
  by_cases h : a % 2 = 0
  · rw [if_pos h, if_pos ((xor_even a b).mpr (by omega)), xor_div2]
  · rw [if_neg h, if_neg (fun h' => h (((xor_even a b).mp h').trans hb)), xor_div2, xrc]
theorem tNs_xor (k j a b : Nat) : tNs k (a ^^^ (b * 2 ^ (k + j))) = tNs k a ^^^ (b * 2 ^ j) := by
  induction k generalizing j with
  | zero => simp [tNs]
  | succ k ih =>
    have e : k + 1 + j = k + (j + 1) := by omega
    rw [tNs, tNs, e, ih (j + 1), tN_xor _ _ (by rw [Nat.pow_succ, ← Nat.mul_assoc]; omega), Nat.pow_succ, ← Nat.mul_assoc, Nat.mul_div_cancel _ (by decide)]
theorem split8 (r : Nat) : r = (r % 256) ^^^ (r / 256 * 256) := by
  have h : r % 256 + r / 256 * 256 = r := by omega
  have := Nat.two_pow_add_eq_or_of_lt (i := 8) (b := r % 256) (by omega) (r / 256)
  apply Nat.eq_of_testBit_eq
  intro i
  rw [Nat.testBit_xor]
  have e1 : r % 256 = r % 2 ^ 8 := rfl
  have e2 : r / 256 * 256 = (r / 2 ^ 8) * 2 ^ 8 := rfl
  rw [e1, e2, Nat.testBit_mod_two_pow, Nat.testBit_mul_two_pow, Nat.testBit_div_two_pow]
  by_cases hi : i < 8
  · simp [hi, show ¬ 8 ≤ i by omega]
  · simp [hi, show 8 ≤ i by omega, show i - 8 + 8 = i by omega]
/-- Eight bits of the definition are one byte of the table's way. -/
theorem byte_step (r c : Nat) (hc : c < 256) : rbs 8 r c = (r / 256) ^^^ tNs 8 ((r % 256) ^^^ c) := by
  have h := rbs_tNs 8 r c
  rw [show c / 2 ^ 8 = 0 by rw [Nat.div_eq_of_lt]; exact hc, Nat.xor_zero] at h
  have e : r ^^^ c = ((r % 256) ^^^ c) ^^^ (r / 256 * 2 ^ (8 + 0)) := by
    conv => lhs; rw [split8 r]
    rw [xrc]
  rw [h, e, tNs_xor 8 0, Nat.xor_comm]
  simp

/-! ### The program's numbers -/
theorem wrap32 (a : Nat) (ha : a < 2 ^ 32) : IntKind.u32.wrap (a : Int) = (a : Int) := by
  unfold IntKind.wrap
  simp [IntKind.signed, IntKind.bits]
  omega
theorem ofInt32 (a : Nat) (ha : a < 2 ^ 32) : (BitVec.ofInt IntKind.u32.bits (a : Int)).toNat = a := by
  show (BitVec.ofInt 32 (a : Int)).toNat = a
  rw [BitVec.ofInt_natCast, BitVec.toNat_ofNat, Nat.mod_eq_of_lt ha]
theorem bXor32 (a b : Nat) (ha : a < 2 ^ 32) (hb : b < 2 ^ 32) : bXor .u32 (a : Int) (b : Int) = ((a ^^^ b : Nat) : Int) := by
  unfold bXor
  rw [BitVec.toNat_xor, ofInt32 a ha, ofInt32 b hb, wrap32 _ (Nat.xor_lt_two_pow ha hb)]
theorem bAnd32 (a : Nat) (ha : a < 2 ^ 32) : bAnd .u32 (a : Int) 1 = ((a % 2 : Nat) : Int) := by
  unfold bAnd
  rw [BitVec.toNat_and, ofInt32 a ha, show (BitVec.ofInt IntKind.u32.bits 1).toNat = 1 from rfl, Nat.and_one_is_mod, wrap32 _ (by omega)]
theorem tN_lt (x : Nat) (hx : x < 2 ^ 32) : tN x < 2 ^ 32 := by
  unfold tN
  split
  · omega
  · exact Nat.xor_lt_two_pow (by omega) (by decide)
theorem tNs_lt (k x : Nat) (hx : x < 2 ^ 32) : tNs k x < 2 ^ 32 := by
  induction k with
  | zero => exact hx
  | succ k ih => exact tN_lt _ ih
end Go.Proofs.YtilgpaibolollaaGreat.Pk
namespace Go.Proofs.YtilgpaibolollaaGreat.Pk
open Go Go.Proofs Go.Proofs.YtilgpaibolollaaGreat.Ab
set_option linter.unusedVariables false
/-! ### The checksum by the definition (bit by bit) is the program's -/
theorem entS_nat (x : Nat) (hx : x < 2 ^ 32) : entS (x : Int) = ((tN x : Nat) : Int) := by
  have e : (x : Int).fdiv (2 ^ (min (Int.toNat 1) IntKind.u32.bits)) = ((x / 2 : Nat) : Int) := by
    rw [show (2 : Int) ^ min (Int.toNat 1) IntKind.u32.bits = 2 by decide, Int.fdiv_eq_ediv_of_nonneg _ (by decide)]
    omega
  unfold entS tN
  rw [bAnd32 x hx, e]
  by_cases h : x % 2 = 0
  · rw [if_pos h, if_pos (by omega)]
  · rw [if_neg h, if_neg (by omega), show (2197175160 : Int) = ((polyN : Nat) : Int) from rfl, bXor32 _ _ (by omega) (by decide)]
theorem entF_nat (k x : Nat) (hx : x < 2 ^ 32) : entF (x : Int) k = ((tNs k x : Nat) : Int) := by
  induction k with
  | zero => rfl
  | succ k ih => rw [entF, ih, entS_nat _ (tNs_lt k x hx), tNs]
theorem bXor8 (a b : Nat) (ha : a < 256) (hb : b < 256) : bXor .u8 (a : Int) (b : Int) = ((a ^^^ b : Nat) : Int) := by
  unfold bXor
  have e : ∀ a : Nat, a < 256 → (BitVec.ofInt IntKind.u8.bits (a : Int)).toNat = a := by
    intro a ha
    show (BitVec.ofInt 8 (a : Int)).toNat = a
    rw [BitVec.ofInt_natCast, BitVec.toNat_ofNat, Nat.mod_eq_of_lt ha]
  rw [BitVec.toNat_xor, e a ha, e b hb]
  have := Nat.xor_lt_two_pow (n := 8) ha hb
  unfold IntKind.wrap
  simp [IntKind.signed, IntKind.bits]
  omega
theorem crcS_nat (r c : Nat) (hr : r < 2 ^ 32) (hc : c < 256) : crcS (r : Int) (c : Int) = ((rbs 8 r c : Nat) : Int) := by
  have e : (r : Int).fdiv (2 ^ (min (Int.toNat 8) IntKind.u32.bits)) = ((r / 256 : Nat) : Int) := by
    rw [show (2 : Int) ^ min (Int.toNat 8) IntKind.u32.bits = 256 by decide, Int.fdiv_eq_ediv_of_nonneg _ (by decide)]
    omega
  have w8 : IntKind.u8.wrap (r : Int) = ((r % 256 : Nat) : Int) := by
    unfold IntKind.wrap
    simp [IntKind.signed, IntKind.bits]
  have hx : (r % 256) ^^^ c < 256 := Nat.xor_lt_two_pow (n := 8) (by omega) hc
  unfold crcS
  rw [e, w8, bXor8 _ _ (by omega) hc, wrap32 _ (by omega), entF_nat _ _ (by omega), bXor32 _ _ (by omega) (tNs_lt _ _ (by omega)), byte_step r c hc]
theorem rb_lt (w c : Nat) (hw : w < 2 ^ 32) : rb w c < 2 ^ 32 := by
  unfold rb
  split
  · omega
  · exact Nat.xor_lt_two_pow (by omega) (by decide)
theorem rbs_lt (k w c : Nat) (hw : w < 2 ^ 32) : rbs k w c < 2 ^ 32 := by
  induction k with
  | zero => exact hw
  | succ k ih => exact rb_lt _ _ ih
/-- The definition's register after the bytes. -/
def refN (l : List Nat) : Nat := l.foldl (fun w c => rbs 8 w c) 4294967295
theorem refN_snoc (l : List Nat) (c : Nat) : refN (l ++ [c]) = rbs 8 (refN l) c := by
  unfold refN
  rw [List.foldl_append]
  rfl
theorem refN_lt (l : List Nat) : refN l < 2 ^ 32 := by
  unfold refN
  generalize h : (4294967295 : Nat) = w
  have hw : w < 2 ^ 32 := by omega
  clear h
  induction l generalizing w with
  | nil => exact hw
  | cons c l ih => exact ih _ (rbs_lt 8 w c hw)
theorem crcN_ref (l : List Nat) (hl : ∀ c ∈ l, c < 256) : crcN l = ((refN l : Nat) : Int) := by
  unfold crcN refN
  rw [show (4294967295 : Int) = ((4294967295 : Nat) : Int) from rfl]
  generalize h : (4294967295 : Nat) = w
  have hw : w < 2 ^ 32 := by omega
  clear h
  induction l generalizing w with
  | nil => rfl
  | cons c l ih =>
    rw [List.foldl_cons, List.foldl_cons, crcS_nat w c hw (hl c (by simp))]
    exact ih (fun c hc => hl c (List.mem_cons_of_mem _ hc)) _ (rbs_lt 8 w c hw)
/-- The program's checksum is the definition's. -/
theorem crcF_ref (l : List Nat) (hl : ∀ c ∈ l, c < 256) : crcF l = ((4294967295 - refN l : Nat) : Int) := by
  have h := refN_lt l
  unfold crcF
  rw [crcN_ref l hl]
  show bXor .u32 (IntKind.u32.max) _ = _
  rw [show IntKind.u32.max = ((4294967295 : Nat) : Int) from rfl, bXor32 _ _ (by decide) h, Int.natCast_inj]
  have e : (BitVec.ofNat 32 (refN l) ^^^ BitVec.allOnes 32).toNat = 4294967295 - refN l := by
    rw [BitVec.xor_allOnes, BitVec.toNat_not, BitVec.toNat_ofNat, Nat.mod_eq_of_lt h]
  rw [BitVec.toNat_xor, BitVec.toNat_ofNat, Nat.mod_eq_of_lt h, BitVec.toNat_allOnes] at e
  rw [← e, Nat.xor_comm]
end Go.Proofs.YtilgpaibolollaaGreat.Pk
namespace Go.Proofs.YtilgpaibolollaaGreat.Pk
open Go Go.Proofs Go.Proofs.YtilgpaibolollaaGreat.Ab
set_option maxRecDepth 10000
set_option linter.unusedVariables false
set_option linter.unusedSimpArgs false
/-! ### Layer 2 of the reference -/
theorem bytes_ixB {bs : List Nat} {k : Nat} (hk : k < bs.length) {kk : IntKind} : aIndexAddr Tryz.prog 29 (.imm bs.length (bytesV bs)) (.int kk (k : Int)) = some (.at (.int .u8 (bs[k] : Nat) :: bytesV (bs.drop (k + 1)))) := by
  rw [index_imm ss_29 (by omega) (by omega) (by rw [bytesV_length]; omega), Int.toNat_natCast, bytes_drop hk]
set_option maxRecDepth 10000 in
theorem pSumR (l : List Nat) (hb : ∀ x ∈ l, x < 256) (h : AHeap) (hl : l.length ≤ 2 ^ 40) : Pure Tryz.prog 124 [.imm l.length (bytesV l)] h (.int .u32 ((4294967295 - refN l : Nat) : Int)) := by
  refine SCalls.enterI (c := _) Tryz.func124 rfl (by kernel_rfl) (by simp) ?_
  simp only [bW]
  refine SWp.loopG (α := Nat) (fun i f h' => h' = h ∧ f 0 = .imm l.length (bytesV l) ∧ f 3 = .int .u32 ((refN (l.take i) : Nat) : Int) ∧ f 4 = .int .i64 (i : Nat) ∧ i ≤ l.length) (fun i => l.length - i) 0
    ⟨rfl, rfl, rfl, rfl, Nat.zero_le _⟩ ?_
  rintro i f h' ⟨rfl, f0, f3, f4, hi⟩
  refine wpI_sound (by kernel_rfl) ?_
  by_cases hlast : i < l.length
  · have d1 : decide ((i : Int) < ((l.length : Nat) : Int)) = true := by simp; omega
    have hx := bytes_ixB (kk := .i64) hlast
    have hc : l[i] < 256 := hb _ (List.getElem_mem hlast)
    have hw := refN_lt (l.take i)
    have hs : refN (l.take (i + 1)) = rbs 8 (refN (l.take i)) l[i] := by rw [List.take_succ_eq_append_getElem hlast, refN_snoc]
    have hi1 : IntKind.i64.wrap ((i : Int) + 1) = ((i + 1 : Nat) : Int) := by rw [Go.IntWalk.i64_in _ (by omega)]; rfl
    simp only [bW, Nat.reduceEqDiff, reduceCtorEq, kt_29, lt_5, f0, f4, d1, hx]
    generalize l[i] = c at hc hs
    generalize refN (l.take i) = w at hw hs f3
    refine SWp.loopG (α := Nat) (fun k g h1 => h1 = h' ∧ g 0 = .imm l.length (bytesV l) ∧ g 3 = .int .u32 ((rbs k w c : Nat) : Int) ∧ g 4 = .int .i64 (i : Nat) ∧ g 5 = .int .u8 ((c / 2 ^ k : Nat) : Int) ∧ g 6 = .int .i64 (k : Nat) ∧ k ≤ 8) (fun k => 8 - k) 0
      ⟨rfl, f0, f3, f4, by rw [Nat.pow_zero, Nat.div_one]; rfl, rfl, Nat.zero_le _⟩ ?_
    rintro k g h1 ⟨rfl, g0, g3, g4, g5, g6, hk⟩
    refine wpI_sound (by kernel_rfl) ?_
    by_cases hk8 : k < 8
    · have d2 : decide ((k : Int) < 8) = true := by simp; omega
      have hk1 : IntKind.i64.wrap ((k : Int) + 1) = ((k + 1 : Nat) : Int) := by rw [Go.IntWalk.i64_in _ (by omega)]; rfl
      have hW := rbs_lt k w c hw
      have hC : c / 2 ^ k < 256 := Nat.lt_of_le_of_lt (Nat.div_le_self _ _) hc
      have eC : c / 2 ^ (k + 1) = (c / 2 ^ k) / 2 := by rw [Nat.div_div_eq_div_mul, Nat.pow_succ]
      have eW : rbs (k + 1) w c = rb (rbs k w c) (c / 2 ^ k) := rfl
      generalize c / 2 ^ k = C at g5 hC eC eW
      generalize rbs k w c = W at g3 hW eW
      have r1 : ((W : Nat) : Int).tmod 2 = ((W % 2 : Nat) : Int) := by rw [Int.tmod_eq_emod_of_nonneg (by omega)]; omega
      have r2 : ((C : Nat) : Int).tmod 2 = ((C % 2 : Nat) : Int) := by rw [Int.tmod_eq_emod_of_nonneg (by omega)]; omega
      have w2 := wrap32 (C % 2) (by omega)
      have q1 : IntKind.u32.wrap (((W : Nat) : Int).tdiv 2) = ((W / 2 : Nat) : Int) := by
        rw [Int.tdiv_eq_ediv_of_nonneg (by omega), show ((W : Nat) : Int) / 2 = ((W / 2 : Nat) : Int) by omega, wrap32 _ (by omega)]
      have q2 : IntKind.u8.wrap (((C : Nat) : Int).tdiv 2) = ((C / 2 : Nat) : Int) := by
        rw [Int.tdiv_eq_ediv_of_nonneg (by omega), IntKind.wrap_u8]; omega
      by_cases hu : W % 2 = C % 2
      · have c1 : (((W % 2 : Nat) : Int) != ((C % 2 : Nat) : Int)) = false := by rw [hu]; simp
        simp only [bW, Nat.reduceEqDiff, g3, g5, g6, d2, hk1, r1, r2, w2, q1, q2, c1, aBin_rem (show (2 : Int) ≠ 0 by decide), aBin_quo (show (2 : Int) ≠ 0 by decide), aConv_int it_5 it_204]
        exact hid_mk ⟨k + 1, ⟨rfl, g0, by rw [eW, rb, if_pos hu]; rfl, g4, by rw [eC]; rfl, rfl, hk8⟩, by omega⟩
      · have c1 : (((W % 2 : Nat) : Int) != ((C % 2 : Nat) : Int)) = true := by simp only [bne_iff_ne, ne_eq]; omega
        have x1 : bXor .u32 ((W / 2 : Nat) : Int) 2197175160 = ((W / 2 ^^^ polyN : Nat) : Int) := bXor32 (W / 2) polyN (by omega) (by decide)
        simp only [bW, Nat.reduceEqDiff, g3, g5, g6, d2, hk1, r1, r2, w2, q1, q2, c1, x1, aBin_rem (show (2 : Int) ≠ 0 by decide), aBin_quo (show (2 : Int) ≠ 0 by decide), aConv_int it_5 it_204]
        exact hid_mk ⟨k + 1, ⟨rfl, g0, by rw [eW, rb, if_neg hu]; rfl, g4, by rw [eC]; rfl, rfl, hk8⟩, by omega⟩
    · have d2 : decide ((k : Int) < 8) = false := by simp; omega
      have e : k = 8 := by omega
      subst e
      simp only [bW, Nat.reduceEqDiff, reduceCtorEq, g3, g4, g6, d2, hi1]
      exact hid_mk ⟨i + 1, ⟨rfl, g0, by rw [hs]; exact g3, rfl, hlast⟩, by omega⟩
  · have d1 : decide ((i : Int) < ((l.length : Nat) : Int)) = false := by simp; omega
    have e : l.take i = l := by rw [show i = l.length by omega, List.take_length]
    rw [e] at f3
    have hw := refN_lt l
    have s1 : IntKind.u32.wrap (4294967295 - ((refN l : Nat) : Int)) = ((4294967295 - refN l : Nat) : Int) := by
      rw [show (4294967295 : Int) - ((refN l : Nat) : Int) = ((4294967295 - refN l : Nat) : Int) by omega, wrap32 _ (by omega)]
    simp only [bW, Nat.reduceEqDiff, reduceCtorEq, kt_29, f0, f3, f4, d1, s1, retA_ret, Tryz.results124, resultsA_1]
    exact hid_mk ⟨rfl, rfl⟩
end Go.Proofs.YtilgpaibolollaaGreat.Pk
namespace Go.Proofs.YtilgpaibolollaaGreat.Pk
open Go Go.Proofs Go.Proofs.YtilgpaibolollaaGreat.Ab
set_option maxRecDepth 10000
set_option linter.unusedVariables false
set_option linter.unusedSimpArgs false
/-! ### Layers 1 and 2 of the reference: Uint, Bytes, Frame -/
theorem app0b (h : AHeap) : aBuildSlice Tryz.prog 29 0 [] h = some (.sl h.n 0 0 0, h.push (.cells [] 5 none)) := by rw [buildSlice_go sl_29]; rfl
theorem acc0 (h : AHeap) (e : TypeId) : Acc h (h.push (.cells [] e none)) e 1 (.sl h.n 0 0 0) [] :=
  ⟨Own.fresh [] 0 0 rfl (Nat.le_refl _) (by decide), Keep.push _ _ _, fun k hk => by simp [idOf] at hk; omega⟩
set_option maxRecDepth 10000 in
theorem rUintA (s : V) (cs : List Nat) (n : Nat) (h : AHeap) (rd : Rd h s cs) (hc : cs.length ≤ 2 ^ 46) (hn : n < 2 ^ 64) :
    SCalls Tryz.prog 52 [s, .int .u64 n] h (fun r h' => Acc h h' 5 1 r (bytesV (cs ++ enc n))) := by
  refine SCalls.enterI (c := _) Tryz.func52 rfl (by kernel_rfl) (by simp) ?_
  obtain ⟨v, h1, e1, a1⟩ := (acc0 h 5).app (P := Tryz.prog) (tx := 29) sl_29 (by decide) (rd.src _ (Keep.push _ _ _)) (by rw [bytesV_length, Nat.mul_one]) (by simp only [bytesV_length, List.length_nil, lim]; omega) (by simp only [bytesV_length, List.length_nil, lim]; omega)
  rw [List.nil_append] at a1
  simp only [bW, Nat.reduceEqDiff, reduceCtorEq, app0b, e1]
  refine SWp.loopG (α := V × List Nat × Nat) (fun x f h' => f 5 = x.1 ∧ f 1 = .int .u64 (x.2.2 : Nat) ∧ Acc h h' 5 1 x.1 (bytesV x.2.1) ∧ x.2.1 ++ enc x.2.2 = cs ++ enc n ∧ x.2.2 < 2 ^ 64) (fun x => x.2.2) (v, cs, n)
    ⟨rfl, rfl, a1, rfl, hn⟩ ?_
  rintro ⟨s', cs', n'⟩ f h2 ⟨f5, f1, a2, hcs, hn'⟩
  simp only at f5 f1 a2 hcs hn'
  refine wpI_sound (by kernel_rfl) ?_
  have hlen : cs'.length + 1 ≤ cs.length + 10 := by
    have h1 := congrArg List.length hcs
    have h2 := enc_le n hn
    have h3 := enc_le n' hn'
    simp at h1
    omega
  by_cases hlt : 127 < n'
  · have c1 : decide ((127 : Int) < (n' : Int)) = true := by simp; omega
    have e2 : IntKind.u64.wrap (128 + (n' : Int).tmod 128) = ((128 + n' % 128 : Nat) : Int) := by
      rw [Int.tmod_eq_emod_of_nonneg (by omega), IntKind.wrap_u64]; omega
    have e3 : IntKind.u8.wrap ((128 + n' % 128 : Nat) : Int) = ((n' % 128 + 128 : Nat) : Int) := by rw [IntKind.wrap_u8]; omega
    have e4 : IntKind.u64.wrap ((n' : Int).tdiv 128) = ((n' / 128 : Nat) : Int) := by
      rw [Int.tdiv_eq_ediv_of_nonneg (by omega), IntKind.wrap_u64]; omega
    obtain ⟨v, h3, q1, a3⟩ := a2.elem (P := Tryz.prog) sl_29 (by decide) (xs := [.int .u8 ((n' % 128 + 128 : Nat) : Int)]) rfl rfl (by simp [bytesV_length, lim]; omega) (by simp [bytesV_length, lim]; omega)
    simp only [bW, Nat.reduceEqDiff, f5, f1, c1, aBin_rem (show (128 : Int) ≠ 0 by decide), aBin_quo (show (128 : Int) ≠ 0 by decide), e2, aConv_int it_117 it_5, e3, lit1b, q1, e4]
    refine hid_mk ⟨(v, cs' ++ [n' % 128 + 128], n' / 128), ⟨rfl, rfl, ?_, ?_, by simp only; omega⟩, by simp; omega⟩
    · exact a3.conv (by rw [bytesV_append]; rfl)
    · simp only
      rw [← hcs, enc_big (n := n') (by omega)]
      simp
  · have c1 : decide ((127 : Int) < (n' : Int)) = false := by simp; omega
    obtain ⟨v, h3, q1, a3⟩ := a2.elem (P := Tryz.prog) sl_29 (by decide) (xs := [.int .u8 (n' : Int)]) rfl rfl (by simp [bytesV_length, lim]; omega) (by simp [bytesV_length, lim]; omega)
    simp only [bW, Nat.reduceEqDiff, f5, f1, c1, aConv_int it_117 it_5, wrapu8 n' (by omega), lit1b, q1, retA_ret, Tryz.results52, resultsA_1]
    refine hid_mk (a3.conv ?_)
    rw [← hcs, enc_small (by omega), bytesV_append]
    rfl
theorem rUint (s : V) (cs : List Nat) (n : Nat) (h : AHeap) (rd : Rd h s cs) (hc : cs.length ≤ 2 ^ 46) (hn : n < 2 ^ 64) :
    Pure Tryz.prog 52 [s, .int .u64 n] h (.imm (cs ++ enc n).length (bytesV (cs ++ enc n))) :=
  Pure.acc (e := 5) (sz := 1) (bytesV_clo _) (by rw [bytesV_length, Nat.mul_one]) (by omega) (rUintA s cs n h rd hc hn)
set_option maxRecDepth 10000 in
theorem rBytesA (s x : V) (cs xs : List Nat) (h : AHeap) (rd : Rd h s cs) (rx : Rd h x xs) (hc : cs.length + xs.length ≤ 2 ^ 45) :
    SCalls Tryz.prog 54 [s, x] h (fun r h' => Acc h h' 5 1 r (bytesV (cs ++ encBytes xs))) := by
  refine SCalls.enterI (c := _) Tryz.func54 rfl (by kernel_rfl) (by simp) ?_
  have hu := wrap_natU (n := xs.length) (by omega)
  simp only [bW, Nat.reduceEqDiff, reduceCtorEq, rx.len h (Keep.refl _ _), aConv_int it_3 it_117, hu]
  refine callI_of cal52 (rUintA s cs xs.length h rd (by omega) (by omega)) fun r2 h2 a2 => ?_
  have hl := (enc_le xs.length (by omega)).2
  obtain ⟨v, h3, e3, a3⟩ := a2.app (P := Tryz.prog) (tx := 29) sl_29 (by decide) (rx.src h2 a2.keep) (by rw [bytesV_length, Nat.mul_one]) (by simp only [bytesV_length, List.length_append, lim]; omega) (by simp only [bytesV_length, List.length_append, lim]; omega)
  simp only [bW, Nat.reduceEqDiff, e3, retA_ret, Tryz.results54, resultsA_1]
  exact hid_mk (a3.conv (by rw [← bytesV_append, List.append_assoc]; rfl))
theorem rBytes (s x : V) (cs xs : List Nat) (h : AHeap) (rd : Rd h s cs) (rx : Rd h x xs) (hc : cs.length + xs.length ≤ 2 ^ 45) :
    Pure Tryz.prog 54 [s, x] h (.imm (cs ++ encBytes xs).length (bytesV (cs ++ encBytes xs))) :=
  Pure.acc (e := 5) (sz := 1) (bytesV_clo _) (by rw [bytesV_length, Nat.mul_one]) (by omega) (rBytesA s x cs xs h rd rx hc)
theorem srcB4 {h : AHeap} {i : Nat} {cs : List V} (hg : h.get i = .cells cs 5 none) (hl : cs.length = 4) (h1 : cs.all (·.one) = true) : aSrc Tryz.prog 1 29 (.sl i 0 4 4) h = some (4, cs) := by
  have u : Tryz.prog.underlying 29 = some (.slice 5) := by kernel_rfl
  unfold aSrc
  simp only [u, hg, List.drop_zero, Nat.mul_one, Nat.zero_add]
  rw [List.take_of_length_le (by omega), if_pos ⟨by omega, h1⟩]
theorem sumB_ref (l : List Nat) (hb : ∀ x ∈ l, x < 256) : sumB l 0 = (((4294967295 - refN l) % 256 : Nat) : Int) ∧ sumB l 1 = (((4294967295 - refN l) / 256 % 256 : Nat) : Int) ∧
    sumB l 2 = (((4294967295 - refN l) / 65536 % 256 : Nat) : Int) ∧ sumB l 3 = (((4294967295 - refN l) / 16777216 : Nat) : Int) := by
  unfold sumB
  rw [crcF_ref l hb]
  have hW : 4294967295 - refN l < 2 ^ 32 := by omega
  generalize 4294967295 - refN l = W at hW
  have e : ∀ k : Nat, k ≤ 32 → ((W : Nat) : Int).fdiv (2 ^ (min (Int.toNat ((k : Nat) : Int)) IntKind.u32.bits)) = ((W / 2 ^ k : Nat) : Int) := by
    intro k hk
    rw [Int.toNat_natCast, show min k IntKind.u32.bits = k from Nat.min_eq_left hk, Int.fdiv_eq_ediv_of_nonneg _ (Int.pow_nonneg (by decide))]
    simp
  refine ⟨?_, ?_, ?_, ?_⟩
  · rw [show (8 * ((0 : Nat) : Int)) = ((0 : Nat) : Int) by rfl, e 0 (by omega), IntKind.wrap_u8]; omega
  · rw [show (8 * ((1 : Nat) : Int)) = ((8 : Nat) : Int) by rfl, e 8 (by omega), IntKind.wrap_u8]; omega
  · rw [show (8 * ((2 : Nat) : Int)) = ((16 : Nat) : Int) by rfl, e 16 (by omega), IntKind.wrap_u8]; omega
  · rw [show (8 * ((3 : Nat) : Int)) = ((24 : Nat) : Int) by rfl, e 24 (by omega), IntKind.wrap_u8]; omega
theorem lit4b (h : AHeap) (a b c d : Int) : aBuildSlice Tryz.prog 29 4 [(0, .int .u8 a), (1, .int .u8 b), (2, .int .u8 c), (3, .int .u8 d)] h = some (.sl h.n 0 4 4, h.push (.cells [.int .u8 a, .int .u8 b, .int .u8 c, .int .u8 d] 5 none)) := by rw [buildSlice_go sl_29]; rfl
theorem pFrameR (l : List Nat) (hb : ∀ x ∈ l, x < 256) (h : AHeap) (hl : l.length ≤ 2 ^ 40) : Pure Tryz.prog 114 [.imm l.length (bytesV l)] h (frameV l) := by
  by_cases hbig : 4096 < l.length
  · have d1 : decide ((4096 : Int) < (l.length : Nat)) = true := by simp; omega
    refine SCalls.enterI (c := _) Tryz.func114 rfl (by kernel_rfl) (by simp) ?_
    simp only [bW, Nat.reduceEqDiff, reduceCtorEq, kt_29, d1, retA_ret, Tryz.results114, resultsA_2]
    exact hid_mk ⟨by rw [frameV, if_pos hbig], rfl⟩
  have d1 : decide ((4096 : Int) < (l.length : Nat)) = false := by simp; omega
  rw [frameV, if_neg hbig]
  refine Pure.of (Clo.tuple (CloL.cons (Clo.imm (bytesV_clo _)) (CloL.cons (Clo.int _ _) CloL.nil))) ?_
  refine SCalls.enterI (c := _) Tryz.func114 rfl (by kernel_rfl) (by simp) ?_
  simp only [bW, Nat.reduceEqDiff, reduceCtorEq, kt_29, d1]
  refine callI_pure cal124 (pSumR l hb _ (by omega)) ?_
  obtain ⟨s0, s1, s2, s3⟩ := sumB_ref l hb
  have hW : 4294967295 - refN l < 2 ^ 32 := by omega
  generalize 4294967295 - refN l = W at hW s0 s1 s2 s3
  simp only [bW, Nat.reduceEqDiff, reduceCtorEq]
  refine callI_of cal54 (rBytesA .snil (.imm l.length (bytesV l)) [] l _ (Rd.snil _) (Rd.imm _ _) (by simp; omega)) fun r h1 a1 => ?_
  have q0 : IntKind.u8.wrap (((W : Nat) : Int).tmod 256) = ((W % 256 : Nat) : Int) := by rw [Int.tmod_eq_emod_of_nonneg (by omega), IntKind.wrap_u8]; omega
  have v1 : IntKind.u32.wrap (((W : Nat) : Int).tdiv 256) = ((W / 256 : Nat) : Int) := by rw [Int.tdiv_eq_ediv_of_nonneg (by omega), show ((W : Nat) : Int) / 256 = ((W / 256 : Nat) : Int) by omega, wrap32 _ (by omega)]
  have v2 : IntKind.u32.wrap (((W : Nat) : Int).tdiv 65536) = ((W / 65536 : Nat) : Int) := by rw [Int.tdiv_eq_ediv_of_nonneg (by omega), show ((W : Nat) : Int) / 65536 = ((W / 65536 : Nat) : Int) by omega, wrap32 _ (by omega)]
  have v3 : IntKind.u32.wrap (((W : Nat) : Int).tdiv 16777216) = ((W / 16777216 : Nat) : Int) := by rw [Int.tdiv_eq_ediv_of_nonneg (by omega), show ((W : Nat) : Int) / 16777216 = ((W / 16777216 : Nat) : Int) by omega, wrap32 _ (by omega)]
  have q1 : IntKind.u8.wrap (((W / 256 : Nat) : Int).tmod 256) = ((W / 256 % 256 : Nat) : Int) := by rw [Int.tmod_eq_emod_of_nonneg (by omega), IntKind.wrap_u8]; omega
  have q2 : IntKind.u8.wrap (((W / 65536 : Nat) : Int).tmod 256) = ((W / 65536 % 256 : Nat) : Int) := by rw [Int.tmod_eq_emod_of_nonneg (by omega), IntKind.wrap_u8]; omega
  have q3 : IntKind.u8.wrap ((W / 16777216 : Nat) : Int) = ((W / 16777216 : Nat) : Int) := by rw [IntKind.wrap_u8]; omega
  simp only [bW, Nat.reduceEqDiff, q0, v1, v2, v3, q1, q2, q3, lit4b, aBin_rem (show (256 : Int) ≠ 0 by decide), aBin_quo (show (256 : Int) ≠ 0 by decide), aBin_quo (show (65536 : Int) ≠ 0 by decide), aBin_quo (show (16777216 : Int) ≠ 0 by decide), aConv_int it_204 it_5]
  have k1 : Keep h1 (h1.push (.cells [.int .u8 ((W % 256 : Nat) : Int), .int .u8 ((W / 256 % 256 : Nat) : Int), .int .u8 ((W / 65536 % 256 : Nat) : Int), .int .u8 ((W / 16777216 : Nat) : Int)] 5 none)) none_ := Keep.push _ _ _
  have g1 : (h1.push (.cells [.int .u8 ((W % 256 : Nat) : Int), .int .u8 ((W / 256 % 256 : Nat) : Int), .int .u8 ((W / 65536 % 256 : Nat) : Int), .int .u8 ((W / 16777216 : Nat) : Int)] 5 none)).get h1.n = .cells [.int .u8 ((W % 256 : Nat) : Int), .int .u8 ((W / 256 % 256 : Nat) : Int), .int .u8 ((W / 65536 % 256 : Nat) : Int), .int .u8 ((W / 16777216 : Nat) : Int)] 5 none := get_push_new
  have a2 := a1.on k1
  have hle := (enc_le l.length (by omega)).2
  obtain ⟨v, h3, e3, a3⟩ := a2.app (P := Tryz.prog) (tx := 29) sl_29 (by decide) (srcB4 g1 rfl rfl) (by rfl) (by simp only [bytesV_length, List.length_append, lim, encBytes, List.length_cons, List.length_nil]; omega) (by simp only [bytesV_length, List.length_append, lim, encBytes, List.length_cons, List.length_nil]; omega)
  simp only [bW, Nat.reduceEqDiff, e3, retA_ret, Tryz.results114, resultsA_2]
  refine hid_mk ?_
  have a4 := a3.conv (show bytesV ([] ++ encBytes l) ++ [.int .u8 ((W % 256 : Nat) : Int), .int .u8 ((W / 256 % 256 : Nat) : Int), .int .u8 ((W / 65536 % 256 : Nat) : Int), .int .u8 ((W / 16777216 : Nat) : Int)] = bytesV (frame l) by
    unfold frame sumL
    rw [s0, s1, s2, s3]
    simp only [Int.toNat_natCast]
    rw [List.nil_append, bytesV_append]
    rfl)
  obtain ⟨h2, c, k2⟩ := a4.cast (n := (frame l).length) (by rw [bytesV_length, Nat.mul_one]) (by decide)
  exact ⟨h2, Cast.tuple (CastL.cons c (CastL.refl _ _)), k2⟩
end Go.Proofs.YtilgpaibolollaaGreat.Pk
namespace Go.Proofs.YtilgpaibolollaaGreat.Pk
open Go Go.Proofs Go.Proofs.YtilgpaibolollaaGreat.Ab
set_option maxRecDepth 10000
set_option linter.unusedVariables false
set_option linter.unusedSimpArgs false

/-! ### A disk: its room, its bytes, how many of them are safe -/
structure IsDisk (h : AHeap) (p : V) (room : Int) (bs : List Int) (safe : Int) (i : Nat) (v : V) : Prop where
  p : p = .ptr i 0
  lt : i < h.n
  get : h.get i = .cells [.int .i64 room, v, .int .i64 safe] 95 none
  own : Own h 5 1 v (bs.map (.int .u8))
  ne : idOf v ≠ some i
  len : (bs.length : Int) ≤ room
  most : room ≤ 1048576
  safe0 : 0 ≤ safe
  safe1 : safe ≤ bs.length
/-- What belongs to a disk. -/
def Parts (i : Nat) (v : V) : Nat → Prop := fun k => k = i ∨ idOf v = some k
theorem IsDisk.keep {h h' : AHeap} {p : V} {room safe : Int} {bs : List Int} {i : Nat} {v : V} (d : IsDisk h p room bs safe i v) {own : Nat → Prop} (hk : Keep h h' own) (hne : ∀ k, Parts i v k → ¬ own k) : IsDisk h' p room bs safe i v :=
  ⟨d.p, Nat.lt_of_lt_of_le d.lt hk.n, (hk.get i d.lt (hne i (.inl rfl))).trans d.get, d.own.keep hk fun k hk => hne k (.inr hk), d.ne, d.len, d.most, d.safe0, d.safe1⟩
theorem IsDisk.keepN {h h' : AHeap} {p : V} {room safe : Int} {bs : List Int} {i : Nat} {v : V} (d : IsDisk h p room bs safe i v) (hk : Keep h h' none_) : IsDisk h' p room bs safe i v := d.keep hk fun _ _ h => h
theorem one_u8 (l : List Int) : (l.map (V.int .u8)).all (·.one) = true := by
  rw [List.all_eq_true]; intro x hx
  obtain ⟨n, _, rfl⟩ := List.mem_map.1 hx
  rfl

theorem dNew (h : AHeap) (room : Int) (h0 : 0 ≤ room) (h1 : room ≤ 1048576) :
    SCalls Tryz.prog 6 [.int .i64 room] h (fun r h' => r = .tuple [.ptr h.n 0, .int .i64 0] ∧ IsDisk h' (.ptr h.n 0) room [] 0 h.n .snil ∧ Keep h h' none_) := by
  refine SCalls.enterI (c := _) Tryz.func6 rfl (by kernel_rfl) (by simp) ?_
  have c1 : decide (room < 0) = false := by simp; omega
  have c2 : decide (1048576 < room) = false := by simp; omega
  simp only [bW, Nat.reduceEqDiff, Nat.reduceAdd, Nat.reduceLeDiff, reduceCtorEq, pl_95, zc_95, c1, c2, retA_ret, Tryz.results6, resultsA_2]
  exact hid_mk ⟨rfl, ⟨rfl, by rw [push_n]; omega, get_push_new, Own.snil _ _ _, by simp [idOf], by simpa using h0, h1, Int.le_refl _, by simp⟩, Keep.push _ _ _⟩

theorem dSync (h : AHeap) (p : V) (room : Int) (bs : List Int) (safe : Int) (i : Nat) (v : V) (d : IsDisk h p room bs safe i v) :
    SCalls Tryz.prog 60 [p] h (fun r h' => IsDisk h' p room bs bs.length i v ∧ Keep h h' (Parts i v)) := by
  obtain ⟨rfl, hi, hg, ho, hne, d1, d2, d3, d4⟩ := d
  refine SCalls.enterI (c := _) Tryz.func60 rfl (by kernel_rfl) (by simp) ?_
  have hlen := ho.length (by omega) Tryz.prog kt_29
  have e1 : (bs.map (V.int .u8)).length / 1 = bs.length := by simp
  rw [e1] at hlen
  simp only [bW, Nat.reduceEqDiff, Nat.reduceAdd, Nat.reduceLeDiff, reduceCtorEq, ft_95_1, ft_95_2, kt_25, lt_29, zt_3, hg, hlen, retA_normal, Tryz.results60, resultsA_0]
  exact hid_mk ⟨⟨rfl, hi, get_set_same, ho.keep (Keep.set _ _ _) (fun k hk hki => hne (by rw [hk, hki])), hne, d1, d2, by omega, by simp⟩, (Keep.set _ _ _).mono fun k hk => .inl hk⟩
end Go.Proofs.YtilgpaibolollaaGreat.Pk
namespace Go.Proofs.YtilgpaibolollaaGreat.Pk
open Go Go.Proofs Go.Proofs.YtilgpaibolollaaGreat.Ab
set_option maxRecDepth 10000
set_option linter.unusedVariables false
set_option linter.unusedSimpArgs false

theorem len_map1 (bs : List Int) : (bs.map (V.int .u8)).length / 1 = bs.length := by simp
theorem IsDisk.aLen {h : AHeap} {p : V} {room safe : Int} {bs : List Int} {i : Nat} {v : V} (d : IsDisk h p room bs safe i v) : aLen Tryz.prog 29 v h = some (.int .i64 bs.length) := by
  have := d.own.length (by omega) Tryz.prog kt_29
  rwa [len_map1] at this

/-- What a call makes of a disk: its parts are old, or new ones. -/
def NewP (h : AHeap) (i : Nat) (v v' : V) : Prop := idOf v' = idOf v ∨ ∀ k, idOf v' = some k → h.n ≤ k

theorem dAppend (h : AHeap) (p : V) (room : Int) (bs : List Int) (safe : Int) (i : Nat) (v : V) (d : IsDisk h p room bs safe i v) (x : V) (ns : List Int)
    (hx : aSrc Tryz.prog 1 29 x h = some (ns.length, ns.map (.int .u8))) (hxl : aLen Tryz.prog 29 x h = some (.int .i64 ns.length)) :
    SCalls Tryz.prog 20 [p, x] h (fun r h' => if (bs.length + ns.length : Int) ≤ room
      then r = .int .i64 0 ∧ ∃ v', IsDisk h' p room (bs ++ ns) safe i v' ∧ NewP h i v v' ∧ Keep h h' (Parts i v)
      else r = .int .i64 3 ∧ h' = h) := by
  have hlen := d.aLen
  obtain ⟨rfl, hi, hg, ho, hne, d1, d2, d3, d4⟩ := d
  refine SCalls.enterI (c := _) Tryz.func20 rfl (by kernel_rfl) (by simp) ?_
  have w1 : IntKind.i64.wrap (room - (bs.length : Int)) = room - bs.length := by rw [Go.IntWalk.i64_in _ (by omega)]
  by_cases hc : (bs.length + ns.length : Int) ≤ room
  · have c1 : decide (room - (bs.length : Int) < (ns.length : Int)) = false := by simp; omega
    obtain ⟨v', h', ha, ho', hk', hn'⟩ := append_own (P := Tryz.prog) (tx := 29) sl_29 (by decide) ho hx (by simp) (by simp [lim]; omega) (by simp [lim]; omega)
    have hg' : h'.get i = .cells [.int .i64 room, v, .int .i64 safe] 95 none := (hk'.get i hi hne).trans hg
    have hn2 : idOf v' ≠ some i := by
      rcases hn' with h1 | h1
      · rw [h1]; exact hne
      · intro h2
        have := h1 i h2
        omega
    obtain ⟨hcells, hone⟩ : v'.cells = some [v'] ∧ v'.one = true := by
      rcases ho' with ⟨rfl | rfl, _⟩ | ⟨i2, len2, cap2, c2, ex2, rfl, _⟩ <;> exact ⟨rfl, rfl⟩
    simp only [bW]
    refine SWp.drawnI [] (by kernel_rfl) (by kernel_rfl) (by kernel_rfl) ?_
    simp only [bW, gI_nil, gI_cons, goI_rest, ggI_true, wantedA_none, wantedA_some, wantS_some, wantV_ff, idleOp, Bool.or_false, List.contains_nil, Nat.reduceEqDiff, Nat.reduceAdd, Nat.reduceLeDiff, reduceCtorEq, ft_95_0, ft_95_1, kt_25, lt_29, lt_3, zt_29, hg, hlen, hxl, w1, c1, ha, hg', hcells, hone, retA_ret, Tryz.results20, resultsA_1]
    refine hid_mk ?_
    rw [if_pos hc]
    refine ⟨rfl, v', ⟨rfl, ?_, get_set_same, ?_, hn2, ?_, d2, d3, ?_⟩, hn', ?_⟩
    · rw [set_n]; exact Nat.lt_of_lt_of_le hi hk'.n
    · rw [List.map_append]
      exact ho'.keep (Keep.set _ _ _) fun k hk hki => hn2 (by rw [hk, hki])
    · simp; omega
    · simp; omega
    · exact (hk'.mono fun k hk => .inr hk).trans (Keep.set _ _ _) fun k _ hk => .inl hk
  · have c1 : decide (room - (bs.length : Int) < (ns.length : Int)) = true := by simp; omega
    simp only [bW]
    refine SWp.drawnI [] (by kernel_rfl) (by kernel_rfl) (by kernel_rfl) ?_
    simp only [bW, gI_nil, gI_cons, goI_rest, ggI_true, wantedA_none, wantedA_some, wantS_some, wantV_ff, idleOp, Bool.or_false, List.contains_nil, Nat.reduceEqDiff, Nat.reduceAdd, Nat.reduceLeDiff, reduceCtorEq, ft_95_0, ft_95_1, kt_25, lt_29, lt_3, hg, hlen, hxl, w1, c1, retA_ret, Tryz.results20, resultsA_1]
    refine hid_mk ?_
    rw [if_neg hc]
    exact ⟨rfl, rfl⟩

set_option maxRecDepth 10000 in
theorem dBytesOwn (h : AHeap) (p : V) (room : Int) (bs : List Int) (safe : Int) (i : Nat) (v : V) (d : IsDisk h p room bs safe i v) :
    SCalls Tryz.prog 161 [p] h (fun r h' => r = .sl h.n 0 bs.length bs.length ∧ Own h' 5 1 r (bs.map (.int .u8)) ∧ Keep h h' none_) := by
  have hlen := d.aLen
  obtain ⟨rfl, hi, hg, ho, hne, d1, d2, d3, d4⟩ := d
  refine SCalls.enterI (c := _) Tryz.func161 rfl (by kernel_rfl) (by simp) ?_
  obtain ⟨n, e1, e2, e3⟩ := own_lenOf ho (by omega)
  obtain rfl : n = bs.length := by simpa using e2.symm
  obtain ⟨h1, h2, q1, q2, q3, q4, q5⟩ := own_clone (P := Tryz.prog) (tx := 29) (k := .i64) (k' := .i64) (h := h) sl_29 e1 (fun h' hk => by
    have ho' := ho.keepN hk
    obtain ⟨m, f1, f2, f3⟩ := own_lenOf ho' (by omega)
    rw [e1] at f1
    obtain rfl : bs.length = m := Option.some.inj f1
    exact f3) (one_u8 bs) (by simp) (by simp; omega) (by omega)
  have hg1 : h1.get i = .cells [.int .i64 room, v, .int .i64 safe] 95 none := (q4.get i hi (by simp [none_])).trans hg
  simp only [bW, Nat.reduceEqDiff, Nat.reduceAdd, Nat.reduceLeDiff, reduceCtorEq, ft_95_1, kt_25, lt_29, hg, hlen, q1, hg1, q2, retA_ret, Tryz.results161, resultsA_1]
  exact hid_mk ⟨rfl, q3, q5⟩
theorem dBytes (h : AHeap) (p : V) (room : Int) (bs : List Int) (safe : Int) (i : Nat) (v : V) (d : IsDisk h p room bs safe i v) :
    Pure Tryz.prog 161 [p] h (.imm bs.length (bs.map (.int .u8))) := by
  refine Pure.of (Clo.imm (CloL.map fun _ _ => Clo.int _ _)) ((dBytesOwn h p room bs safe i v d).mono fun r h' ⟨e1, e2, e3⟩ => ?_)
  obtain ⟨h2, c, k⟩ := Cast.own e2 (n := bs.length) (by simp) (by omega)
  refine ⟨h2, c, e3.trans k fun j hj hs => ?_⟩
  subst e1
  simp [isId, idOf] at hs
  omega
end Go.Proofs.YtilgpaibolollaaGreat.Pk
namespace Go.Proofs.YtilgpaibolollaaGreat.Pk
open Go Go.Proofs Go.Proofs.YtilgpaibolollaaGreat.Ab
set_option maxRecDepth 10000
set_option linter.unusedVariables false
set_option linter.unusedSimpArgs false

theorem one_of_own {h : AHeap} {e : TypeId} {sz : Nat} {v : V} {cs : List V} (ho : Own h e sz v cs) : v.cells = some [v] ∧ v.one = true := by
  rcases ho with ⟨rfl | rfl, _⟩ | ⟨i2, len2, cap2, c2, ex2, rfl, _⟩ <;> exact ⟨rfl, rfl⟩

set_option maxRecDepth 10000 in
theorem dKeep (h : AHeap) (p : V) (room : Int) (bs : List Int) (safe : Int) (i : Nat) (v : V) (d : IsDisk h p room bs safe i v) (n : Nat) (hn : n ≤ bs.length) :
    SCalls Tryz.prog 59 [p, .int .i64 n] h (fun r h' => ∃ v', IsDisk h' p room (bs.take n) (min safe n) i v' ∧ idOf v' = idOf v ∧ Keep h h' (Parts i v)) := by
  obtain ⟨rfl, hi, hg, ho, hne, d1, d2, d3, d4⟩ := d
  refine SCalls.enterI (c := _) Tryz.func59 rfl (by kernel_rfl) (by simp) ?_
  obtain ⟨s, h1, q1, q2, ⟨cs', q3, q4, q5⟩, q6⟩ := own_clear (P := Tryz.prog) (k := .i64) sl_29 (by decide) rfl ho (n := n) (by simpa using hn)
  have hg1 : h1.get i = .cells [.int .i64 room, v, .int .i64 safe] 95 none := (q6.get i hi hne).trans hg
  obtain ⟨v2, p1, p2, p3⟩ := own_first (P := Tryz.prog) (k := .i64) (k2 := .i64) sl_29 (by decide) q5 (n := n) (by rw [q4]; simpa using hn) (by rw [q4]; simp [unk]; omega)
  obtain ⟨u1, u2⟩ := one_of_own p2
  simp only [bW, Nat.reduceEqDiff, Nat.reduceAdd, Nat.reduceLeDiff, reduceCtorEq, ft_95_1, ft_95_2, lt_29, lt_3, zt_29, zt_3, hg, q1, q2, hg1, p1, u1, u2, retA_normal, Tryz.results59, resultsA_0]
  refine hid_mk ⟨v2, ⟨rfl, ?_, get_set_same, ?_, by rw [p3]; exact hne, ?_, d2, by omega, ?_⟩, p3, ?_⟩
  · rw [set_n]; exact Nat.lt_of_lt_of_le hi q6.n
  · have := p2
    rw [q3, Nat.mul_one, ← List.map_take] at this
    exact this.keep (Keep.set _ _ _) fun k hk hki => hne (by rw [← p3, hk, hki])
  · rw [List.length_take]; omega
  · rw [List.length_take]; omega
  · exact (q6.mono fun k hk => .inr hk).trans (Keep.set _ _ _) fun k _ hk => .inl hk

/-- A crash's last byte. -/
def lastX (turn b : Int) : Int := bXor .u8 b (IntKind.u8.wrap (1 * 2 ^ (min turn.toNat IntKind.u8.bits)))
def torn (turn : Int) (bs : List Int) : List Int := bs.set (bs.length - 1) (lastX turn (bs.getLastD 0))
def crashed (bs : List Int) (safe keep turn : Int) : List Int :=
  let kept := min (max keep 0) (bs.length - safe)
  if 0 < kept ∧ 0 ≤ turn ∧ turn < 8 then torn turn (bs.take (safe + kept).toNat) else bs.take (safe + kept).toNat

set_option maxRecDepth 10000 in
theorem dCrash (h : AHeap) (p : V) (room : Int) (bs : List Int) (safe : Int) (i : Nat) (v : V) (d : IsDisk h p room bs safe i v) (keep turn : Int) :
    SCalls Tryz.prog 18 [p, .int .i64 keep, .int .i64 turn] h (fun r h' => ∃ v', IsDisk h' p room (crashed bs safe keep turn) (crashed bs safe keep turn).length i v' ∧ idOf v' = idOf v ∧ Keep h h' (Parts i v)) := by
  have hlen := d.aLen
  have d0 := d
  obtain ⟨rfl, hi, hg, ho, hne, d1, d2, d3, d4⟩ := d
  refine SCalls.enterI (c := _) Tryz.func18 rfl (by kernel_rfl) (by simp) ?_
  have w1 : IntKind.i64.wrap ((bs.length : Int) - safe) = bs.length - safe := by rw [Go.IntWalk.i64_in _ (by omega)]
  generalize hkept : min (max keep 0) ((bs.length : Int) - safe) = kept
  have k0 : 0 ≤ kept := by omega
  have k1 : kept ≤ bs.length - safe := by omega
  have w2 : IntKind.i64.wrap (safe + kept) = (((safe + kept).toNat : Nat) : Int) := by rw [Go.IntWalk.i64_in _ (by omega)]; omega
  simp only [bW, Nat.reduceEqDiff, kt_25]
  refine SWp.drawnI [] (by kernel_rfl) (by kernel_rfl) (by kernel_rfl) ?_
  simp only [bW, gI_nil, gI_cons, goI_rest, ggI_true, wantedA_none, idleOp, Bool.or_false, List.contains_nil, Nat.reduceEqDiff, Nat.reduceAdd, Nat.reduceLeDiff, reduceCtorEq, ft_95_1, ft_95_2, lt_29, lt_3, hg, hlen, w1, hkept, w2]
  refine callI_of cal59 (dKeep h _ room bs safe i v d0 (safe + kept).toNat (by omega)) fun r h1 ⟨v1, e1, e2, e3⟩ => ?_
  have hm : min safe (((safe + kept).toNat : Nat) : Int) = safe := by omega
  rw [hm] at e1
  have hcr : crashed bs safe keep turn = if 0 < kept ∧ 0 ≤ turn ∧ turn < 8 then torn turn (bs.take (safe + kept).toNat) else bs.take (safe + kept).toNat := by
    unfold crashed
    simp only [hkept]
  have fin : ∀ h2 cs, IsDisk h2 (.ptr i 0) room cs safe i v1 → Keep h h2 (Parts i v) → crashed bs safe keep turn = cs → ∀ (r : V) h3, (IsDisk h3 (.ptr i 0) room cs cs.length i v1 ∧ Keep h2 h3 (Parts i v1)) → ∃ v', IsDisk h3 (.ptr i 0) room (crashed bs safe keep turn) (crashed bs safe keep turn).length i v' ∧ idOf v' = idOf v ∧ Keep h h3 (Parts i v) := fun h2 cs a1 a2 a3 r h3 ⟨b1, b2⟩ => by
    rw [a3]
    exact ⟨v1, b1, e2, a2.trans b2 fun k _ hk => by unfold Parts at hk ⊢; rwa [e2] at hk⟩
  have noT : ¬ (0 < kept ∧ 0 ≤ turn ∧ turn < 8) → crashed bs safe keep turn = bs.take (safe + kept).toNat := fun hn => by rw [hcr, if_neg hn]
  by_cases c1 : 0 < kept
  · by_cases c2 : 0 ≤ turn
    · by_cases c3 : turn < 8
      · have hl1 := e1.aLen
        have hlt : (bs.take (safe + kept).toNat).length = (safe + kept).toNat := by rw [List.length_take]; omega
        generalize hbs : bs.take (safe + kept).toNat = cs at e1 hl1 hlt
        have hpos : 0 < cs.length := by omega
        have w3 : IntKind.i64.wrap ((cs.length : Int) - 1) = ((cs.length - 1 : Nat) : Int) := by rw [Go.IntWalk.i64_in _ (by omega)]; omega
        have hsh : ∀ xo yo, aBin Tryz.prog .shl 5 xo yo (.int .u8 1) (.int .i64 turn) = some (.int .u8 (IntKind.u8.wrap (1 * 2 ^ (min turn.toNat IntKind.u8.bits)))) := fun _ _ => aBin_shl c2
        obtain ⟨j, x1, x2, ⟨rr, x3⟩, x4⟩ := own_elem (P := Tryz.prog) (t := 29) (kk := .i64) ss_29 e1.own (k := cs.length - 1) (by simp; omega)
        have hel : (cs.map (V.int .u8))[cs.length - 1]'(by simp; omega) = .int .u8 (cs.getLastD 0) := by
          rw [List.getElem_map, List.getLastD_eq_getLast?, List.getLast?_eq_getElem?, List.getElem?_eq_getElem (by omega)]
          rfl
        rw [hel] at x3
        obtain ⟨ob, y1, y2, y3⟩ := x4 (.int .u8 (lastX turn (cs.getLastD 0))) rfl
        generalize hh2 : h1.set j ob = h2 at y2 y3
        have hst : IsDisk h2 (.ptr i 0) room (torn turn cs) safe i v1 := by
          refine ⟨rfl, Nat.lt_of_lt_of_le e1.lt y3.n, (y3.get i e1.lt e1.ne).trans e1.get, ?_, e1.ne, ?_, d2, d3, ?_⟩
          · rw [torn, List.map_set]; exact y2
          · rw [torn, List.length_set]; exact e1.len
          · rw [torn, List.length_set]; exact e1.safe1
        have hg1 := e1.get
        unfold lastX at y1
        simp only [bW, Nat.reduceEqDiff, c1, c2, c3]
        refine SWp.drawnI [16] (by kernel_rfl) (by kernel_rfl) (by kernel_rfl) ?_
        simp only [bW, gI_nil, gI_cons, goI_rest, ggI_true, wantedA_none, idleOp, Bool.or_true, Bool.or_false, List.contains_cons, List.contains_nil, Nat.reduceBEq, Nat.reduceEqDiff, Nat.reduceAdd, Nat.reduceLeDiff, reduceCtorEq, ft_95_1, lt_29, lt_5, zt_5, hg1, hl1, w3, x1, x3, hsh, y1, hh2]
        refine callI_of cal60 (dSync h2 _ room _ safe i v1 hst) fun r h3 hh => ?_
        simp only [bW, retA_normal, Tryz.results18, resultsA_0]
        exact hid_mk (fin h2 _ hst (e3.trans y3 fun k _ hk => by unfold Parts; right; rw [← e2]; exact hk) (by rw [hcr, if_pos ⟨c1, c2, c3⟩, hbs]) r h3 hh)
      · simp only [bW, Nat.reduceEqDiff, reduceCtorEq, c1, c2, c3]
        refine callI_of cal60 (dSync h1 _ room _ safe i v1 e1) fun r h3 hh => ?_
        simp only [bW, retA_normal, Tryz.results18, resultsA_0]
        exact hid_mk (fin h1 _ e1 e3 (noT (by omega)) r h3 hh)
    · simp only [bW, Nat.reduceEqDiff, reduceCtorEq, c1, c2]
      refine callI_of cal60 (dSync h1 _ room _ safe i v1 e1) fun r h3 hh => ?_
      simp only [bW, retA_normal, Tryz.results18, resultsA_0]
      exact hid_mk (fin h1 _ e1 e3 (noT (by omega)) r h3 hh)
  · simp only [bW, Nat.reduceEqDiff, reduceCtorEq, c1]
    refine callI_of cal60 (dSync h1 _ room _ safe i v1 e1) fun r h3 hh => ?_
    simp only [bW, retA_normal, Tryz.results18, resultsA_0]
    exact hid_mk (fin h1 _ e1 e3 (noT (by omega)) r h3 hh)

end Go.Proofs.YtilgpaibolollaaGreat.Pk
namespace Go.Proofs.YtilgpaibolollaaGreat.Pk
open Go Go.Proofs Go.Proofs.YtilgpaibolollaaGreat.Ab
set_option maxRecDepth 10000
set_option linter.unusedVariables false
set_option linter.unusedSimpArgs false
theorem dAppendImm (h : AHeap) (p : V) (room : Int) (bs : List Int) (safe : Int) (i : Nat) (v : V) (d : IsDisk h p room bs safe i v) (ns : List Int) :
    SCalls Tryz.prog 20 [p, .imm ns.length (ns.map (.int .u8))] h (fun r h' => if (bs.length + ns.length : Int) ≤ room
      then r = .int .i64 0 ∧ ∃ v', IsDisk h' p room (bs ++ ns) safe i v' ∧ NewP h i v v' ∧ Keep h h' (Parts i v)
      else r = .int .i64 3 ∧ h' = h) :=
  dAppend h p room bs safe i v d _ ns (imm_src kt_29 (by simp) (one_u8 ns)) (aLen_imm kt_29)

set_option maxRecDepth 10000 in
theorem dCut (h : AHeap) (p : V) (room : Int) (bs : List Int) (safe : Int) (i : Nat) (v : V) (d : IsDisk h p room bs safe i v) (n : Int) :
    SCalls Tryz.prog 162 [p, .int .i64 n] h (fun r h' => if 0 ≤ n ∧ n ≤ bs.length
      then r = .int .i64 0 ∧ ∃ v', IsDisk h' p room (bs.take n.toNat) (min safe n) i v' ∧ idOf v' = idOf v ∧ Keep h h' (Parts i v)
      else r = .int .i64 2 ∧ h' = h) := by
  have hlen := d.aLen
  have d0 := d
  obtain ⟨rfl, hi, hg, ho, hne, d1, d2, d3, d4⟩ := d
  refine SCalls.enterI (c := _) Tryz.func162 rfl (by kernel_rfl) (by simp) ?_
  by_cases h0 : n < 0
  · have c0 : decide (n < 0) = true := by simp [h0]
    simp only [bW, Nat.reduceEqDiff, reduceCtorEq, kt_25, c0, retA_ret, Tryz.results162, resultsA_1]
    refine hid_mk ?_
    rw [if_neg (by omega)]
    exact ⟨rfl, rfl⟩
  · have c0 : decide (n < 0) = false := by simp; omega
    by_cases h1 : n ≤ bs.length
    · have c1 : decide ((bs.length : Int) < n) = false := by simp; omega
      simp only [bW, Nat.reduceEqDiff, Nat.reduceAdd, Nat.reduceLeDiff, reduceCtorEq, ft_95_1, kt_25, lt_29, c0, hg, hlen, c1]
      obtain ⟨m, rfl⟩ : ∃ m : Nat, n = m := ⟨n.toNat, by omega⟩
      refine callI_of cal59 (dKeep h _ room bs safe i v d0 m (by omega)) fun r h1 ⟨v1, e1, e2, e3⟩ => ?_
      simp only [bW, Nat.reduceEqDiff, retA_ret, Tryz.results162, resultsA_1]
      refine hid_mk ?_
      rw [if_pos (by omega), Int.toNat_natCast]
      exact ⟨rfl, v1, e1, e2, e3⟩
    · have c1 : decide ((bs.length : Int) < n) = true := by simp; omega
      simp only [bW, Nat.reduceEqDiff, Nat.reduceAdd, Nat.reduceLeDiff, reduceCtorEq, ft_95_1, kt_25, lt_29, c0, hg, hlen, c1, retA_ret, Tryz.results162, resultsA_1]
      refine hid_mk ?_
      rw [if_neg (by omega)]
      exact ⟨rfl, rfl⟩
end Go.Proofs.YtilgpaibolollaaGreat.Pk
namespace Go.Proofs.YtilgpaibolollaaGreat.Pk
open Go Go.Proofs Go.Proofs.YtilgpaibolollaaGreat.Ab
set_option maxRecDepth 10000
set_option linter.unusedVariables false
set_option linter.unusedSimpArgs false
/-! ### A tape: frames on a disk -/
theorem mBytes : methOk Tryz.prog 25 "Bytes" 161 := ⟨fun v w => by kernel_rfl, by kernel_rfl⟩
theorem mSync : methOk Tryz.prog 25 "Sync" 60 := ⟨fun v w => by kernel_rfl, by kernel_rfl⟩
theorem mCut : methOk Tryz.prog 25 "Cut" 162 := ⟨fun v w => by kernel_rfl, by kernel_rfl⟩
theorem mAppend : methOk Tryz.prog 25 "Append" 20 := ⟨fun v w => by kernel_rfl, by kernel_rfl⟩
def nI (l : List Nat) : List Int := l.map fun (n : Nat) => (n : Int)
theorem nI_len (l : List Nat) : (nI l).length = l.length := by simp [nI]
theorem nI_take (l : List Nat) (k : Nat) : (nI l).take k = nI (l.take k) := by unfold nI; rw [List.map_take]
theorem nI_app (a b : List Nat) : nI (a ++ b) = nI a ++ nI b := by simp [nI]
theorem nI_bytes (l : List Nat) : (nI l).map (V.int .u8) = bytesV l := by unfold nI bytesV; rw [List.map_map]; rfl
theorem scanF_le : ∀ (k : Nat) (b : List Nat), (scanF k b).2 ≤ b.length
  | 0, b => Nat.zero_le _
  | k + 1, b => by
    unfold scanF
    split
    · exact Nat.zero_le _
    · rename_i hh
      have hok := openC_ok b (by
        rcases Nat.eq_zero_or_pos (openC b).2.2 with h0 | h0
        · exact h0
        · exact absurd (.inr (by omega)) hh)
      have ih := scanF_le k (b.drop (openC b).2.1)
      rw [List.length_drop] at ih
      simp only
      omega
set_option maxRecDepth 10000 in
theorem tLoad (h : AHeap) (i j : Nat) (room : Int) (bs : List Nat) (hb : ∀ x ∈ bs, x < 256) (safe : Int) (v : V) (d : IsDisk h (.ptr i 0) room (nI bs) safe i v) (hj : j < h.n)
    (gj : h.get j = .cells [.iface 25 (.ptr i 0)] 152 none) (hij : j ≠ i) (hvj : idOf v ≠ some j) :
    SCalls Tryz.prog 80 [.ptr j 0] h (fun r h' => ∃ pv v', r = .tuple [pv, .int .i64 ((bs.length : Int) - ((scanF bs.length bs).2 : Nat))] ∧
      IsDisk h' (.ptr i 0) room (nI (bs.take (scanF bs.length bs).2)) ((scanF bs.length bs).2 : Nat) i v' ∧ idOf v' = idOf v ∧ Own h' 29 1 pv (rowV (scanF bs.length bs).1) ∧ (∀ k, idOf pv = some k → h.n ≤ k) ∧ Keep h h' (Parts i v)) := by
  have hbl : bs.length ≤ 1048576 := by have := d.len; have := d.most; rw [nI_len] at *; omega
  have hsl := scanF_le bs.length bs
  have pB := dBytes h (.ptr i 0) room (nI bs) safe i v d
  rw [nI_len, nI_bytes] at pB
  refine SCalls.enterI (c := _) Tryz.func80 rfl (by kernel_rfl) (by simp) ?_
  simp only [bW, Nat.reduceEqDiff, reduceCtorEq, ft_152_0, lt_150, gj, invI_of mBytes]
  refine callI_pure cal161 pB ?_
  simp only [bW, Nat.reduceEqDiff]
  refine callI_of cal105 (Scan bs h hb (by omega)) fun r1 h1 ⟨pv, e1, a1⟩ => ?_
  subst e1
  have gj1 := (a1.keep.get j hj (fun h => h)).trans gj
  have d1 := d.keepN a1.keep
  generalize scanF bs.length bs = S at *
  obtain ⟨l, n⟩ := S
  simp only at hsl a1 ⊢
  simp only [bW, Nat.reduceEqDiff, reduceCtorEq, ft_152_0, lt_150, gj1, invI_of mCut]
  refine callI_of cal162 (dCut h1 _ room (nI bs) safe i v d1 (n : Int)) fun r2 h2 hp => ?_
  rw [nI_len, if_pos (by omega), Int.toNat_natCast, nI_take] at hp
  obtain ⟨e2, v2, d2, i2, k2⟩ := hp
  have gj2 := (k2.get j (Nat.lt_of_lt_of_le hj a1.keep.n) (fun hh => hh.elim (fun q => hij q) (fun q => hvj q))).trans gj1
  simp only [bW, Nat.reduceEqDiff, reduceCtorEq, ft_152_0, lt_150, gj2, invI_of mSync]
  refine callI_of cal60 (dSync h2 _ room _ _ i v2 d2) fun r3 h3 ⟨d3, k3⟩ => ?_
  have hw : IntKind.i64.wrap ((bs.length : Int) - (n : Int)) = (bs.length : Int) - (n : Int) := Go.IntWalk.i64_in _ (by omega)
  simp only [bW, Nat.reduceEqDiff, kt_29, hw, retA_ret, Tryz.results80, resultsA_2]
  rw [nI_len, List.length_take, Nat.min_eq_left hsl] at d3
  have hpn : ∀ k, idOf pv = some k → ¬ Parts i v k := fun k hk hp => by
    have := a1.new k hk
    rcases hp with hp | hp
    · have := d.lt; omega
    · have := d.own.lt k hp; omega
  refine hid_mk ⟨pv, v2, rfl, d3, i2, (a1.own.keep k2 hpn).keep k3 ?_, a1.new, ?_⟩
  · rintro k hk (h | h)
    · exact hpn k hk (.inl h)
    · exact hpn k hk (.inr (i2 ▸ h))
  · exact ((a1.keep.mono fun _ h => False.elim h).trans k2 fun _ _ h => h).trans k3 fun k _ h => by
      rcases h with h | h
      · exact .inl h
      · exact .inr (i2 ▸ h)
end Go.Proofs.YtilgpaibolollaaGreat.Pk
namespace Go.Proofs.YtilgpaibolollaaGreat.Pk
open Go Go.Proofs Go.Proofs.YtilgpaibolollaaGreat.Ab
set_option maxRecDepth 10000
set_option linter.unusedVariables false
set_option linter.unusedSimpArgs false
/-- What a frame more makes of a disk. -/
def putBad (room : Int) (bs l : List Nat) : Int := if 4096 < l.length then 2 else if (bs.length + (frame l).length : Int) ≤ room then 0 else 3
set_option maxRecDepth 10000 in
theorem tPut (h : AHeap) (i j : Nat) (room : Int) (bs : List Nat) (safe : Int) (v : V) (d : IsDisk h (.ptr i 0) room (nI bs) safe i v) (hj : j < h.n)
    (gj : h.get j = .cells [.iface 25 (.ptr i 0)] 152 none) (hij : j ≠ i) (hvj : idOf v ≠ some j) (l : List Nat) (hl : l.length ≤ 2 ^ 40) :
    SCalls Tryz.prog 111 [.ptr j 0, .imm l.length (bytesV l)] h (fun r h' => r = .int .i64 (putBad room bs l) ∧
      if putBad room bs l = 0 then ∃ v', IsDisk h' (.ptr i 0) room (nI (bs ++ frame l)) safe i v' ∧ NewP h i v v' ∧ Keep h h' (Parts i v) else h' = h) := by
  refine SCalls.enterI (c := _) Tryz.func111 rfl (by kernel_rfl) (by simp) ?_
  simp only [bW, Nat.reduceEqDiff]
  refine callI_pure cal122 (Frame l h hl) ?_
  by_cases hbig : 4096 < l.length
  · have hF : frameV l = .tuple [.snil, .int .i64 2] := by rw [frameV, if_pos hbig]
    have hP : putBad room bs l = 2 := by rw [putBad, if_pos hbig]
    have d1 : ((2 : Int) != 0) = true := rfl
    simp only [bW, hF, Nat.reduceEqDiff, d1, retA_ret, Tryz.results111, resultsA_1]
    exact hid_mk ⟨by rw [hP], by rw [hP, if_neg (by decide)]⟩
  have hF : frameV l = .tuple [.imm (frame l).length (bytesV (frame l)), .int .i64 0] := by rw [frameV, if_neg hbig]
  have d1 : ((0 : Int) != 0) = false := rfl
  have dA := dAppendImm h (.ptr i 0) room (nI bs) safe i v d (nI (frame l))
  rw [nI_len, nI_len, nI_bytes] at dA
  simp only [bW, hF, Nat.reduceEqDiff, reduceCtorEq, ft_152_0, lt_150, gj, invI_of mAppend]
  refine callI_of cal20 dA fun r h1 hp => ?_
  by_cases hfit : (bs.length + (frame l).length : Int) ≤ room
  · have hP : putBad room bs l = 0 := by rw [putBad, if_neg hbig, if_pos hfit]
    rw [if_pos hfit] at hp
    obtain ⟨rfl, v1, d2, n2, k2⟩ := hp
    simp only [bW, Nat.reduceEqDiff, retA_ret, Tryz.results111, resultsA_1]
    refine hid_mk ⟨by rw [hP], ?_⟩
    rw [hP, if_pos rfl, nI_app]
    exact ⟨v1, d2, n2, k2⟩
  · have hP : putBad room bs l = 3 := by rw [putBad, if_neg hbig, if_neg hfit]
    rw [if_neg hfit] at hp
    obtain ⟨rfl, rfl⟩ := hp
    simp only [bW, Nat.reduceEqDiff, retA_ret, Tryz.results111, resultsA_1]
    exact hid_mk ⟨by rw [hP], by rw [hP, if_neg (by decide)]⟩

/-- A segment: its disk, its tape, its row of payloads. -/
structure IsSeg (h : AHeap) (k j i : Nat) (room : Int) (bs : List Nat) (safe : Int) (v pv : V) (l : List (List Nat)) (torn : Int) : Prop where
  lt : k < h.n
  get : h.get k = .cells [.ptr j 0, pv, .int .i64 torn] 148 none
  ltj : j < h.n
  getj : h.get j = .cells [.iface 25 (.ptr i 0)] 152 none
  disk : IsDisk h (.ptr i 0) room (nI bs) safe i v
  row : Own h 29 1 pv (rowV l)
  kj : k ≠ j
  ki : k ≠ i
  ji : j ≠ i
  vk : idOf v ≠ some k
  vj : idOf v ≠ some j
  pi : idOf pv ≠ some i
  pj : idOf pv ≠ some j
  pk : idOf pv ≠ some k
  pv_ : ∀ x, idOf pv = some x → idOf v ≠ some x
/-- What belongs to a segment. -/
def SegP (k j i : Nat) (v pv : V) : Nat → Prop := fun x => x = k ∨ x = j ∨ x = i ∨ idOf v = some x ∨ idOf pv = some x
theorem IsSeg.keep {h h' : AHeap} {k j i : Nat} {room safe torn : Int} {bs : List Nat} {v pv : V} {l : List (List Nat)} (s : IsSeg h k j i room bs safe v pv l torn) {own : Nat → Prop} (hk : Keep h h' own) (hne : ∀ x, SegP k j i v pv x → ¬ own x) : IsSeg h' k j i room bs safe v pv l torn :=
  ⟨Nat.lt_of_lt_of_le s.lt hk.n, (hk.get k s.lt (hne k (.inl rfl))).trans s.get, Nat.lt_of_lt_of_le s.ltj hk.n, (hk.get j s.ltj (hne j (.inr (.inl rfl)))).trans s.getj,
    s.disk.keep hk (fun x hx => hne x (hx.elim (fun q => .inr (.inr (.inl q))) fun q => .inr (.inr (.inr (.inl q))))), s.row.keep hk (fun x hx => hne x (.inr (.inr (.inr (.inr hx))))), s.kj, s.ki, s.ji, s.vk, s.vj, s.pi, s.pj, s.pk, s.pv_⟩
theorem IsSeg.keepN {h h' : AHeap} {k j i : Nat} {room safe torn : Int} {bs : List Nat} {v pv : V} {l : List (List Nat)} (s : IsSeg h k j i room bs safe v pv l torn) (hk : Keep h h' none_) : IsSeg h' k j i room bs safe v pv l torn := s.keep hk fun _ _ h => h
end Go.Proofs.YtilgpaibolollaaGreat.Pk
namespace Go.Proofs.YtilgpaibolollaaGreat.Pk
open Go Go.Proofs Go.Proofs.YtilgpaibolollaaGreat.Ab
set_option maxRecDepth 10000
set_option linter.unusedVariables false
set_option linter.unusedSimpArgs false
set_option maxRecDepth 10000 in
theorem sOpen (h : AHeap) (i : Nat) (room : Int) (bs : List Nat) (hb : ∀ x ∈ bs, x < 256) (safe : Int) (v : V) (d : IsDisk h (.ptr i 0) room (nI bs) safe i v) :
    SCalls Tryz.prog 39 [.ptr i 0] h (fun r h' => ∃ k j v' pv, r = .ptr k 0 ∧ IsSeg h' k j i room (bs.take (scanF bs.length bs).2) ((scanF bs.length bs).2 : Nat) v' pv (scanF bs.length bs).1 ((bs.length : Int) - ((scanF bs.length bs).2 : Nat)) ∧
      idOf v' = idOf v ∧ h.n ≤ k ∧ h.n ≤ j ∧ (∀ x, idOf pv = some x → h.n ≤ x) ∧ Keep h h' (Parts i v)) := by
  have hi := d.lt
  have hvl := d.own.lt
  refine SCalls.enterI (c := _) Tryz.func39 rfl (by kernel_rfl) (by simp) ?_
  simp only [bW, Nat.reduceEqDiff, Nat.reduceAdd, Nat.reduceLeDiff, reduceCtorEq, ft_148_0, if_25, kt_25, lt_146, pl_148, pl_152, zc_148, zc_152]
  have kp : ∀ a b : AObj, Keep h ((h.push a).push b) none_ := fun a b => (Keep.push _ _ _).trans (Keep.push _ _ _) fun _ _ h => h
  generalize hA : AObj.cells [.iface 25 (.ptr i 0)] 152 none = A
  generalize hB : AObj.cells [.ptr h.n 0, .snil, .int .i64 0] 148 none = B
  have gA : ((h.push A).push B).get h.n = A := get_push2'
  have gB : ((h.push A).push B).get (h.n + 1) = B := get_push2
  have n2 : ((h.push A).push B).n = h.n + 2 := rfl
  have kab := kp A B
  generalize (h.push A).push B = h0 at gA gB n2 kab ⊢
  subst hA hB
  refine callI_of cal80 (tLoad h0 i h.n room bs hb safe v (d.keepN kab) (by omega) gA (by omega) (fun hh => by have := hvl _ hh; omega)) fun r1 h1 ⟨pv, v1, e1, d1, i1, o1, n1, k1⟩ => ?_
  subst e1
  have hns : ∀ x, h.n ≤ x → ¬ Parts i v x := fun x hx hp => by
    rcases hp with hp | hp
    · omega
    · have := hvl _ hp; omega
  have gA1 := (k1.get h.n (by omega) (hns _ (by omega))).trans gA
  have gB1 := (k1.get (h.n + 1) (by omega) (hns _ (by omega))).trans gB
  have o1' := one_of_own o1
  simp only [bW, Nat.reduceEqDiff, Nat.reduceAdd, Nat.reduceLeDiff, ft_148_1, ft_148_2, zt_3, zt_73, gB1, o1'.1, o1'.2, retA_ret, Tryz.results39, resultsA_1]
  have hv1 : ∀ x, idOf v1 = some x → x < h.n := fun x hx => hvl x (i1 ▸ hx)
  have hsn := (k1.n)
  refine hid_mk ⟨h.n + 1, h.n, v1, pv, rfl, ⟨by simp only [set_n]; omega, get_set_same, by simp only [set_n]; omega, ?_, ?_, ?_, by omega, by omega, by omega, ?_, ?_, ?_, ?_, ?_, ?_⟩, i1, by omega, by omega, fun x hx => by have := n1 x hx; omega, ?_⟩
  · rw [get_set_ne (by omega)]
    exact gA1
  · exact d1.keep (Keep.set _ _ _) fun x hx hh => by
      rcases hx with hx | hx
      · omega
      · have := hv1 x hx; omega
  · exact o1.keep (Keep.set _ _ _) fun x hx hh => by have := n1 x hx; omega
  · intro hh; have := hv1 _ hh; omega
  · intro hh; have := hv1 _ hh; omega
  · intro hh; have := n1 _ hh; omega
  · intro hh; have := n1 _ hh; omega
  · intro hh; have := n1 _ hh; omega
  · intro x hx hh; have := n1 _ hx; have := hv1 _ hh; omega
  · exact ((kab.mono fun _ h => False.elim h).trans k1 fun _ _ h => h).trans (Keep.set _ _ _) fun x hx hh => by omega
end Go.Proofs.YtilgpaibolollaaGreat.Pk
namespace Go.Proofs.YtilgpaibolollaaGreat.Pk
open Go Go.Proofs Go.Proofs.YtilgpaibolollaaGreat.Ab
set_option maxRecDepth 10000
set_option linter.unusedVariables false
set_option linter.unusedSimpArgs false
theorem sLen (h : AHeap) (k j i : Nat) (room safe torn : Int) (bs : List Nat) (v pv : V) (l : List (List Nat)) (s : IsSeg h k j i room bs safe v pv l torn) (hl : l.length ≤ 2 ^ 40) :
    Pure Tryz.prog 40 [.ptr k 0] h (.int .i64 (l.length : Nat)) := by
  have g := s.get
  have hlen := s.row.length (by decide) Tryz.prog kt_73
  rw [rowV_len, Nat.div_one] at hlen
  refine SCalls.enterI (c := _) Tryz.func40 rfl (by kernel_rfl) (by simp) ?_
  simp only [bW, Nat.reduceEqDiff, Nat.reduceAdd, Nat.reduceLeDiff, reduceCtorEq, ft_148_1, kt_96, lt_73, g, hlen, retA_ret, Tryz.results40, resultsA_1]
  exact hid_mk ⟨rfl, rfl⟩
theorem sSync (h : AHeap) (k j i : Nat) (room safe torn : Int) (bs : List Nat) (v pv : V) (l : List (List Nat)) (s : IsSeg h k j i room bs safe v pv l torn) :
    SCalls Tryz.prog 92 [.ptr k 0] h (fun r h' => IsSeg h' k j i room bs (bs.length : Nat) v pv l torn ∧ Keep h h' (Parts i v)) := by
  have g := s.get
  have gj := s.getj
  refine SCalls.enterI (c := _) Tryz.func92 rfl (by kernel_rfl) (by simp) ?_
  simp only [bW, Nat.reduceEqDiff, Nat.reduceAdd, reduceCtorEq, ft_148_0, ft_152_0, kt_146, kt_96, lt_146, lt_150, g, gj, invI_of mSync]
  refine callI_of cal60 (dSync h _ room _ _ i v s.disk) fun r3 h3 ⟨d3, k3⟩ => ?_
  simp only [bW, retA_normal, Tryz.results92, resultsA_0]
  rw [nI_len] at d3
  have np : ∀ x, x ≠ i → idOf v ≠ some x → ¬ Parts i v x := fun x h1 h2 hh => hh.elim h1 h2
  refine hid_mk ⟨⟨Nat.lt_of_lt_of_le s.lt k3.n, (k3.get k s.lt (np k s.ki s.vk)).trans g, Nat.lt_of_lt_of_le s.ltj k3.n, (k3.get j s.ltj (np j s.ji s.vj)).trans gj, d3, s.row.keep k3 (fun x hx => np x (fun e => s.pi (e ▸ hx)) (s.pv_ x hx)), s.kj, s.ki, s.ji, s.vk, s.vj, s.pi, s.pj, s.pk, s.pv_⟩, k3⟩
theorem own_src1 (h : AHeap) (v : V) (hv : v.one = true) : aSrc Tryz.prog 1 73 (.sl h.n 0 1 1) (h.push (.cells [v] 29 none)) = some (1, [v]) := by
  have u : Tryz.prog.underlying 73 = some (.slice 29) := by kernel_rfl
  unfold aSrc
  simp only [u, get_push_new]
  simp [hv]
set_option maxRecDepth 10000 in
theorem sPut (h : AHeap) (k j i : Nat) (room safe torn : Int) (bs : List Nat) (v pv : V) (l : List (List Nat)) (s : IsSeg h k j i room bs safe v pv l torn) (hl : l.length ≤ 2 ^ 30) (x : List Nat) (hx : x.length ≤ 2 ^ 40) :
    SCalls Tryz.prog 90 [.ptr k 0, .imm x.length (bytesV x)] h (fun r h' => r = .int .i64 (putBad room bs x) ∧
      if putBad room bs x = 0 then ∃ v' pv', IsSeg h' k j i room (bs ++ frame x) safe v' pv' (l ++ [x]) torn ∧ NewP h i v v' ∧ (idOf pv' = idOf pv ∨ ∀ y, idOf pv' = some y → h.n ≤ y) ∧ Keep h h' (SegP k j i v pv) else h' = h) := by
  have g := s.get
  have gj := s.getj
  have nj : (96 : Nat) = 96 := rfl
  have np : ∀ y, y ≠ i → idOf v ≠ some y → ¬ Parts i v y := fun y h1 h2 hh => hh.elim h1 h2
  refine SCalls.enterI (c := _) Tryz.func90 rfl (by kernel_rfl) (by simp) ?_
  simp only [bW, Nat.reduceEqDiff, Nat.reduceAdd, reduceCtorEq, ft_148_0, kt_146, kt_96, lt_146, g]
  refine callI_of cal111 (tPut h i j room bs safe v s.disk s.ltj gj s.ji.symm.symm s.vj x hx) fun r1 h1 ⟨e1, hp⟩ => ?_
  subst e1
  by_cases hP : putBad room bs x = 0
  case neg =>
    have d1 : (putBad room bs x != 0) = true := by simp [hP]
    rw [if_neg hP] at hp
    subst hp
    simp only [bW, Nat.reduceEqDiff, d1, retA_ret, Tryz.results90, resultsA_1]
    exact hid_mk ⟨rfl, by rw [if_neg hP]⟩
  rw [if_pos hP] at hp
  obtain ⟨v1, d1, n1, k1⟩ := hp
  have g1 := (k1.get k s.lt (np k s.ki s.vk)).trans g
  have gj1 := (k1.get j s.ltj (np j s.ji s.vj)).trans gj
  have o1 : Own h1 29 1 pv (rowV l) := s.row.keep k1 (fun y hy => np y (fun e => s.pi (e ▸ hy)) (s.pv_ y hy))
  rw [hP]
  simp only [bW, Nat.reduceEqDiff]
  have f1 : isId pv k = False := eq_false s.pk
  have c1 := one_of_own o1
  have hcl : [pv].head? = some pv := rfl
  refine SWp.drawnS (fun y => isId pv y) [7, 8, 11] (.q 0 (.q 1 (.q 2 (.q 3 (.q 4 (.q 5 (.c 6 (.e 7 (.e 8 (.q 9 (.q 10 (.a 11 .done))) .stop) .stop)))))))) (by kernel_rfl) (by kernel_rfl) (by kernel_rfl) ?_
  have g1d : dropC (.cells [.ptr j 0, pv, .int .i64 torn] 148 none) 1 = some [pv, .int .i64 torn] := rfl
  simp only [bW, bS, bM, Nat.reduceEqDiff, reduceCtorEq, ft_148_1, lt_73, g1, g1d, f1]
  refine siI_c rfl rfl rfl (fun h' _ => pCloneB x (by omega) h') ?_
  obtain ⟨w, h3, e3, ho3, k3, n3⟩ := append_own (P := Tryz.prog) (t := 73) (tx := 73) (h := h1.push (.cells [.imm x.length (bytesV x)] 29 none)) (x := .sl h1.n 0 1 1) (n := 1) (news := [.imm x.length (bytesV x)]) sl_73 (by decide) (o1.keepN (Keep.push _ _ _)) (own_src1 h1 _ rfl) rfl (by simp only [rowV_len, lim]; simp; omega) (by simp only [rowV_len, lim]; simp; omega)
  have cw := one_of_own ho3
  have k13 : Keep h1 h3 (fun y => isId pv y) := ((Keep.push _ _ _).mono fun _ h => False.elim h).trans k3 fun _ _ h => h
  have gk3 := (k13.get k (Nat.lt_of_lt_of_le s.lt k1.n) s.pk).trans g1
  have gj3 := (k13.get j (Nat.lt_of_lt_of_le s.ltj k1.n) s.pj).trans gj1
  have hset : setC (some 1) (AObj.cells [.ptr j 0, pv, .int .i64 torn] 148 none) 1 [w] = some (.cells [.ptr j 0, w, .int .i64 torn] 148 none) := by rw [setC_one cw.2]; rfl
  simp only [bW, bS, bM, Nat.reduceEqDiff, ft_148_1, zt_73, lit1r, e3, cw.1, gk3, hset, retA_ret, Tryz.results90, resultsA_1]
  refine ⟨k13, ?_⟩
  have kn := k1.n
  have kn3 := k13.n
  have pl : ∀ y, idOf pv = some y → y < h.n := s.row.lt
  have vl : ∀ y, idOf v1 = some y → y < h1.n := d1.own.lt
  have sk := s.lt
  have sj := s.ltj
  have wid : ∀ y, idOf w = some y → (idOf pv = some y) ∨ h1.n ≤ y := fun y hy => by
    rcases n3 with n3 | n3
    · exact .inl (n3 ▸ hy)
    · have := n3 y hy; rw [push_n] at this; exact .inr (by omega)
  have v1v : ∀ y, idOf v1 = some y → (idOf v = some y) ∨ h.n ≤ y := fun y hy => by
    rcases n1 with n1 | n1
    · exact .inl (n1 ▸ hy)
    · exact .inr (n1 y hy)
  have v1p : ∀ y, idOf v1 = some y → idOf pv ≠ some y := fun y hy hp => by
    rcases v1v y hy with e | e
    · exact s.pv_ y hp e
    · have := pl y hp; omega
  have v1k : idOf v1 ≠ some k := fun hy => (v1v k hy).elim s.vk fun e => by omega
  have v1j : idOf v1 ≠ some j := fun hy => (v1v j hy).elim s.vj fun e => by omega
  have di := s.disk.lt
  refine hid_mk ⟨rfl, ?_⟩
  rw [if_pos rfl]
  have kset := Keep.set h3 k (.cells [.ptr j 0, w, .int .i64 torn] 148 none)
  refine ⟨v1, w, ⟨by rw [set_n]; omega, get_set_same, by rw [set_n]; omega, (get_set_ne s.kj.symm).trans gj3, ?_, ?_, s.kj, s.ki, s.ji, v1k, v1j, ?_, ?_, ?_, ?_⟩, n1, ?_, ?_⟩
  · refine (d1.keep k13 fun y hy hh => ?_).keep kset fun y hy hh => ?_
    · rcases hy with hy | hy
      · subst hy; exact s.pi hh
      · exact v1p y hy hh
    · rcases hy with hy | hy
      · exact s.ki (hh.symm.trans hy)
      · subst hh; exact v1k hy
  · rw [rowV_app]
    exact ho3.keep kset fun y hy hh => by
      subst hh
      rcases wid y hy with e | e
      · exact s.pk e
      · omega
  · intro hy; rcases wid i hy with e | e
    · exact s.pi e
    · omega
  · intro hy; rcases wid j hy with e | e
    · exact s.pj e
    · omega
  · intro hy; rcases wid k hy with e | e
    · exact s.pk e
    · omega
  · intro y hy hv; rcases wid y hy with e | e
    · exact v1p y hv e
    · have := vl y hv; omega
  · rcases n3 with n3 | n3
    · exact .inl n3
    · exact .inr fun y hy => by have := n3 y hy; rw [push_n] at this; omega
  · refine ((k1.mono fun y hy => ?_).trans k13 fun y _ hy => ?_).trans kset fun y _ hy => ?_
    · exact hy.elim (fun e => .inr (.inr (.inl e))) fun e => .inr (.inr (.inr (.inl e)))
    · exact .inr (.inr (.inr (.inr hy)))
    · exact .inl hy
end Go.Proofs.YtilgpaibolollaaGreat.Pk
namespace Go.Proofs.YtilgpaibolollaaGreat.Pk
open Go Go.Proofs Go.Proofs.YtilgpaibolollaaGreat.Ab
set_option maxRecDepth 10000
set_option linter.unusedVariables false
set_option linter.unusedSimpArgs false
set_option maxRecDepth 10000 in
theorem sGet (h : AHeap) (k j i : Nat) (room safe torn : Int) (bs : List Nat) (v pv : V) (l : List (List Nat)) (s : IsSeg h k j i room bs safe v pv l torn) (hl : l.length ≤ 2 ^ 40) (n : Nat) (hn : n < l.length) (hx : l[n].length ≤ 2 ^ 40) :
    Pure Tryz.prog 41 [.ptr k 0, .int .i64 (n : Nat)] h (.tuple [.imm l[n].length (bytesV l[n]), .int .i64 0]) := by
  have g := s.get
  obtain ⟨q, e1, e2, ⟨rest, e3⟩, _⟩ := own_elem (P := Tryz.prog) (t := 73) (kk := .i64) ss_73 s.row (k := n) (by rw [rowV_len]; exact hn)
  have hel : (rowV l)[n]'(by rw [rowV_len]; exact hn) = .imm l[n].length (bytesV l[n]) := by simp [rowV]
  rw [hel] at e3
  have c1 : decide ((n : Int) < 0) = false := by simp
  have c2 : decide (((l.length : Nat) : Int) ≤ (n : Int)) = false := by rw [decide_eq_false_iff_not]; omega
  refine SCalls.enterI (c := _) Tryz.func41 rfl (by kernel_rfl) (by simp) ?_
  simp only [bW, Nat.reduceEqDiff, reduceCtorEq, c1]
  refine callI_pure cal40 (sLen h k j i room safe torn bs v pv l s hl) ?_
  simp only [bW, Nat.reduceEqDiff, Nat.reduceAdd, Nat.reduceLeDiff, reduceCtorEq, ft_148_1, lt_29, lt_73, c2, g, e1, e3]
  refine callI_pure cal64 (pCloneB l[n] (by omega) h) ?_
  simp only [bW, Nat.reduceEqDiff, retA_ret, Tryz.results41, resultsA_2]
  exact hid_mk ⟨rfl, rfl⟩
end Go.Proofs.YtilgpaibolollaaGreat.Pk
namespace Go.Proofs.YtilgpaibolollaaGreat.Pk
open Go Go.Proofs Go.Proofs.YtilgpaibolollaaGreat.Ab
set_option maxRecDepth 10000
set_option linter.unusedVariables false
set_option linter.unusedSimpArgs false
/-! ### What a payload tells -/
structure Act where
  kind : Int
  epoch : Int
  at_ : Int
  bytes : List Nat
def actE (a : Act) : List V := [.int .i64 a.kind, .int .i64 a.epoch, .int .i64 a.at_, .imm a.bytes.length (bytesV a.bytes)]
theorem actE_clo (a : Act) : CloL (actE a) := CloL.cons (Clo.int _ _) (CloL.cons (Clo.int _ _) (CloL.cons (Clo.int _ _) (CloL.cons (Clo.imm (bytesV_clo _)) CloL.nil)))
def mayEp (n : Int) : Bool := decide (0 ≤ n) && decide (n ≤ 1048576)
def mayWr (a : Act) : Bool := decide (0 ≤ a.at_) && decide (a.at_ < 4096) && mayEp a.epoch && decide (a.bytes.length ≤ 2048)
theorem pMayEpoch (n : Int) (h : AHeap) : Pure Tryz.prog 57 [.int .i64 n] h (.bool (mayEp n)) := by
  refine SCalls.enterI (c := _) Tryz.func57 rfl (by kernel_rfl) (by simp) ?_
  by_cases h1 : 0 ≤ n
  · simp only [bW, Nat.reduceEqDiff, reduceCtorEq, h1, retA_ret, Tryz.results57, resultsA_1]
    exact hid_mk ⟨by simp [mayEp, h1], rfl⟩
  · simp only [bW, Nat.reduceEqDiff, reduceCtorEq, h1, retA_ret, Tryz.results57, resultsA_1]
    exact hid_mk ⟨by simp [mayEp, h1], rfl⟩
/-- A number of a payload; 1048577 where there is none, or a greater one. -/
def numN (bs : List Nat) : Nat := if (dec bs 0 0).2.2 ≠ 0 ∨ 1048576 < (dec bs 0 0).1 then 1048577 else (dec bs 0 0).1
theorem number_ (p : V) (i : Nat) (bs : List Nat) (h : AHeap) (hr : IsRd h p i bs) (hb : ∀ b ∈ bs, b < 256) (hc : bs.length ≤ 2 ^ 47) :
    SCalls Tryz.prog 82 [p] h (fun r h' => r = .int .i64 (numN bs : Nat) ∧ IsRd h' p i (bs.drop (dec bs 0 0).2.1) ∧ Keep h h' (· = i)) := by
  refine SCalls.enterI (c := _) Tryz.func82 rfl (by kernel_rfl) (by simp) ?_
  simp only [bW, Nat.reduceEqDiff, reduceCtorEq]
  refine callI_of cal107 (RUint p i bs h hr hb hc) fun r1 h1 ⟨e1, rd1, k1⟩ => ?_
  subst e1
  unfold numN
  generalize dec bs 0 0 = D at *
  obtain ⟨n, used, err⟩ := D
  simp only at rd1 ⊢
  by_cases herr : err = 0
  case neg =>
    have d1 : ((err : Int) != 0) = true := by simp; omega
    simp only [bW, Nat.reduceEqDiff, d1, retA_ret, Tryz.results82, resultsA_1]
    rw [if_pos (.inl herr)]
    exact hid_mk ⟨rfl, rd1, k1⟩
  subst herr
  have d1 : (((0 : Nat) : Int) != 0) = false := rfl
  by_cases hbig : 1048576 < n
  · have d2 : decide ((1048576 : Int) < (n : Int)) = true := by rw [decide_eq_true_iff]; omega
    simp only [bW, Nat.reduceEqDiff, d1, d2, retA_ret, Tryz.results82, resultsA_1]
    rw [if_pos (.inr hbig)]
    exact hid_mk ⟨rfl, rd1, k1⟩
  · have d2 : decide ((1048576 : Int) < (n : Int)) = false := by rw [decide_eq_false_iff_not]; omega
    have hw : IntKind.i64.wrap (n : Int) = (n : Int) := wrap_nat (by omega)
    simp only [bW, Nat.reduceEqDiff, d1, d2, aConv_int it_117 it_3, hw, retA_ret, Tryz.results82, resultsA_1]
    rw [if_neg (by simp; omega)]
    exact hid_mk ⟨rfl, rd1, k1⟩
end Go.Proofs.YtilgpaibolollaaGreat.Pk
namespace Go.Proofs.YtilgpaibolollaaGreat.Pk
open Go Go.Proofs Go.Proofs.YtilgpaibolollaaGreat.Ab
set_option maxRecDepth 10000
set_option linter.unusedVariables false
set_option linter.unusedSimpArgs false
set_option maxRecDepth 10000 in
theorem pMayWrite (a : Act) (h : AHeap) (hl : a.bytes.length ≤ 2 ^ 50) : Pure Tryz.prog 48 [.agg (actE a)] h (.bool (mayWr a)) := by
  obtain ⟨kind, epoch, at_, bytes⟩ := a
  simp only at hl
  refine Pure.val (Clo.bool _) ?_
  refine SCalls.enterI (c := _) Tryz.func48 rfl (by kernel_rfl) (by simp) ?_
  have h1 : dropC (.cells [.int .i64 kind, .int .i64 epoch, .int .i64 at_, .imm bytes.length (bytesV bytes)] 104 none) 1 = some [.int .i64 epoch, .int .i64 at_, .imm bytes.length (bytesV bytes)] := rfl
  have h2 : dropC (.cells [.int .i64 kind, .int .i64 epoch, .int .i64 at_, .imm bytes.length (bytesV bytes)] 104 none) 2 = some [.int .i64 at_, .imm bytes.length (bytesV bytes)] := rfl
  have h3 : dropC (.cells [.int .i64 kind, .int .i64 epoch, .int .i64 at_, .imm bytes.length (bytesV bytes)] 104 none) 3 = some [.imm bytes.length (bytesV bytes)] := rfl
  have hlen : aLen Tryz.prog 29 (.imm bytes.length (bytesV bytes)) (h.push (.cells [.int .i64 kind, .int .i64 epoch, .int .i64 at_, .imm bytes.length (bytesV bytes)] 104 none)) = some (.int .i64 bytes.length) := aLen_imm kt_29
  by_cases q1 : 0 ≤ at_
  case neg =>
    simp only [bW, Nat.reduceEqDiff, ft_104_2, lt_3, actE, h2, q1, retA_ret, Tryz.results48, resultsA_1]
    exact hid_mk ⟨by simp [mayWr, q1], Keep.push _ _ _⟩
  by_cases q2 : at_ < 4096
  case neg =>
    simp only [bW, Nat.reduceEqDiff, ft_104_2, lt_3, actE, h2, q1, q2, retA_ret, Tryz.results48, resultsA_1]
    exact hid_mk ⟨by simp [mayWr, q1, q2], Keep.push _ _ _⟩
  simp only [bW, Nat.reduceEqDiff, ft_104_1, ft_104_2, lt_3, actE, h1, h2, q1, q2]
  refine callI_pure cal57 (pMayEpoch epoch _) ?_
  cases q3 : mayEp epoch
  · simp only [bW, Nat.reduceEqDiff, retA_ret, Tryz.results48, resultsA_1]
    exact hid_mk ⟨by simp [mayWr, q1, q2, q3], Keep.push _ _ _⟩
  · have e : decide (((bytes.length : Nat) : Int) ≤ 2048) = decide (bytes.length ≤ 2048) := by rw [Bool.eq_iff_iff]; simp; omega
    simp only [bW, Nat.reduceEqDiff, ft_104_3, kt_29, lt_29, h3, e, retA_ret, Tryz.results48, resultsA_1]
    exact hid_mk ⟨by simp [mayWr, q1, q2, q3], Keep.push _ _ _⟩
/-- A cell. -/
structure Cel where
  at_ : Int
  epoch : Int
  bytes : List Nat
def celE (c : Cel) : List V := [.int .i64 c.at_, .int .i64 c.epoch, .imm c.bytes.length (bytesV c.bytes)]
theorem celE_clo (c : Cel) : CloL (celE c) := CloL.cons (Clo.int _ _) (CloL.cons (Clo.int _ _) (CloL.cons (Clo.imm (bytesV_clo _)) CloL.nil))
set_option maxRecDepth 10000 in
theorem pOwn (c : Cel) (h : AHeap) (hl : c.bytes.length ≤ 2 ^ 40) : Pure Tryz.prog 55 [.agg (celE c)] h (.agg (celE c)) := by
  obtain ⟨at_, epoch, bytes⟩ := c
  simp only at hl
  refine Pure.val (Clo.agg (celE_clo _)) ?_
  refine SCalls.enterI (c := _) Tryz.func55 rfl (by kernel_rfl) (by simp) ?_
  have h0 : dropC (.cells [.int .i64 at_, .int .i64 epoch, .imm bytes.length (bytesV bytes)] 48 none) 0 = some [.int .i64 at_, .int .i64 epoch, .imm bytes.length (bytesV bytes)] := rfl
  have h2 : dropC (.cells [.int .i64 at_, .int .i64 epoch, .imm bytes.length (bytesV bytes)] 48 none) 2 = some [.imm bytes.length (bytesV bytes)] := rfl
  simp only [bW, Nat.reduceEqDiff, ft_48_2, lt_29, zc_48, celE, h2]
  refine callI_pure cal64 (pCloneB bytes (by omega) _) ?_
  simp only [bW, Nat.reduceEqDiff, Nat.reduceAdd, ft_48_2, lt_48, zt_29, zt_48, h0, retA_ret, Tryz.results55, resultsC_1, resultA_cell]
  exact hid_mk ⟨rfl, (Keep.push _ _ _).trans (Keep.push _ _ _) (fun _ _ h => h)⟩
/-- An act as it is put on the disk. -/
def payN (a : Act) : List Nat := if a.kind = 2 then enc a.kind.toNat ++ enc a.epoch.toNat else enc a.kind.toNat ++ enc a.epoch.toNat ++ enc a.at_.toNat ++ encBytes a.bytes
set_option maxRecDepth 10000 in
theorem pPayload (a : Act) (h : AHeap) (hl : a.bytes.length ≤ 2 ^ 40) (hk : 0 ≤ a.kind ∧ a.kind < 2 ^ 62) (he : 0 ≤ a.epoch ∧ a.epoch < 2 ^ 62) (ha : 0 ≤ a.at_ ∧ a.at_ < 2 ^ 62) :
    Pure Tryz.prog 91 [.agg (actE a)] h (.imm (payN a).length (bytesV (payN a))) := by
  obtain ⟨kind, epoch, at_, bytes⟩ := a
  simp only at hl hk he ha
  obtain ⟨hk0, hk1⟩ := hk
  obtain ⟨he0, he1⟩ := he
  obtain ⟨ha0, ha1⟩ := ha
  obtain ⟨kind, rfl⟩ : ∃ m : Nat, kind = m := ⟨kind.toNat, by omega⟩
  obtain ⟨epoch, rfl⟩ : ∃ m : Nat, epoch = m := ⟨epoch.toNat, by omega⟩
  obtain ⟨at_, rfl⟩ : ∃ m : Nat, at_ = m := ⟨at_.toNat, by omega⟩
  refine Pure.val (Clo.imm (bytesV_clo _)) ?_
  have hK := enc_le kind (by omega)
  have hE := enc_le epoch (by omega)
  have hA := enc_le at_ (by omega)
  have wk := wrap_natU (n := kind) (by omega)
  have we := wrap_natU (n := epoch) (by omega)
  have wa := wrap_natU (n := at_) (by omega)
  refine SCalls.enterI (c := _) Tryz.func91 rfl (by kernel_rfl) (by simp) ?_
  have h0 : dropC (.cells [.int .i64 (kind : Int), .int .i64 (epoch : Int), .int .i64 (at_ : Int), .imm bytes.length (bytesV bytes)] 104 none) 0 = some [.int .i64 (kind : Int), .int .i64 (epoch : Int), .int .i64 (at_ : Int), .imm bytes.length (bytesV bytes)] := rfl
  have h1 : dropC (.cells [.int .i64 (kind : Int), .int .i64 (epoch : Int), .int .i64 (at_ : Int), .imm bytes.length (bytesV bytes)] 104 none) 1 = some [.int .i64 (epoch : Int), .int .i64 (at_ : Int), .imm bytes.length (bytesV bytes)] := rfl
  have h2 : dropC (.cells [.int .i64 (kind : Int), .int .i64 (epoch : Int), .int .i64 (at_ : Int), .imm bytes.length (bytesV bytes)] 104 none) 2 = some [.int .i64 (at_ : Int), .imm bytes.length (bytesV bytes)] := rfl
  have h3 : dropC (.cells [.int .i64 (kind : Int), .int .i64 (epoch : Int), .int .i64 (at_ : Int), .imm bytes.length (bytesV bytes)] 104 none) 3 = some [.imm bytes.length (bytesV bytes)] := rfl
  simp only [bW, actE]
  refine SWp.drawnS none_ [] (.q 0 (.q 1 (.q 2 (.c 3 (.q 4 (.q 5 (.q 6 (.c 7 (.q 8 .done))))))))) (by kernel_rfl) (by kernel_rfl) (by kernel_rfl) ?_
  simp only [bW, bS, Nat.reduceEqDiff, ft_104_0, lt_3, h0, aConv_int it_3 it_117, wk]
  refine siI_c rfl rfl rfl (fun h' _ => pUint .snil [] kind h' (Rd.snil _) (by simp) (by omega)) ?_
  simp only [bW, bS, Nat.reduceEqDiff, ft_104_1, lt_3, h1, aConv_int it_3 it_117, we]
  refine siI_c rfl rfl rfl (fun h' _ => pUint _ ([] ++ enc kind) epoch h' (Rd.imm _ _) (by simp; omega) (by omega)) ?_
  simp only [bW, bS, Nat.reduceEqDiff, ft_104_0, lt_3, h0]
  by_cases hs : kind = 2
  · have d1 : ((kind : Int) == 2) = true := by rw [hs]; rfl
    have hP : payN ⟨(kind : Int), epoch, at_, bytes⟩ = enc kind ++ enc epoch := by
      unfold payN
      rw [if_pos (by simp only; omega)]
      simp only [Int.toNat_natCast]
    simp only [bW, Nat.reduceEqDiff, d1, retA_ret, Tryz.results91, resultsA_1]
    exact hid_mk ⟨by rw [hP], Keep.push _ _ _⟩
  have d1 : ((kind : Int) == 2) = false := by rw [beq_eq_false_iff_ne]; omega
  have hP : payN ⟨(kind : Int), epoch, at_, bytes⟩ = enc kind ++ enc epoch ++ enc at_ ++ encBytes bytes := by
    unfold payN
    rw [if_neg (by simp only; omega)]
    simp only [Int.toNat_natCast]
  simp only [bW, d1]
  refine SWp.drawnS none_ [] (.q 0 (.q 1 (.q 2 (.q 3 (.c 4 (.q 5 (.q 6 (.c 7 (.q 8 .done))))))))) (by kernel_rfl) (by kernel_rfl) (by kernel_rfl) ?_
  simp only [bW, bS, Nat.reduceEqDiff, ft_104_2, lt_3, h2, aConv_int it_3 it_117, wa]
  refine siI_c rfl rfl rfl (fun h' _ => pUint _ (enc kind ++ enc epoch) at_ h' (Rd.imm _ _) (by simp; omega) (by omega)) ?_
  simp only [bW, bS, Nat.reduceEqDiff, ft_104_3, lt_29, h3]
  refine siI_c rfl rfl rfl (fun h' _ => pBytes _ _ (enc kind ++ enc epoch ++ enc at_) bytes h' (Rd.imm _ _) (Rd.imm _ _) (by simp; omega)) ?_
  simp only [bW, bS, Nat.reduceEqDiff, retA_ret, Tryz.results91, resultsA_1]
  exact hid_mk ⟨by rw [hP], Keep.push _ _ _⟩
end Go.Proofs.YtilgpaibolollaaGreat.Pk
