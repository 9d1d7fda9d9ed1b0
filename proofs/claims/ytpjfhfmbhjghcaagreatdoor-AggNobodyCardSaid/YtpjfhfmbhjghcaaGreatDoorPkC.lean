/-
  What functions of the program do, told of abstract states. Conditions: as each theorem says.
-/
import Derived.Test.YtpjfhfmbhjghcaaGreatDoorPkB
import Derived.Test.YtpjfhfmbhjghcaaGreatDoorAbD
namespace Go.Proofs.YtpjfhfmbhjghcaaGreatDoor.Pk
open Go Go.Proofs Go.Proofs.YtpjfhfmbhjghcaaGreatDoor.Ab
set_option linter.unusedVariables false
set_option linter.unusedSimpArgs false

theorem ofInt_nat (w n : Nat) : BitVec.ofInt w (n : Int) = BitVec.ofNat w n := by
  apply BitVec.eq_of_toNat_eq
  simp
/-- or of numbers that share no bit -/
theorem bOr_add (a b k : Nat) (hb : b < 2 ^ k) (hk : k ≤ 64) (ha : a * 2 ^ k < 2 ^ 64) : bOr .u64 (b : Int) ((a * 2 ^ k : Nat) : Int) = ((a * 2 ^ k + b : Nat) : Int) := by
  have hlt : a * 2 ^ k + b < 2 ^ 64 := by
    have e : (2 : Nat) ^ 64 = 2 ^ (64 - k) * 2 ^ k := by rw [← Nat.pow_add]; congr 1; omega
    rw [e] at ha ⊢
    have h1 : a < 2 ^ (64 - k) := Nat.lt_of_mul_lt_mul_right ha
    calc a * 2 ^ k + b < a * 2 ^ k + 2 ^ k := by omega
      _ = (a + 1) * 2 ^ k := by rw [Nat.add_mul]; simp
      _ ≤ _ := Nat.mul_le_mul_right _ h1
  unfold bOr
  rw [ofInt_nat, ofInt_nat]
  have e1 : (BitVec.ofNat IntKind.u64.bits b ||| BitVec.ofNat IntKind.u64.bits (a * 2 ^ k)).toNat = a * 2 ^ k + b := by
    rw [BitVec.toNat_or]
    simp only [BitVec.toNat_ofNat, IntKind.bits]
    rw [Nat.mod_eq_of_lt (by omega), Nat.mod_eq_of_lt ha]
    have := Nat.shiftLeft_add_eq_or_of_lt hb a
    rw [Nat.shiftLeft_eq] at this
    rw [this, Nat.or_comm]
  rw [e1, IntKind.wrap_u64]
  omega
theorem low7 (g : Nat) (hg : g < 256) : IntKind.u64.wrap (bAndNot .u8 (g : Int) 128) = ((g % 128 : Nat) : Int) := by
  have h : ∀ m : Fin 256, IntKind.u64.wrap (bAndNot .u8 (m.val : Int) 128) = ((m.val % 128 : Nat) : Int) := by decide +kernel
  exact h ⟨g, hg⟩
theorem sh7 (g at_ : Nat) (hg : g % 128 * 2 ^ (7 * at_) < 2 ^ 64) (ha : at_ ≤ 9) : IntKind.u64.wrap (((g % 128 : Nat) : Int) * 2 ^ (min (IntKind.i64.wrap (7 * (at_ : Int))).toNat IntKind.u64.bits)) = ((g % 128 * 2 ^ (7 * at_) : Nat) : Int) := by
  have e : (min (IntKind.i64.wrap (7 * (at_ : Int))).toNat IntKind.u64.bits) = 7 * at_ := by
    rw [IntKind.wrap_i64]
    have h1 : ((7 * (at_ : Int) + 9223372036854775808) % 18446744073709551616 - 9223372036854775808) = ((7 * at_ : Nat) : Int) := by omega
    rw [h1, Int.toNat_natCast]
    simp only [IntKind.bits]
    omega
  rw [e, IntKind.wrap_u64]
  have : (((g % 128 : Nat) : Int) * 2 ^ (7 * at_)) = ((g % 128 * 2 ^ (7 * at_) : Nat) : Int) := by push_cast; rfl
  rw [this]
  omega

theorem fits7 (g at_ : Nat) (ha9 : at_ ≤ 9) (hbad : ¬(at_ = 9 ∧ 1 < g)) (hg : g < 256) : g % 128 * 2 ^ (7 * at_) < 2 ^ 64 := by
  by_cases h8 : at_ ≤ 8
  · have h1 : (2 : Nat) ^ (7 * at_) ≤ 2 ^ 56 := Nat.pow_le_pow_right (by decide) (by omega)
    have h2 : g % 128 < 128 := Nat.mod_lt _ (by decide)
    have h3 : g % 128 * 2 ^ (7 * at_) ≤ 127 * 2 ^ 56 := Nat.mul_le_mul (by omega) h1
    exact Nat.lt_of_le_of_lt h3 (by decide)
  · have : at_ = 9 := by omega
    subst this
    have : g % 128 ≤ 1 := by omega
    exact Nat.lt_of_le_of_lt (Nat.mul_le_mul_right _ this) (by decide)
theorem or7 (g n at_ : Nat) (hn : n < 2 ^ (7 * at_)) (ha9 : at_ ≤ 9) (hn7 : g % 128 * 2 ^ (7 * at_) < 2 ^ 64) : bOr .u64 (n : Int) ((g % 128 * 2 ^ (7 * at_) : Nat) : Int) = ((n + g % 128 * 2 ^ (7 * at_) : Nat) : Int) := by
  rw [bOr_add (g % 128) n (7 * at_) hn (by omega) hn7, Nat.add_comm]
theorem next7 (g n at_ : Nat) (hn : n < 2 ^ (7 * at_)) : n + g % 128 * 2 ^ (7 * at_) < 2 ^ (7 * (at_ + 1)) := by
  have e : (2 : Nat) ^ (7 * (at_ + 1)) = 128 * 2 ^ (7 * at_) := by rw [Nat.mul_add, Nat.pow_add]; omega
  rw [e]
  have h2 : g % 128 < 128 := Nat.mod_lt _ (by decide)
  have h3 := Nat.mul_le_mul_right (2 ^ (7 * at_)) (show g % 128 ≤ 127 by omega)
  generalize 2 ^ (7 * at_) = p at *
  omega

/-- What number tells: of bytes from here on, so many of them taken, so much told by those. -/
def dec : List Nat → Nat → Nat → Nat × Nat × Nat
  | [], _, _ => (0, 0, 4)
  | g :: r, at_, n =>
    if at_ = 9 ∧ 1 < g then (0, 0, 5)
    else if 128 ≤ g then dec r (at_ + 1) (n + g % 128 * 2 ^ (7 * at_))
    else if g = 0 ∧ 0 < at_ then (0, 0, 5)
    else (n + g % 128 * 2 ^ (7 * at_), at_ + 1, 0)
def decV (r : Nat × Nat × Nat) : V := .tuple [.int .u64 (r.1 : Nat), .int .i64 (r.2.1 : Nat), .int .i64 (r.2.2 : Nat)]
theorem bytes_drop {bs : List Nat} {k : Nat} (hk : k < bs.length) : (bytesV bs).drop (k * 1) = .int .u8 (bs[k] : Nat) :: bytesV (bs.drop (k + 1)) := by
  rw [Nat.mul_one]
  unfold bytesV
  rw [← List.map_drop, List.drop_eq_getElem_cons hk]
  rfl

set_option maxRecDepth 10000 in
theorem number (bs : List Nat) (h : AHeap) (hb : ∀ b ∈ bs, b < 256) (hc : bs.length ≤ 2 ^ 47) :
    Pure Tryz.prog 139 [.imm bs.length (bytesV bs)] h (decV (dec bs 0 0)) := by
  refine SCalls.enterI (c := _) Tryz.func139 rfl (by kernel_rfl) (by simp) ?_
  simp only [wpA_region, wpA_seq, wpA_scope, seqQ_normal, goI_out, goI_ops, opsA_nil, opsA_cons, stepA_assign, eval_const, absV_int]
  refine SWp.scopeG (α := Nat × Nat) (l := 0) rfl (fun x f h' => h' = h ∧ f 0 = .imm bs.length (bytesV bs) ∧ f 5 = .int .u64 (x.2 : Nat) ∧ f 6 = .int .i64 (x.1 : Nat) ∧ dec (bs.drop x.1) x.1 x.2 = dec bs 0 0 ∧ x.2 < 2 ^ (7 * x.1) ∧ x.1 ≤ 9 ∧ x.1 ≤ bs.length) (fun x => 10 - x.1) ?_ ?_ ?_
  · rintro x f h1 _
    omega
  · rintro ⟨at_, n⟩ f h1 ⟨rfl, f0, f5, f6, hd, hn, ha9, hab⟩
    simp only at f5 f6 hd hn ha9 hab
    refine wpI_sound (by kernel_rfl) ?_
    by_cases hend : at_ = bs.length
    · have hb1 : ((at_ : Int) == (bs.length : Int)) = true := by simp [hend]
      simp only [wpA_region, wpA_seq, wpA_cond, wpA_ret, condI_true, seqQ_normal, seqQ_ret, endI_mk, goE, goI_out, goI_ops, opsA_nil, opsA_cons, stepA_move, stepA_assign, stepA_binOp, stepA_len, thenV_some, eval_tmp, eval_const, put_some, aBin_eql, absV_int, aLen_imm, Nat.reduceEqDiff, reduceCtorEq, if_true, if_false, kt_89, f0, f6, hb1, jumpA_ret, retA_ret, Tryz.results139, resultsA_3]
      refine hid_mk ⟨?_, rfl⟩
      rw [← hd, hend, List.drop_length]
      rfl
    · have hb1 : ((at_ : Int) == (bs.length : Int)) = false := by simp; omega
      have hlt : at_ < bs.length := by omega
      have hg256 : bs[at_] < 256 := hb _ (List.getElem_mem hlt)
      have hdrop : bs.drop at_ = bs[at_] :: bs.drop (at_ + 1) := List.drop_eq_getElem_cons hlt
      have hix := index_imm (P := Tryz.prog) (t := 89) (k := .i64) (i := (at_ : Int)) (n := bs.length) (cs := bytesV bs) ss_89 (by omega) (by omega) (by rw [bytesV_length]; omega)
      rw [Int.toNat_natCast, bytes_drop hlt] at hix
      have hd2 : dec (bs.drop at_) at_ n = dec (bs[at_] :: bs.drop (at_ + 1)) at_ n := by rw [← hdrop]
      generalize bs[at_] = g at hg256 hix hd2
      clear hdrop
      by_cases hbad : at_ = 9 ∧ 1 < g
      · have hb2 : ((at_ : Int) == 9) = true := by simp [hbad.1]
        have hb3 : decide ((1 : Int) < (g : Int)) = true := by simp; omega
        simp only [wpA_skip, wpA_region, wpA_seq, wpA_cond, wpA_ret, condI_true, condI_false, seqQ_normal, seqQ_ret, endI_mk, goE, goI_out, goI_ops, opsA_nil, opsA_cons, opsA_guardS, gvI_same, slotAt_zero, slotAt_succ, stepA_move, stepA_assign, stepA_pick, stepA_load, stepA_binOp, stepA_indexAddr, stepA_len, thenV_some, pickV_true, eval_tmp, eval_const, put_some, aBin_eql, aBin_gtr, absV_int, absV_bool, aLoad_eq, loadGo_one, aPlace_at, aLen_imm, Nat.reduceEqDiff, reduceCtorEq, if_true, if_false, kt_89, lt_5, f0, f6, hb1, hix, hb2, hb3, jumpA_ret, retA_ret, Tryz.results139, resultsA_3]
        refine hid_mk ⟨?_, rfl⟩
        rw [← hd, hd2, dec, if_pos hbad]
        rfl
      · have hn7 := fits7 g at_ ha9 hbad hg256
        have hor := or7 g n at_ hn ha9 hn7
        have hnext := next7 g n at_ hn
        have hs7 := sh7 g at_ hn7 ha9
        have hl7 := low7 g hg256
        have hpos : (0 : Int) ≤ IntKind.i64.wrap (7 * (at_ : Int)) := by
          rw [Go.IntWalk.i64_in _ (by omega)]
          omega
        have hw1 : IntKind.i64.wrap ((at_ : Int) + 1) = ((at_ + 1 : Nat) : Int) := by rw [Go.IntWalk.i64_in _ (by omega)]; rfl
        have hcond : (((at_ : Int) == 9) = true ∧ decide ((1 : Int) < (g : Int)) = false) ∨ ((at_ : Int) == 9) = false := by
          by_cases h9 : at_ = 9
          · left; refine ⟨by simp [h9], by simp; omega⟩
          · right; simp; omega
        by_cases hbig : 128 ≤ g
        · have hb4 : decide ((128 : Int) ≤ (g : Int)) = true := by simp; omega
          have h8 : at_ ≤ 8 := by
            rcases Nat.lt_or_ge at_ 9 with h | h
            · omega
            · exact absurd ⟨by omega, by omega⟩ hbad
          have hfin : dec (bs.drop (at_ + 1)) (at_ + 1) (n + g % 128 * 2 ^ (7 * at_)) = dec bs 0 0 := by
            rw [← hd, hd2, dec, if_neg hbad, if_pos hbig]
          rcases hcond with ⟨c1, c2⟩ | c1
          · exfalso
            simp at c1
            omega
          · simp only [wpA_skip, wpA_region, wpA_seq, wpA_cond, wpA_goto, condI_true, condI_false, seqQ_normal, seqQ_goto, endI_mk, goI_out, goI_ops, opsA_nil, opsA_cons, opsA_guardS, gvI_ft, slotAt_zero, slotAt_succ, stepA_move, stepA_assign, stepA_pick, stepA_load, stepA_binOp, stepA_convert, stepA_indexAddr, stepA_len, thenV_some, thenC_some, pickV_false, eval_tmp, eval_const, put_some, aBin_add, aBin_mul, aBin_eql, aBin_geq, aBin_or, aBin_andNot, absV_int, absV_bool, aLoad_eq, loadGo_one, aPlace_at, aLen_imm, Nat.reduceEqDiff, reduceCtorEq, true_and, if_true, if_false, kt_89, lt_5, f0, f5, f6, hb1, hix, c1, hb4, aConv_int it_5 it_173, hl7, aBin_shl hpos, hs7, hor, hw1, jumpA_goto]
            exact hid_mk ⟨(at_ + 1, _), ⟨rfl, f0, rfl, rfl, hfin, hnext, by simp only; omega, by simp only; omega⟩, by simp; omega⟩
        · have hb4 : decide ((128 : Int) ≤ (g : Int)) = false := by simp; omega
          have hr : dec bs 0 0 = if g = 0 ∧ 0 < at_ then (0, 0, 5) else (n + g % 128 * 2 ^ (7 * at_), at_ + 1, 0) := by
            rw [← hd, hd2, dec, if_neg hbad, if_neg hbig]
          have hc3 : ((g : Int) == 0) = false ∨ (((g : Int) == 0) = true ∧ decide ((1 : Int) < ((at_ + 1 : Nat) : Int)) = decide (0 < at_)) := by
            by_cases h0 : g = 0
            · right; exact ⟨by simp [h0], by rw [decide_eq_decide]; omega⟩
            · left; simp; omega
          rcases hc3 with c3 | ⟨c3, c4⟩
          · have h0 : ¬ (g = 0 ∧ 0 < at_) := by intro h; simp [h.1] at c3
            rw [if_neg h0] at hr
            rcases hcond with ⟨c1, c2⟩ | c1
            · simp only [wpA_skip, wpA_region, wpA_seq, wpA_cond, wpA_ret, condI_false, seqQ_normal, endI_mk, goE, goI_out, goI_ops, opsA_nil, opsA_cons, opsA_guardS, gvI_same, gvI_ft, slotAt_zero, slotAt_succ, stepA_move, stepA_assign, stepA_pick, stepA_load, stepA_binOp, stepA_convert, stepA_indexAddr, stepA_len, thenV_some, thenC_some, pickV_true, pickV_false, eval_tmp, eval_const, put_some, aBin_add, aBin_mul, aBin_eql, aBin_gtr, aBin_geq, aBin_or, aBin_andNot, absV_int, absV_bool, aLoad_eq, loadGo_one, aPlace_at, aLen_imm, Nat.reduceEqDiff, reduceCtorEq, if_true, if_false, kt_89, lt_5, f0, f5, f6, hb1, hix, c1, c2, c3, hb4, aConv_int it_5 it_173, hl7, aBin_shl hpos, hs7, hor, hw1, jumpA_ret, retA_ret, Tryz.results139, resultsA_3]
              exact hid_mk ⟨by rw [hr]; rfl, rfl⟩
            · simp only [wpA_skip, wpA_region, wpA_seq, wpA_cond, wpA_ret, condI_false, seqQ_normal, endI_mk, goE, goI_out, goI_ops, opsA_nil, opsA_cons, opsA_guardS, gvI_ft, slotAt_zero, slotAt_succ, stepA_move, stepA_assign, stepA_pick, stepA_load, stepA_binOp, stepA_convert, stepA_indexAddr, stepA_len, thenV_some, thenC_some, pickV_false, eval_tmp, eval_const, put_some, aBin_add, aBin_mul, aBin_eql, aBin_geq, aBin_or, aBin_andNot, absV_int, absV_bool, aLoad_eq, loadGo_one, aPlace_at, aLen_imm, Nat.reduceEqDiff, reduceCtorEq, if_true, if_false, kt_89, lt_5, f0, f5, f6, hb1, hix, c1, c3, hb4, aConv_int it_5 it_173, hl7, aBin_shl hpos, hs7, hor, hw1, jumpA_ret, retA_ret, Tryz.results139, resultsA_3]
              exact hid_mk ⟨by rw [hr]; rfl, rfl⟩
          · by_cases hat : 0 < at_
            · have h0 : (g = 0 ∧ 0 < at_) := ⟨by simpa using c3, hat⟩
              rw [if_pos h0] at hr
              simp only [hat, decide_true] at c4
              rcases hcond with ⟨c1, c2⟩ | c1
              · simp only [wpA_skip, wpA_region, wpA_seq, wpA_cond, wpA_ret, condI_true, condI_false, seqQ_normal, seqQ_ret, endI_mk, goE, goI_out, goI_ops, opsA_nil, opsA_cons, opsA_guardS, gvI_same, slotAt_zero, slotAt_succ, stepA_move, stepA_assign, stepA_pick, stepA_load, stepA_binOp, stepA_convert, stepA_indexAddr, stepA_len, thenV_some, thenC_some, pickV_true, eval_tmp, eval_const, put_some, aBin_add, aBin_mul, aBin_eql, aBin_gtr, aBin_geq, aBin_or, aBin_andNot, absV_int, absV_bool, aLoad_eq, loadGo_one, aPlace_at, aLen_imm, Nat.reduceEqDiff, reduceCtorEq, if_true, if_false, kt_89, lt_5, f0, f5, f6, hb1, hix, c1, c2, c3, c4, hb4, aConv_int it_5 it_173, hl7, aBin_shl hpos, hs7, hor, hw1, jumpA_ret, retA_ret, Tryz.results139, resultsA_3]
                exact hid_mk ⟨by rw [hr]; rfl, rfl⟩
              · simp only [wpA_skip, wpA_region, wpA_seq, wpA_cond, wpA_ret, condI_true, condI_false, seqQ_normal, seqQ_ret, endI_mk, goE, goI_out, goI_ops, opsA_nil, opsA_cons, opsA_guardS, gvI_same, gvI_ft, slotAt_zero, slotAt_succ, stepA_move, stepA_assign, stepA_pick, stepA_load, stepA_binOp, stepA_convert, stepA_indexAddr, stepA_len, thenV_some, thenC_some, pickV_true, pickV_false, eval_tmp, eval_const, put_some, aBin_add, aBin_mul, aBin_eql, aBin_gtr, aBin_geq, aBin_or, aBin_andNot, absV_int, absV_bool, aLoad_eq, loadGo_one, aPlace_at, aLen_imm, Nat.reduceEqDiff, reduceCtorEq, if_true, if_false, kt_89, lt_5, f0, f5, f6, hb1, hix, c1, c3, c4, hb4, aConv_int it_5 it_173, hl7, aBin_shl hpos, hs7, hor, hw1, jumpA_ret, retA_ret, Tryz.results139, resultsA_3]
                exact hid_mk ⟨by rw [hr]; rfl, rfl⟩
            · have h0 : ¬ (g = 0 ∧ 0 < at_) := fun h => hat h.2
              rw [if_neg h0] at hr
              simp only [hat, decide_false] at c4
              rcases hcond with ⟨c1, c2⟩ | c1
              · simp only [wpA_skip, wpA_region, wpA_seq, wpA_cond, wpA_ret, condI_false, seqQ_normal, endI_mk, goE, goI_out, goI_ops, opsA_nil, opsA_cons, opsA_guardS, gvI_same, slotAt_zero, slotAt_succ, stepA_move, stepA_assign, stepA_pick, stepA_load, stepA_binOp, stepA_convert, stepA_indexAddr, stepA_len, thenV_some, thenC_some, pickV_true, eval_tmp, eval_const, put_some, aBin_add, aBin_mul, aBin_eql, aBin_gtr, aBin_geq, aBin_or, aBin_andNot, absV_int, absV_bool, aLoad_eq, loadGo_one, aPlace_at, aLen_imm, Nat.reduceEqDiff, reduceCtorEq, if_true, if_false, kt_89, lt_5, f0, f5, f6, hb1, hix, c1, c2, c3, c4, hb4, aConv_int it_5 it_173, hl7, aBin_shl hpos, hs7, hor, hw1, jumpA_ret, retA_ret, Tryz.results139, resultsA_3]
                exact hid_mk ⟨by rw [hr]; rfl, rfl⟩
              · simp only [wpA_skip, wpA_region, wpA_seq, wpA_cond, wpA_ret, condI_false, seqQ_normal, endI_mk, goE, goI_out, goI_ops, opsA_nil, opsA_cons, opsA_guardS, gvI_same, gvI_ft, slotAt_zero, slotAt_succ, stepA_move, stepA_assign, stepA_pick, stepA_load, stepA_binOp, stepA_convert, stepA_indexAddr, stepA_len, thenV_some, thenC_some, pickV_true, pickV_false, eval_tmp, eval_const, put_some, aBin_add, aBin_mul, aBin_eql, aBin_gtr, aBin_geq, aBin_or, aBin_andNot, absV_int, absV_bool, aLoad_eq, loadGo_one, aPlace_at, aLen_imm, Nat.reduceEqDiff, reduceCtorEq, if_true, if_false, kt_89, lt_5, f0, f5, f6, hb1, hix, c1, c3, c4, hb4, aConv_int it_5 it_173, hl7, aBin_shl hpos, hs7, hor, hw1, jumpA_ret, retA_ret, Tryz.results139, resultsA_3]
                exact hid_mk ⟨by rw [hr]; rfl, rfl⟩
  · intro step
    refine SWp.seq (wpI_sound (by kernel_rfl) ?_)
    simp only [wpA_region, endI_mk, andThen_normal, goI_out, goI_ops, opsA_nil, opsA_cons, stepA_assign, eval_const, absV_int]
    refine SWp.seq (wpI_sound (by kernel_rfl) ?_)
    simp only [wpA_region, endI_mk, andThen_normal, goI_out, goI_ops, opsA_nil, opsA_cons, stepA_assign, eval_const, absV_int]
    refine SWp.seq (.label ?_)
    exact step (0, 0) _ _ ⟨rfl, rfl, rfl, rfl, rfl, by decide, by decide, by omega⟩
end Go.Proofs.YtpjfhfmbhjghcaaGreatDoor.Pk
