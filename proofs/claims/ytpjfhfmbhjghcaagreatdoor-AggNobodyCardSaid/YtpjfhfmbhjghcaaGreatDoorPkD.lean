/-
  What functions of the program do, told of abstract states. Conditions: as each theorem says.
-/
import Derived.Test.YtpjfhfmbhjghcaaGreatDoorPkC
namespace Go.Proofs.YtpjfhfmbhjghcaaGreatDoor.Pk
open Go Go.Proofs Go.Proofs.YtpjfhfmbhjghcaaGreatDoor.Ab
set_option linter.unusedVariables false
set_option linter.unusedSimpArgs false
set_option maxRecDepth 10000

theorem dec_err (l : List Nat) : ∀ k n, (dec l k n).2.2 ≠ 0 → dec l k n = (0, 0, (dec l k n).2.2) := by
  induction l with
  | nil => intro k n _; rfl
  | cons g r ih =>
    intro k n h
    unfold dec at h ⊢
    split
    · rfl
    · rename_i h1
      rw [if_neg h1] at h
      split
      · rename_i h2
        rw [if_pos h2] at h
        exact ih _ _ h
      · rename_i h2
        rw [if_neg h2] at h
        split
        · rfl
        · rename_i h3
          rw [if_neg h3] at h
          simp at h
theorem dec_used (l : List Nat) : ∀ k n, (dec l k n).2.1 ≤ l.length + k := by
  induction l with
  | nil => intro k n; simp [dec]
  | cons g r ih =>
    intro k n
    unfold dec
    split
    · simp
    · split
      · have := ih (k + 1) (n + g % 128 * 2 ^ (7 * k))
        simp; omega
      · split
        · simp
        · simp; omega

theorem bXor_zero (a : Nat) (ha : a < 2 ^ 64) : bXor .u64 (a : Int) 0 = (a : Int) := by
  show IntKind.u64.wrap ((BitVec.ofInt 64 (a : Int) ^^^ BitVec.ofInt 64 0).toNat : Int) = _
  have e : BitVec.ofInt 64 (0 : Int) = BitVec.ofNat 64 0 := rfl
  have e1 : (BitVec.ofNat 64 a ^^^ BitVec.ofNat 64 0).toNat = a := by
    rw [BitVec.toNat_xor, BitVec.toNat_ofNat, BitVec.toNat_ofNat, Nat.zero_mod, Nat.xor_zero]
    exact Nat.mod_eq_of_lt ha
  rw [ofInt_nat, e, e1, IntKind.wrap_u64]
  omega
theorem bXor_ones (a : Nat) (ha : a < 2 ^ 64) : bXor .u64 (a : Int) 18446744073709551615 = ((18446744073709551615 - a : Nat) : Int) := by
  show IntKind.u64.wrap ((BitVec.ofInt 64 (a : Int) ^^^ BitVec.ofInt 64 18446744073709551615).toNat : Int) = _
  have e : BitVec.ofInt 64 (18446744073709551615 : Int) = BitVec.allOnes 64 := by decide
  have e1 : (BitVec.ofNat 64 a ^^^ BitVec.allOnes 64).toNat = 18446744073709551615 - a := by
    rw [BitVec.xor_allOnes, BitVec.toNat_not, BitVec.toNat_ofNat, Nat.mod_eq_of_lt ha]
  rw [ofInt_nat, e, e1, IntKind.wrap_u64]
  omega
theorem zig (n : Int) (h1 : -2 ^ 63 ≤ n) (h2 : n < 2 ^ 63) : bXor .u64 (IntKind.u64.wrap (IntKind.u64.wrap n * 2 ^ min (Int.toNat 1) IntKind.u64.bits)) (IntKind.u64.wrap (n.fdiv (2 ^ min (Int.toNat 63) IntKind.i64.bits))) =
    ((if 0 ≤ n then 2 * n.toNat else 2 * (-n).toNat - 1 : Nat) : Int) := by
  have e1 : (2 : Int) ^ min (Int.toNat 1) IntKind.u64.bits = 2 := by decide
  have e2 : (2 : Int) ^ min (Int.toNat 63) IntKind.i64.bits = 9223372036854775808 := by decide
  rw [e1, e2]
  have h1' : -9223372036854775808 ≤ n := by simpa using h1
  have h2' : n < 9223372036854775808 := by simpa using h2
  by_cases h0 : 0 ≤ n
  · have e3 : n.fdiv 9223372036854775808 = 0 := by rw [Int.fdiv_eq_ediv_of_nonneg _ (by omega)]; omega
    have e4 : IntKind.u64.wrap (IntKind.u64.wrap n * 2) = ((2 * n.toNat : Nat) : Int) := by rw [IntKind.wrap_u64, IntKind.wrap_u64]; omega
    have e5 : IntKind.u64.wrap 0 = 0 := by decide
    rw [e3, e4, e5, bXor_zero _ (by omega), if_pos h0]
  · have e3 : n.fdiv 9223372036854775808 = -1 := by rw [Int.fdiv_eq_ediv_of_nonneg _ (by omega)]; omega
    have e4 : IntKind.u64.wrap (IntKind.u64.wrap n * 2) = ((2 * n + 18446744073709551616).toNat : Int) := by rw [IntKind.wrap_u64, IntKind.wrap_u64]; omega
    have e5 : IntKind.u64.wrap (-1) = 18446744073709551615 := by decide
    rw [e3, e4, e5, bXor_ones _ (by omega), if_neg h0]
    omega

def zz (n : Int) : Nat := if 0 ≤ n then 2 * n.toNat else 2 * (-n).toNat - 1
theorem zz_lt (n : Int) (h1 : -2 ^ 63 ≤ n) (h2 : n < 2 ^ 63) : zz n < 2 ^ 64 := by
  have h1' : -9223372036854775808 ≤ n := by simpa using h1
  have h2' : n < 9223372036854775808 := by simpa using h2
  unfold zz
  split <;> omega


theorem IsRd.keep {h h' : AHeap} {p : V} {i : Nat} {cs : List Nat} {own : Nat → Prop} (hr : IsRd h p i cs) (hk : Keep h h' own) (hne : ¬ own i) : IsRd h' p i cs :=
  ⟨hr.1, Nat.lt_of_lt_of_le hr.2.1 hk.n, (hk.get i hr.2.1 hne).trans hr.2.2⟩
theorem RUint (p : V) (i : Nat) (bs : List Nat) (h : AHeap) (hr : IsRd h p i bs) (hb : ∀ b ∈ bs, b < 256) (hc : bs.length ≤ 2 ^ 47) :
    SCalls Tryz.prog 104 [p] h (fun r h' => r = .tuple [.int .u64 ((dec bs 0 0).1 : Nat), .int .i64 ((dec bs 0 0).2.2 : Nat)] ∧ IsRd h' p i (bs.drop (dec bs 0 0).2.1) ∧ Keep h h' (· = i)) := by
  refine SCalls.enterI (c := _) Tryz.func104 rfl (by kernel_rfl) (by simp) ?_
  simp only [wpA_region, wpA_seq, seqQ_normal, goI_out, goI_ops, opsA_nil, opsA_cons, stepA_move, stepA_assign, stepA_call, eval_tmp, eval_const, put_some, enterF_zero, enterF_succ, absV_int, Nat.reduceEqDiff, reduceCtorEq, List.map_cons, List.map_nil, if_true, if_false]
  refine callI_pure cal106 (rest h p i bs hr) ?_
  simp only [goI_ops, opsA_cons, stepA_call, eval_tmp, put_some, enterF_succ, Nat.reduceEqDiff, List.map_cons, List.map_nil, if_true, if_false]
  refine callI_pure cal139 (number bs h hb hc) ?_
  by_cases herr : (dec bs 0 0).2.2 = 0
  · have hne : ((((dec bs 0 0).2.2 : Nat) : Int) != 0) = false := by simp [herr]
    have hused := dec_used bs 0 0
    obtain ⟨rfl, hi, hg⟩ := hr
    have hsl : aSlice Tryz.prog 89 (.imm bs.length (bytesV bs)) (some (.int .i64 ((dec bs 0 0).2.1 : Nat))) none none = some (.imm (bs.drop (dec bs 0 0).2.1).length (bytesV (bs.drop (dec bs 0 0).2.1))) := by
      rw [slice_imm_lo ss_89 (by omega) (by omega) (by rw [bytesV_length]; omega)]
      rw [Int.toNat_natCast, Nat.mul_one]
      unfold bytesV
      rw [List.map_drop, List.length_drop]
    simp only [wpA_skip, wpA_region, wpA_seq, wpA_cond, wpA_ret, condI_false, seqQ_normal, endI_mk, goI_out, goI_ops, opsA_nil, opsA_cons, stepA_move, stepA_assign, stepA_load, stepA_store, stepA_nilCheck, stepA_binOp, stepA_slice, stepA_fieldAddr, stepA_extract, thenV_some, thenS_some, nilV_ptr, extV_zero, extV_succ, eval_tmp, eval_const, put_some, put_none, enterF_zero, enterF_succ, aBin_neq, absV_int, cells_imm, one_imm, all_nil, all_cons, aField_eq, fieldGo_ptr, aLoad_eq, loadGo_one, aPlace_ptr, dropC_cells, aStore_eq, storeGo_ptr, setC_row, setAll_nil, setAll_cons, Nat.reduceEqDiff, reduceCtorEq, Option.map_some, Option.map_none, Nat.add_zero, Nat.zero_add, Nat.zero_le, List.length_cons, List.length_nil, List.drop_zero, List.set_cons_zero, if_true, if_false, Bool.and_self, Nat.le_refl, ft_204_0, lt_89, zt_89, decV, hne, hg, hsl, retA_ret, Tryz.results104, resultsA_2]
    exact hid_mk ⟨by simp [herr], ⟨rfl, by rw [set_n]; exact hi, get_set_same⟩, Keep.set _ _ _⟩
  · have hne : ((((dec bs 0 0).2.2 : Nat) : Int) != 0) = true := by simp; omega
    have hd := dec_err bs 0 0 herr
    simp only [wpA_region, wpA_seq, wpA_cond, wpA_ret, condI_true, seqQ_normal, seqQ_ret, endI_mk, goI_out, goI_ops, opsA_nil, opsA_cons, stepA_move, stepA_assign, stepA_binOp, stepA_extract, thenV_some, extV_zero, extV_succ, eval_tmp, eval_const, put_some, enterF_succ, aBin_neq, absV_int, Nat.reduceEqDiff, if_true, if_false, decV, hne, retA_ret, Tryz.results104, resultsA_2]
    refine hid_mk ⟨?_, ?_, Keep.refl _ _⟩
    · rw [hd]; rfl
    · rw [hd]; simpa using hr

theorem zigzag (n : Int) (h : AHeap) (h1 : -2 ^ 63 ≤ n) (h2 : n < 2 ^ 63) : Pure Tryz.prog 126 [.int .i64 n] h (.int .u64 (zz n : Nat)) := by
  refine SCalls.enterI (c := _) Tryz.func126 rfl (by kernel_rfl) (by simp) ?_
  simp only [wpA_region, wpA_seq, wpA_ret, seqQ_normal, endI_mk, goI_out, goI_ops, opsA_nil, opsA_cons, stepA_move, stepA_assign, stepA_binOp, stepA_convert, thenV_some, thenC_some, eval_tmp, eval_const, put_some, enterF_zero, enterF_succ, aBin_xor, absV_int, Nat.reduceEqDiff, reduceCtorEq, if_true, if_false, aBin_shl (show (0:Int) ≤ 1 by decide), aBin_shr (show (0:Int) ≤ 63 by decide), aConv_int it_2 it_173, retA_ret, Tryz.results126, resultsA_1]
  exact hid_mk ⟨by rw [zig n h1 h2]; rfl, rfl⟩
theorem pInt (s : V) (cs : List Nat) (n : Int) (h : AHeap) (rd : Rd h s cs) (hc : cs.length ≤ 2 ^ 46) (h1 : -2 ^ 63 ≤ n) (h2 : n < 2 ^ 63) :
    Pure Tryz.prog 90 [s, .int .i64 n] h (.imm (cs ++ enc (zz n)).length (bytesV (cs ++ enc (zz n)))) := by
  refine Pure.of (Clo.imm (bytesV_clo _)) (SCalls.mono (R := fun r h' => Own h' 5 1 r (bytesV (cs ++ enc (zz n))) ∧ Keep h h' none_ ∧ ∀ k, idOf r = some k → h.n ≤ k) ?_ fun r h' ⟨o, k, d⟩ => ?_)
  · refine SCalls.enterI (c := _) Tryz.func90 rfl (by kernel_rfl) (by simp) ?_
    simp only [wpA_region, wpA_seq, seqQ_normal, goI_out, goI_ops, opsA_nil, opsA_cons, stepA_move, stepA_assign, stepA_call, eval_tmp, eval_const, put_some, enterF_zero, enterF_succ, absV_int, absV_snil, Nat.reduceEqDiff, reduceCtorEq, List.map_cons, List.map_nil, if_true, if_false]
    refine callI_of cal103 (fresh s cs 10 h rd (by omega)) fun r1 h1' ⟨e1, o1, k1⟩ => ?_
    have d1 : ∀ k, idOf r1 = some k → h.n ≤ k := fun k hk => by subst e1; simp [idOf] at hk; omega
    simp only [goI_ops, opsA_cons, stepA_move, stepA_call, eval_tmp, put_some, enterF_zero, enterF_succ, Nat.reduceEqDiff, List.map_cons, List.map_nil, if_true, if_false]
    refine callI_pure cal126 (zigzag n h1' h1 h2) ?_
    simp only [goI_ops, opsA_cons, stepA_call, eval_tmp, put_some, enterF_succ, Nat.reduceEqDiff, List.map_cons, List.map_nil, if_true, if_false]
    refine callI_of cal125 (addUint r1 cs (zz n) h1' o1 hc (zz_lt n h1 h2)) fun r2 h2' ⟨o2, k2, d2⟩ => ?_
    simp only [wpA_ret, seqQ_normal, endI_mk, goI_out, goI_ops, opsA_nil, opsA_cons, stepA_assign, eval_tmp, put_some, enterF_succ, Nat.reduceEqDiff, if_true, if_false, retA_ret, Tryz.results90, resultsA_1]
    refine hid_mk ⟨o2, k1.trans k2 fun k hk hi => ?_, fun k hk => ?_⟩
    · have := d1 k hi; omega
    · rcases d2 with d2 | d2
      · exact d1 k (d2 ▸ hk)
      · exact Nat.le_trans k1.n (d2 k hk)
  · obtain ⟨h2, c, k2⟩ := Cast.own o (n := (cs ++ enc (zz n)).length) (by simp [bytesV_length]) (by omega)
    exact ⟨h2, c, k.trans k2 fun j hj hs => by have := d j hs; omega⟩
end Go.Proofs.YtpjfhfmbhjghcaaGreatDoor.Pk
