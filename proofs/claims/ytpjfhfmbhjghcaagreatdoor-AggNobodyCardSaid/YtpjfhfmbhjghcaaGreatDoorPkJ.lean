/-
  What functions of the program do, told of abstract states. Conditions: as each theorem says.
-/
import Derived.Test.YtpjfhfmbhjghcaaGreatDoorPkH
namespace Go.Proofs.YtpjfhfmbhjghcaaGreatDoor.Pk
open Go Go.Proofs Go.Proofs.YtpjfhfmbhjghcaaGreatDoor.Ab
set_option linter.unusedVariables false
set_option linter.unusedSimpArgs false
set_option maxRecDepth 10000
def strB (l : List Nat) : ByteArray := strOfNums (l.map fun n : Nat => (n : Int))
def unz (n : Nat) : Int := if n % 2 = 0 then ((n / 2 : Nat) : Int) else -((n / 2 : Nat) : Int) - 1
theorem bAnd_one (n : Nat) (hn : n < 2 ^ 64) : bAnd .u64 (n : Int) 1 = ((n % 2 : Nat) : Int) := by
  show IntKind.u64.wrap ((BitVec.ofInt 64 (n : Int) &&& BitVec.ofInt 64 1).toNat : Int) = _
  have e : BitVec.ofInt 64 (1 : Int) = BitVec.ofNat 64 1 := rfl
  have e1 : (BitVec.ofNat 64 n &&& BitVec.ofNat 64 1).toNat = n % 2 := by
    rw [BitVec.toNat_and, BitVec.toNat_ofNat, BitVec.toNat_ofNat, Nat.mod_eq_of_lt hn, Nat.mod_eq_of_lt (by decide), Nat.and_one_is_mod]
  rw [ofInt_nat, e, e1, IntKind.wrap_u64]
  omega
theorem bXor_zeroI (a : Nat) (ha : a < 2 ^ 63) : bXor .i64 (a : Int) 0 = (a : Int) := by
  show IntKind.i64.wrap ((BitVec.ofInt 64 (a : Int) ^^^ BitVec.ofInt 64 0).toNat : Int) = _
  have e : BitVec.ofInt 64 (0 : Int) = BitVec.ofNat 64 0 := rfl
  have e1 : (BitVec.ofNat 64 a ^^^ BitVec.ofNat 64 0).toNat = a := by
    rw [BitVec.toNat_xor, BitVec.toNat_ofNat, BitVec.toNat_ofNat, Nat.zero_mod, Nat.xor_zero]
    exact Nat.mod_eq_of_lt (by omega)
  rw [ofInt_nat, e, e1, IntKind.wrap_i64]
  omega
theorem bXor_onesI (a : Nat) (ha : a < 2 ^ 63) : bXor .i64 (a : Int) (-1) = -(a : Int) - 1 := by
  show IntKind.i64.wrap ((BitVec.ofInt 64 (a : Int) ^^^ BitVec.ofInt 64 (-1)).toNat : Int) = _
  have e : BitVec.ofInt 64 (-1 : Int) = BitVec.allOnes 64 := by decide
  have e1 : (BitVec.ofNat 64 a ^^^ BitVec.allOnes 64).toNat = 18446744073709551615 - a := by
    rw [BitVec.xor_allOnes, BitVec.toNat_not, BitVec.toNat_ofNat, Nat.mod_eq_of_lt (by omega)]
  rw [ofInt_nat, e, e1, IntKind.wrap_i64]
  omega
theorem unzig (n : Nat) (hn : n < 2 ^ 64) : bXor .i64 (IntKind.i64.wrap ((n : Int).fdiv (2 ^ min (Int.toNat 1) IntKind.u64.bits))) (IntKind.i64.wrap (0 - IntKind.i64.wrap (bAnd .u64 (n : Int) 1))) = unz n := by
  have e1 : (2 : Int) ^ min (Int.toNat 1) IntKind.u64.bits = 2 := by decide
  have e2 : IntKind.i64.wrap ((n : Int).fdiv 2) = ((n / 2 : Nat) : Int) := by
    rw [Int.fdiv_eq_ediv_of_nonneg _ (by omega), Go.IntWalk.i64_in _ (by omega)]; omega
  rw [e1, e2, bAnd_one n hn, Go.IntWalk.i64_in ((n % 2 : Nat) : Int) (by omega), Go.IntWalk.i64_in _ (by omega)]
  unfold unz
  by_cases h : n % 2 = 0
  · rw [if_pos h, h]; exact bXor_zeroI _ (by omega)
  · have h1 : n % 2 = 1 := by omega
    rw [if_neg h, h1]
    exact bXor_onesI _ (by omega)
theorem unz_range (n : Nat) (hn : n < 2 ^ 64) : -2 ^ 63 ≤ unz n ∧ unz n < 2 ^ 63 := by
  unfold unz
  split <;> omega
theorem unzigzag (n : Nat) (h : AHeap) (hn : n < 2 ^ 64) : Pure Tryz.prog 140 [.int .u64 n] h (.int .i64 (unz n)) := by
  refine SCalls.enterI (c := _) Tryz.func140 rfl (by kernel_rfl) (by simp) ?_
  simp only [wpA_region, wpA_seq, wpA_ret, seqQ_normal, endI_mk, goI_out, goI_ops, opsA_nil, opsA_cons, stepA_move, stepA_assign, stepA_binOp, stepA_unOp, stepA_convert, thenV_some, thenC_some, eval_tmp, eval_const, put_some, enterF_zero, enterF_succ, aBin_and, aBin_xor, aUn_neg, absV_int, Nat.reduceEqDiff, reduceCtorEq, if_true, if_false, aBin_shr (show (0:Int) ≤ 1 by decide), aConv_int it_173 it_2, retA_ret, Tryz.results140, resultsA_1]
  exact hid_mk ⟨by rw [unzig n hn], rfl⟩
theorem RInt (p : V) (i : Nat) (bs : List Nat) (h : AHeap) (hr : IsRd h p i bs) (hb : ∀ b ∈ bs, b < 256) (hc : bs.length ≤ 2 ^ 47) :
    SCalls Tryz.prog 105 [p] h (fun r h' => r = .tuple [.int .i64 (unz (dec bs 0 0).1), .int .i64 ((dec bs 0 0).2.2 : Nat)] ∧ IsRd h' p i (bs.drop (dec bs 0 0).2.1) ∧ Keep h h' (· = i)) := by
  refine SCalls.enterI (c := _) Tryz.func105 rfl (by kernel_rfl) (by simp) ?_
  simp only [wpA_region, wpA_seq, seqQ_normal, goI_out, goI_ops, opsA_nil, opsA_cons, stepA_move, stepA_assign, stepA_call, eval_tmp, eval_const, put_some, enterF_zero, enterF_succ, absV_int, Nat.reduceEqDiff, reduceCtorEq, List.map_cons, List.map_nil, if_true, if_false]
  refine callI_of cal104 (RUint p i bs h hr hb hc) fun r h1 ⟨e1, r1, k1⟩ => ?_
  subst e1
  have hlt := dec_lt bs 0 0 (by omega) (by decide) hb
  by_cases herr : (dec bs 0 0).2.2 = 0
  · have hne : ((((dec bs 0 0).2.2 : Nat) : Int) != 0) = false := by simp [herr]
    simp only [wpA_skip, wpA_region, wpA_seq, wpA_cond, condI_false, seqQ_normal, goI_out, goI_ops, opsA_nil, opsA_cons, stepA_move, stepA_assign, stepA_binOp, stepA_extract, stepA_call, thenV_some, extV_zero, extV_succ, eval_tmp, eval_const, put_some, enterF_succ, aBin_neq, absV_int, Nat.reduceEqDiff, List.map_cons, List.map_nil, if_true, if_false, hne]
    refine callI_pure cal140 (unzigzag _ h1 hlt) ?_
    simp only [wpA_ret, seqQ_normal, endI_mk, goI_out, goI_ops, opsA_nil, opsA_cons, stepA_assign, eval_tmp, eval_const, put_some, enterF_succ, absV_int, Nat.reduceEqDiff, if_true, if_false, retA_ret, Tryz.results105, resultsA_2]
    exact hid_mk ⟨by rw [herr]; rfl, r1, k1⟩
  · have hne : ((((dec bs 0 0).2.2 : Nat) : Int) != 0) = true := by simp; omega
    have hd := dec_err bs 0 0 herr
    simp only [wpA_region, wpA_seq, wpA_cond, wpA_ret, condI_true, seqQ_normal, seqQ_ret, endI_mk, goI_out, goI_ops, opsA_nil, opsA_cons, stepA_move, stepA_assign, stepA_binOp, stepA_extract, thenV_some, extV_zero, extV_succ, eval_tmp, eval_const, put_some, enterF_succ, aBin_neq, absV_int, Nat.reduceEqDiff, if_true, if_false, hne, retA_ret, Tryz.results105, resultsA_2]
    refine hid_mk ⟨?_, r1, k1⟩
    rw [hd]
    have : unz 0 = 0 := by decide
    simp only [this]
def getBytes (bs : List Nat) : List Nat × List Nat × Nat :=
  if (dec bs 0 0).2.2 ≠ 0 then ([], bs, (dec bs 0 0).2.2)
  else if (bs.drop (dec bs 0 0).2.1).length < (dec bs 0 0).1 then ([], bs, 4)
  else ((bs.drop (dec bs 0 0).2.1).take (dec bs 0 0).1, (bs.drop (dec bs 0 0).2.1).drop (dec bs 0 0).1, 0)
theorem slice_from (l : List Nat) (k : Nat) (hk : k ≤ l.length) {kk : IntKind} : aSlice Tryz.prog 89 (.imm l.length (bytesV l)) (some (.int kk (k : Nat))) none none = some (.imm (l.drop k).length (bytesV (l.drop k))) := by
  rw [slice_imm_lo ss_89 (by omega) (by omega) (by rw [bytesV_length]; omega)]
  rw [Int.toNat_natCast, Nat.mul_one]
  unfold bytesV
  rw [List.map_drop, List.length_drop]
theorem slice_toK (l : List Nat) (k : Nat) (hk : k ≤ l.length) {kk : IntKind} : aSlice Tryz.prog 89 (.imm l.length (bytesV l)) none (some (.int kk (k : Nat))) none = some (.imm (l.take k).length (bytesV (l.take k))) := by
  rw [slice_imm_hi ss_89 (by omega) (by omega) (by rw [bytesV_length]; omega)]
  rw [Int.toNat_natCast, Nat.mul_one, List.length_take, Nat.min_eq_left hk]
  unfold bytesV
  rw [List.map_take]
theorem nil_cast (h : AHeap) (l : List V) : Cast (.tuple (.snil :: l)) h (.tuple (.imm 0 [] :: l)) h := fun ρ B w0 w r' hw hv => by
  cases hv with
  | tuple hs hx =>
    refine ⟨ρ, Ren.le.refl ρ, hw, .tuple hs fun k v v' a b => ?_⟩
    match k with
    | 0 =>
      simp at a
      subst a
      have := hx 0 .snil v' rfl b
      cases this
      exact .immZ _ _ (by simp)
    | k + 1 => exact hx (k + 1) v v' (by simpa using a) b
theorem unz_zz (n : Int) : unz (zz n) = n := by
  unfold unz zz
  by_cases h : 0 ≤ n
  · rw [if_pos h, if_pos (by omega)]; omega
  · rw [if_neg h, if_neg (by omega)]; omega
end Go.Proofs.YtpjfhfmbhjghcaaGreatDoor.Pk
