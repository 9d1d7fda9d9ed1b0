/-
  What functions of the program do, told of abstract states. Conditions: as each theorem says.
-/
import Derived.Test.YtpobgoeeljknpaaDoorPkI
namespace Go.Proofs.YtpobgoeeljknpaaDoor.Pk
open Go Go.Proofs Go.Proofs.YtpobgoeeljknpaaDoor.Ab
set_option linter.unusedVariables false
set_option linter.unusedSimpArgs false
theorem slice_from (l : List Nat) (k : Nat) (hk : k ≤ l.length) {kk : IntKind} : aSlice Tryd.prog 43 (.imm l.length (bytesV l)) (some (.int kk (k : Nat))) none none = some (.imm (l.drop k).length (bytesV (l.drop k))) := by
  rw [slice_imm_lo ss_43 (by omega) (by omega) (by rw [bytesV_length]; omega)]
  rw [Int.toNat_natCast, Nat.mul_one]
  unfold bytesV
  rw [List.map_drop, List.length_drop]
def val : List Nat → Nat
  | [] => 0
  | g :: r => g % 128 + 128 * val r
theorem val_lt : ∀ (l : List Nat), val l < 128 ^ l.length
  | [] => by simp [val]
  | g :: r => by
    have := val_lt r
    rw [val, List.length_cons, Nat.pow_succ]
    have h := Nat.mod_lt g (show 0 < 128 by decide)
    omega
theorem val_snoc (l : List Nat) (g : Nat) : val (l ++ [g]) = val l + g % 128 * 128 ^ l.length := by
  induction l with
  | nil => simp [val]
  | cons x l ih =>
    rw [List.cons_append, val, val, ih, List.length_cons, Nat.pow_succ, Nat.mul_add, Nat.add_assoc]
    congr 2
    rw [← Nat.mul_assoc, Nat.mul_comm 128 (g % 128), Nat.mul_assoc, Nat.mul_comm 128 (128 ^ l.length)]
theorem p7 (k : Nat) : 2 ^ (7 * k) = 128 ^ k := by rw [Nat.pow_mul]
theorem dec_run : ∀ (k : Nat) (bs : List Nat) (at_ acc : Nat), k ≤ bs.length → at_ + k ≤ 9 → (∀ (i : Nat) (hi : i < bs.length), i < k → 128 ≤ bs[i]) → dec bs at_ acc = dec (bs.drop k) (at_ + k) (acc + val (bs.take k) * 2 ^ (7 * at_))
  | 0, bs, at_, acc, _, _, _ => by simp [val]
  | k + 1, [], at_, acc, h, _, _ => by simp at h
  | k + 1, g :: r, at_, acc, h, ha, hb => by
    have h0 := hb 0 (by simp) (by omega)
    simp at h0
    rw [dec, if_neg (by omega), if_pos h0, dec_run k r (at_ + 1) _ (by simpa using h) (by omega) (fun i hi hk => by
      have := hb (i + 1) (by simpa using hi) (by omega)
      simpa using this)]
    rw [List.drop_succ_cons, List.take_succ_cons, val, show at_ + 1 + k = at_ + (k + 1) by omega]
    congr 1
    rw [p7, p7, Nat.pow_succ, Nat.add_mul, Nat.add_assoc]
    congr 2
    rw [Nat.mul_comm (128 ^ at_) 128, ← Nat.mul_assoc, Nat.mul_comm (val _) 128]
theorem val_drop : ∀ (l : List Nat) (j : Nat), val (l.drop j) ≤ val l
  | [], j => by simp
  | g :: r, 0 => by simp
  | g :: r, j + 1 => by
    have := val_drop r j
    rw [List.drop_succ_cons, val]
    omega
def rdGot (bs : List Nat) : Nat × List Nat × Nat := if (dec bs 0 0).2.2 = 0 then ((dec bs 0 0).1, bs.drop (dec bs 0 0).2.1, 0) else (0, bs, (dec bs 0 0).2.2)
def gotC (bs : List Nat) : List V := [.int .u64 ((rdGot bs).1 : Nat), .imm (rdGot bs).2.1.length (bytesV (rdGot bs).2.1), .int .i64 ((rdGot bs).2.2 : Nat)]
theorem rdGot_bad {bs : List Nat} {e : Nat} (h : dec bs 0 0 = (0, 0, e)) (he : e ≠ 0) : rdGot bs = (0, bs, e) := by
  unfold rdGot; rw [h]; simp [he]
theorem gotC_bad {bs : List Nat} {e : Nat} (h : dec bs 0 0 = (0, 0, e)) (he : e ≠ 0) : gotC bs = [.int .u64 0, .imm bs.length (bytesV bs), .int .i64 (e : Nat)] := by
  unfold gotC; rw [rdGot_bad h he]; rfl
theorem bytes_ix {bs : List Nat} {k : Nat} (hk : k < bs.length) {kk : IntKind} : aIndexAddr Tryd.prog 43 (.imm bs.length (bytesV bs)) (.int kk (k : Int)) = some (.at (.int .u8 (bs[k] : Nat) :: bytesV (bs.drop (k + 1)))) := by
  rw [index_imm ss_43 (by omega) (by omega) (by rw [bytesV_length]; omega), Int.toNat_natCast, bytes_drop hk]
set_option maxRecDepth 10000 in
theorem ReadUint (bs : List Nat) (h : AHeap) (hb : ∀ b ∈ bs, b < 256) (hc : bs.length ≤ 2 ^ 47) :
    Pure Tryd.prog 63 [.imm bs.length (bytesV bs)] h (.agg (gotC bs)) := by
  refine Pure.val (Clo.agg (CloL.cons (Clo.int _ _) (CloL.cons (Clo.imm (bytesV_clo _)) (CloL.cons (Clo.int _ _) CloL.nil)))) ?_
  refine SCalls.enterI (c := _) Tryd.func63 rfl (by kernel_rfl) (by simp) ?_
  simp only [wpA_region, wpA_seq, wpA_block, wpA_loop, seqQ_normal, goI_out, goI_ops, opsA_nil, opsA_cons, stepA_assign, stepA_alloc, thenH_some, eval_const, absV_int, aAlloc_eq, Option.map_some, zc_105]
  refine SWp.loopG (α := Nat) (fun k f h' => h' = h.push (.cells [.int .u64 0, .snil, .int .i64 0] 105 none) ∧ f 0 = .imm bs.length (bytesV bs) ∧ f 2 = .ptr h.n 0 ∧ f 3 = .int .i64 (k : Nat) ∧ k ≤ 10 ∧ k ≤ bs.length ∧ ∀ (i : Nat) (hi : i < bs.length), i < k → 128 ≤ bs[i]) (fun k => 10 - k) 0
    ⟨rfl, rfl, rfl, rfl, by omega, by omega, by omega⟩ ?_
  rintro k f h1 ⟨rfl, f0, f2, f3, hk10, hkl, hall⟩
  refine wpI_sound (by kernel_rfl) ?_
  have kp : Keep h (h.push (.cells [.int .u64 0, .snil, .int .i64 0] 105 none)) none_ := Keep.push _ _ _
  by_cases hend : k = 10
  · subst hend
    have hlt : 9 < bs.length := by omega
    have hd : dec bs 0 0 = (0, 0, 5) := by
      rw [dec_run 9 bs 0 0 (by omega) (by omega) fun i hi h9 => hall i hi (by omega), List.drop_eq_getElem_cons hlt, dec, if_pos ⟨by omega, by have := hall 9 hlt (by omega); omega⟩]
    have hg := gotC_bad hd (by decide)
    have c1 : decide (((10 : Nat) : Int) < ((bs.length : Nat) : Int)) = true ∨ decide (((10 : Nat) : Int) < ((bs.length : Nat) : Int)) = false := by cases decide (((10 : Nat) : Int) < ((bs.length : Nat) : Int)) <;> simp
    have c2 : decide (((10 : Nat) : Int) < 10) = false := by decide
    have c3 : (((10 : Nat) : Int) == 10) = true := by decide
    rcases c1 with c1 | c1
    · simp only [wpA_region, wpA_seq, wpA_cond, wpA_exit, wpA_ret, condI_true, condI_false, seqQ_normal, seqQ_exit, seqQ_ret, blkQ_exit, endI_mk, goE, andThen_exit, goI_out, goI_ops, opsA_nil, opsA_cons, opsA_guardS, gvI_same, gvI_ft, slotAt_zero, slotAt_succ, stepA_move, stepA_pick, stepA_build, stepA_store, stepA_binOp, stepA_len, thenV_some, thenS_some, pickV_true, pickV_false, eval_tmp, eval_const, put_some, put_none, aBin_eql, aBin_lss, absV_int, absV_bool, cells_int, cells_imm, cells_agg, one_int, one_imm, all_nil, all_cons, aLoad_eq, loadGo_row, aPlace_ptr, dropC_cells, aStore_eq, storeGo_ptr, setC_row, setAll_nil, setAll_cons, aLen_imm, aBuild_go, aFill_nil, aFill_cons, fillGo_some, buildGo_struct, get_push_new, set_push, List.getElem?_cons_zero, List.getElem?_cons_succ, Nat.reduceEqDiff, Nat.reduceAdd, Nat.reduceLeDiff, reduceCtorEq, List.map_cons, List.map_nil, Option.map_some, Nat.zero_add, Nat.zero_le, List.length_cons, List.length_nil, List.drop_zero, List.take_succ_cons, List.take_nil, List.set_cons_zero, List.set_cons_succ, and_self, if_true, if_false, Bool.and_self, Nat.le_refl, kt_43, lt_105, pl_105, zc_105, zt_105, f0, f2, f3, c1, c2, c3, retA_ret, Tryd.results63, resultsC_1, resultA_cell]
      exact hid_mk ⟨by rw [hg]; rfl, Keep.push _ _ _⟩
    · simp only [wpA_region, wpA_seq, wpA_cond, wpA_exit, wpA_ret, condI_true, condI_false, seqQ_normal, seqQ_exit, seqQ_ret, blkQ_exit, endI_mk, goE, andThen_exit, goI_out, goI_ops, opsA_nil, opsA_cons, opsA_guardS, gvI_ft, slotAt_zero, slotAt_succ, stepA_move, stepA_pick, stepA_build, stepA_store, stepA_binOp, stepA_len, thenV_some, thenS_some, pickV_false, eval_tmp, eval_const, put_some, put_none, aBin_eql, aBin_lss, absV_int, absV_bool, cells_int, cells_imm, cells_agg, one_int, one_imm, all_nil, all_cons, aLoad_eq, loadGo_row, aPlace_ptr, dropC_cells, aStore_eq, storeGo_ptr, setC_row, setAll_nil, setAll_cons, aLen_imm, aBuild_go, aFill_nil, aFill_cons, fillGo_some, buildGo_struct, get_push_new, set_push, List.getElem?_cons_zero, List.getElem?_cons_succ, Nat.reduceEqDiff, Nat.reduceAdd, Nat.reduceLeDiff, reduceCtorEq, List.map_cons, List.map_nil, Option.map_some, Nat.zero_add, Nat.zero_le, List.length_cons, List.length_nil, List.drop_zero, List.take_succ_cons, List.take_nil, List.set_cons_zero, List.set_cons_succ, and_self, if_true, if_false, Bool.and_self, Nat.le_refl, kt_43, lt_105, pl_105, zc_105, zt_105, f0, f2, f3, c1, c3, retA_ret, Tryd.results63, resultsC_1, resultA_cell]
      exact hid_mk ⟨by rw [hg]; rfl, Keep.push _ _ _⟩
  · have hk9 : k ≤ 9 := by omega
    have c10 : (((k : Nat) : Int) == 10) = false := by simp; omega
    have l10 : decide (((k : Nat) : Int) < 10) = true := by simp; omega
    have hrun := dec_run k bs 0 0 hkl (by omega) hall
    rw [Nat.zero_add, Nat.zero_add, Nat.mul_zero, Nat.pow_zero, Nat.mul_one] at hrun
    by_cases hlen : k = bs.length
    · have c1 : decide (((k : Nat) : Int) < ((bs.length : Nat) : Int)) = false := by simp [hlen]
      have c2 : (((k : Nat) : Int) == ((bs.length : Nat) : Int)) = true := by simp [hlen]
      have hd : dec bs 0 0 = (0, 0, 4) := by rw [hrun, List.drop_of_length_le (by omega)]; rfl
      have hg := gotC_bad hd (by decide)
      simp only [wpA_skip, wpA_region, wpA_seq, wpA_cond, wpA_exit, wpA_ret, condI_true, condI_false, seqQ_normal, seqQ_exit, seqQ_ret, blkQ_exit, endI_mk, goE, andThen_exit, goI_out, goI_ops, opsA_nil, opsA_cons, opsA_guardS, gvI_ft, slotAt_zero, slotAt_succ, stepA_move, stepA_pick, stepA_build, stepA_store, stepA_binOp, stepA_len, thenV_some, thenS_some, pickV_false, eval_tmp, eval_const, put_some, put_none, aBin_eql, aBin_lss, absV_int, absV_bool, cells_int, cells_imm, cells_agg, one_int, one_imm, all_nil, all_cons, aLoad_eq, loadGo_row, aPlace_ptr, dropC_cells, aStore_eq, storeGo_ptr, setC_row, setAll_nil, setAll_cons, aLen_imm, aBuild_go, aFill_nil, aFill_cons, fillGo_some, buildGo_struct, get_push_new, set_push, List.getElem?_cons_zero, List.getElem?_cons_succ, Nat.reduceEqDiff, Nat.reduceAdd, Nat.reduceLeDiff, reduceCtorEq, List.map_cons, List.map_nil, Option.map_some, Nat.zero_add, Nat.zero_le, List.length_cons, List.length_nil, List.drop_zero, List.take_succ_cons, List.take_nil, List.set_cons_zero, List.set_cons_succ, and_self, if_true, if_false, Bool.and_self, Nat.le_refl, kt_43, lt_105, pl_105, zc_105, zt_105, f0, f2, f3, c1, c10, c2, retA_ret, Tryd.results63, resultsC_1, resultA_cell]
      exact hid_mk ⟨by rw [hg]; rfl, Keep.push _ _ _⟩
    · have hlt : k < bs.length := by omega
      have c1 : decide (((k : Nat) : Int) < ((bs.length : Nat) : Int)) = true := by simpa using hlt
      have c2 : (((k : Nat) : Int) == ((bs.length : Nat) : Int)) = false := by simp; omega
      by_cases hbig : 128 ≤ bs[k]
      · have c3 : decide ((128 : Int) ≤ ((bs[k] : Nat) : Int)) = true := by simp; omega
        simp only [wpA_skip, wpA_region, wpA_seq, wpA_cond, wpA_block, condI_true, seqQ_normal, blkQ_normal, endI_mk, andThen_normal, goI_out, goI_ops, opsA_nil, opsA_cons, opsA_guardS, gvI_same, slotAt_zero, slotAt_succ, stepA_move, stepA_assign, stepA_pick, stepA_load, stepA_binOp, stepA_indexAddr, stepA_len, thenV_some, pickV_true, eval_tmp, eval_const, put_some, aBin_add, aBin_lss, aBin_geq, absV_int, absV_bool, aLoad_eq, loadGo_one, aPlace_at, aLen_imm, Nat.reduceEqDiff, reduceCtorEq, if_true, if_false, kt_43, lt_5, f0, f3, c1, l10, bytes_ix hlt, c3, inc64 hlt (by omega)]
        refine hid_mk ⟨k + 1, ⟨rfl, f0, f2, rfl, by omega, by omega, fun i hi hik => ?_⟩, by omega⟩
        by_cases hik2 : i = k
        · subst hik2; exact hbig
        · exact hall i hi (by omega)
      · have c3 : decide ((128 : Int) ≤ ((bs[k] : Nat) : Int)) = false := by simp; omega
        rw [List.drop_eq_getElem_cons hlt] at hrun
        by_cases hbad : (k = 9 ∧ 1 < bs[k]) ∨ (0 < k ∧ bs[k] = 0)
        · have hd : dec bs 0 0 = (0, 0, 5) := by
            rw [hrun, dec]
            by_cases h9 : k = 9 ∧ 1 < bs[k]
            · rw [if_pos h9]
            · rw [if_neg h9, if_neg hbig, if_pos (by omega)]
          have hg := gotC_bad hd (by decide)
          by_cases h9 : k = 9
          · have d9 : (((k : Nat) : Int) == 9) = true := by simp [h9]
            have h9l : 9 < bs.length := by omega
            have hix : aIndexAddr Tryd.prog 43 (.imm bs.length (bytesV bs)) (.int .i64 9) = some (.at (.int .u8 (bs[9] : Nat) :: bytesV (bs.drop (9 + 1)))) := bytes_ix (k := 9) h9l
            by_cases h1 : 1 < bs[k]
            · have d1 : decide ((1 : Int) < ((bs[9] : Nat) : Int)) = true := by subst h9; simp; omega
              simp only [wpA_skip, wpA_region, wpA_seq, wpA_cond, wpA_exit, wpA_ret, condI_true, condI_false, seqQ_normal, seqQ_exit, seqQ_ret, blkQ_exit, endI_mk, goE, andThen_exit, goI_out, goI_ops, opsA_nil, opsA_cons, opsA_guardS, gvI_same, gvI_tf, gvI_u, slotAt_zero, slotAt_succ, stepA_move, stepA_pick, stepA_build, stepA_load, stepA_store, stepA_binOp, stepA_indexAddr, stepA_len, thenV_some, thenS_some, pickV_true, eval_tmp, eval_const, put_some, put_none, aBin_eql, aBin_lss, aBin_gtr, aBin_geq, absV_int, absV_bool, cells_int, cells_imm, cells_agg, one_int, one_imm, all_nil, all_cons, aLoad_eq, loadGo_one, loadGo_row, aPlace_ptr, aPlace_at, dropC_cells, aStore_eq, storeGo_ptr, setC_row, setAll_nil, setAll_cons, aLen_imm, aBuild_go, aFill_nil, aFill_cons, fillGo_some, buildGo_struct, get_push_new, set_push, List.getElem?_cons_zero, List.getElem?_cons_succ, Nat.reduceEqDiff, Nat.reduceAdd, Nat.reduceLeDiff, reduceCtorEq, List.map_cons, List.map_nil, Option.map_some, Nat.zero_add, Nat.zero_le, List.length_cons, List.length_nil, List.drop_zero, List.take_succ_cons, List.take_nil, List.set_cons_zero, List.set_cons_succ, and_self, if_true, if_false, Bool.and_self, Nat.le_refl, kt_43, lt_105, lt_5, pl_105, zc_105, zt_105, f0, f2, f3, c1, l10, bytes_ix hlt, c3, c10, c2, d9, hix, d1, retA_ret, Tryd.results63, resultsC_1, resultA_cell]
              exact hid_mk ⟨by rw [hg]; rfl, Keep.push _ _ _⟩
            · have d1 : decide ((1 : Int) < ((bs[9] : Nat) : Int)) = false := by subst h9; simp; omega
              have d2 : decide ((0 : Int) < ((k : Nat) : Int)) = true := by simp; omega
              have d3 : (((bs[k] : Nat) : Int) == 0) = true := by simp; omega
              simp only [wpA_skip, wpA_region, wpA_seq, wpA_cond, wpA_exit, wpA_ret, condI_true, condI_false, seqQ_normal, seqQ_exit, seqQ_ret, blkQ_exit, endI_mk, goE, andThen_exit, goI_out, goI_ops, opsA_nil, opsA_cons, opsA_guardS, gvI_same, slotAt_zero, slotAt_succ, stepA_move, stepA_pick, stepA_build, stepA_load, stepA_store, stepA_binOp, stepA_indexAddr, stepA_len, thenV_some, thenS_some, pickV_true, pickV_false, eval_tmp, eval_const, put_some, put_none, aBin_eql, aBin_lss, aBin_gtr, aBin_geq, absV_int, absV_bool, cells_int, cells_imm, cells_agg, one_int, one_imm, all_nil, all_cons, aLoad_eq, loadGo_one, loadGo_row, aPlace_ptr, aPlace_at, dropC_cells, aStore_eq, storeGo_ptr, setC_row, setAll_nil, setAll_cons, aLen_imm, aBuild_go, aFill_nil, aFill_cons, fillGo_some, buildGo_struct, get_push_new, set_push, List.getElem?_cons_zero, List.getElem?_cons_succ, Nat.reduceEqDiff, Nat.reduceAdd, Nat.reduceLeDiff, reduceCtorEq, List.map_cons, List.map_nil, Option.map_some, Nat.zero_add, Nat.zero_le, List.length_cons, List.length_nil, List.drop_zero, List.take_succ_cons, List.take_nil, List.set_cons_zero, List.set_cons_succ, and_self, if_true, if_false, Bool.and_self, Nat.le_refl, kt_43, lt_105, lt_5, pl_105, zc_105, zt_105, f0, f2, f3, c1, l10, bytes_ix hlt, c3, c10, c2, d9, hix, d1, d2, d3, retA_ret, Tryd.results63, resultsC_1, resultA_cell]
              exact hid_mk ⟨by rw [hg]; rfl, Keep.push _ _ _⟩
          · have d9 : (((k : Nat) : Int) == 9) = false := by simp; omega
            have d2 : decide ((0 : Int) < ((k : Nat) : Int)) = true := by simp; omega
            have d3 : (((bs[k] : Nat) : Int) == 0) = true := by simp; omega
            simp only [wpA_skip, wpA_region, wpA_seq, wpA_cond, wpA_exit, wpA_ret, condI_true, condI_false, seqQ_normal, seqQ_exit, seqQ_ret, blkQ_exit, endI_mk, goE, andThen_exit, goI_out, goI_ops, opsA_nil, opsA_cons, opsA_guardS, gvI_same, gvI_ft, slotAt_zero, slotAt_succ, stepA_move, stepA_pick, stepA_build, stepA_load, stepA_store, stepA_binOp, stepA_indexAddr, stepA_len, thenV_some, thenS_some, pickV_true, pickV_false, eval_tmp, eval_const, put_some, put_none, aBin_eql, aBin_lss, aBin_gtr, aBin_geq, absV_int, absV_bool, cells_int, cells_imm, cells_agg, one_int, one_imm, all_nil, all_cons, aLoad_eq, loadGo_one, loadGo_row, aPlace_ptr, aPlace_at, dropC_cells, aStore_eq, storeGo_ptr, setC_row, setAll_nil, setAll_cons, aLen_imm, aBuild_go, aFill_nil, aFill_cons, fillGo_some, buildGo_struct, get_push_new, set_push, List.getElem?_cons_zero, List.getElem?_cons_succ, Nat.reduceEqDiff, Nat.reduceAdd, Nat.reduceLeDiff, reduceCtorEq, List.map_cons, List.map_nil, Option.map_some, Nat.zero_add, Nat.zero_le, List.length_cons, List.length_nil, List.drop_zero, List.take_succ_cons, List.take_nil, List.set_cons_zero, List.set_cons_succ, and_self, if_true, if_false, Bool.and_self, Nat.le_refl, kt_43, lt_105, lt_5, pl_105, zc_105, zt_105, f0, f2, f3, c1, l10, bytes_ix hlt, c3, c10, c2, d9, d2, d3, retA_ret, Tryd.results63, resultsC_1, resultA_cell]
            exact hid_mk ⟨by rw [hg]; rfl, Keep.push _ _ _⟩
        · have hd : dec bs 0 0 = (val (bs.take (k + 1)), k + 1, 0) := by
            rw [hrun, dec, if_neg (by omega), if_neg hbig, if_neg (by omega), List.take_succ_eq_append_getElem hlt, val_snoc, p7, List.length_take, Nat.min_eq_left hkl]
          have hv := dec_lt bs 0 0 (by omega) (by decide) hb
          rw [hd] at hv
          have hG : gotC bs = [.int .u64 (val (bs.take (k + 1)) : Nat), .imm (bs.drop (k + 1)).length (bytesV (bs.drop (k + 1))), .int .i64 0] := by
            unfold gotC rdGot; rw [hd]; rfl
          have hsl := slice_from bs (k + 1) (by omega) (kk := .i64)
          have j0 : val ((bs.take (k + 1)).drop (k + 1)) = 0 := by rw [List.drop_of_length_le (by rw [List.length_take]; omega)]; rfl
          have j1 : (((k + 1 : Nat) : Int) - 1) = (k : Int) := by omega
          have conds : ((((k : Nat) : Int) == 9) = false ∧ ((decide ((0 : Int) < ((k : Nat) : Int)) = false) ∨ (decide ((0 : Int) < ((k : Nat) : Int)) = true ∧ (((bs[k] : Nat) : Int) == 0) = false))) ∨
              (∃ h9 : 9 < bs.length, (((k : Nat) : Int) == 9) = true ∧ decide ((1 : Int) < ((bs[9] : Nat) : Int)) = false ∧ decide ((0 : Int) < ((k : Nat) : Int)) = true ∧ (((bs[k] : Nat) : Int) == 0) = false) := by
            by_cases h9 : k = 9
            · right
              subst h9
              exact ⟨by omega, rfl, by simp; omega, by decide, by simp; omega⟩
            · left
              refine ⟨by simp; omega, ?_⟩
              by_cases h0 : k = 0
              · left; simp [h0]
              · right; exact ⟨by simp; omega, by simp; omega⟩
          rcases conds with ⟨d9, d2 | ⟨d2, d3⟩⟩ | ⟨h9, d9, d1, d2, d3⟩
          · simp only [wpA_skip, wpA_region, wpA_seq, wpA_cond, wpA_block, wpA_exit, wpA_loop, condI_false, seqQ_normal, seqQ_exit, blkQ_exit, endI_mk, goE, andThen_exit, goI_out, goI_ops, opsA_nil, opsA_cons, opsA_guardS, gvI_same, gvI_ft, slotAt_zero, slotAt_succ, stepA_move, stepA_assign, stepA_pick, stepA_load, stepA_binOp, stepA_indexAddr, stepA_len, thenV_some, pickV_true, pickV_false, eval_tmp, eval_const, put_some, aBin_eql, aBin_lss, aBin_gtr, aBin_geq, absV_int, absV_bool, aLoad_eq, loadGo_one, aPlace_at, aLen_imm, Nat.reduceEqDiff, reduceCtorEq, if_true, if_false, kt_43, lt_5, f0, f3, c1, l10, bytes_ix hlt, c3, c10, c2, d9, d2]
            refine SWp.loopG (α := Nat) (fun j f h' => h' = h.push (.cells [.int .u64 0, .snil, .int .i64 0] 105 none) ∧ f 0 = .imm bs.length (bytesV bs) ∧ f 2 = .ptr h.n 0 ∧ f 3 = .int .i64 (k : Nat) ∧ f 4 = .int .u64 (val ((bs.take (k + 1)).drop j) : Nat) ∧ f 5 = .int .i64 ((j : Int) - 1) ∧ j ≤ k + 1) (fun j => j) (k + 1)
              ⟨rfl, f0, f2, f3, by rw [j0]; rfl, by rw [j1]; rfl, Nat.le_refl _⟩ ?_
            rintro j f' h1 ⟨rfl, g0, g2, g3, g4, g5, hj⟩
            refine wpI_sound (by kernel_rfl) ?_
            cases j with
            | zero =>
              have e1 : decide ((0 : Int) ≤ ((0 : Nat) : Int) - 1) = false := by decide
              simp only [wpA_region, wpA_seq, wpA_cond, wpA_exit, wpA_ret, condI_false, seqQ_normal, seqQ_exit, blkQ_exit, endI_mk, goE, andThen_exit, goI_out, goI_ops, opsA_nil, opsA_cons, stepA_move, stepA_build, stepA_store, stepA_binOp, stepA_slice, thenV_some, thenS_some, eval_tmp, eval_const, put_some, put_none, aBin_add, aBin_geq, absV_int, cells_int, cells_imm, cells_agg, one_int, one_imm, all_nil, all_cons, aLoad_eq, loadGo_row, aPlace_ptr, dropC_cells, aStore_eq, storeGo_ptr, setC_row, setAll_nil, setAll_cons, aBuild_go, aFill_nil, aFill_cons, fillGo_some, buildGo_struct, get_push_new, set_push, List.getElem?_cons_zero, List.getElem?_cons_succ, Nat.reduceEqDiff, Nat.reduceAdd, Nat.reduceLeDiff, reduceCtorEq, List.map_cons, List.map_nil, Option.map_some, Option.map_none, Nat.zero_add, Nat.zero_le, List.length_cons, List.length_nil, List.drop_zero, List.take_succ_cons, List.take_nil, List.set_cons_zero, List.set_cons_succ, and_self, if_true, if_false, Bool.and_self, Nat.le_refl, lt_105, pl_105, zc_105, zt_105, g0, g2, g3, g4, g5, e1, inc64 hlt (by omega), hsl, retA_ret, Tryd.results63, resultsC_1, resultA_cell]
              refine hid_mk ⟨?_, Keep.push _ _ _⟩
              rw [hG]
            | succ j =>
              have e2 : ((j + 1 : Nat) : Int) - 1 = (j : Int) := by omega
              have hjl : j < bs.length := by omega
              have hstep : (bs.take (k + 1)).drop j = bs[j] :: (bs.take (k + 1)).drop (j + 1) := by
                rw [List.drop_eq_getElem_cons (by rw [List.length_take]; omega), List.getElem_take]
              have hlt2 : val ((bs.take (k + 1)).drop j) < 2 ^ 64 := Nat.lt_of_le_of_lt (val_drop _ _) hv
              have hw : IntKind.u64.wrap (IntKind.u64.wrap ((val ((bs.take (k + 1)).drop (j + 1)) : Nat) * 128) + IntKind.u64.wrap (((bs[j] : Nat) : Int).tmod 128)) = ((val ((bs.take (k + 1)).drop j) : Nat) : Int) := by
                rw [hstep, val] at hlt2 ⊢
                rw [Int.tmod_eq_emod_of_nonneg (by omega), IntKind.wrap_u64, IntKind.wrap_u64, IntKind.wrap_u64]
                omega
              have hdec : IntKind.i64.wrap ((j : Int) - 1) = (j : Int) - 1 := Go.IntWalk.i64_in _ (by omega)
              rw [e2] at g5
              have e3 : decide ((0 : Int) ≤ (j : Int)) = true := by simp
              simp only [wpA_skip, wpA_region, wpA_seq, wpA_cond, wpA_block, condI_true, seqQ_normal, blkQ_normal, endI_mk, andThen_normal, goI_out, goI_ops, opsA_nil, opsA_cons, stepA_move, stepA_assign, stepA_load, stepA_binOp, stepA_convert, stepA_indexAddr, thenV_some, thenC_some, eval_tmp, eval_const, put_some, aBin_add, aBin_sub, aBin_mul, aBin_geq, absV_int, aLoad_eq, loadGo_one, aPlace_at, Nat.reduceEqDiff, reduceCtorEq, if_true, if_false, lt_5, g0, g4, g5, e3, bytes_ix hjl, aBin_rem (show (128 : Int) ≠ 0 by decide), aConv_int it_5 it_93, hw, hdec]
              exact hid_mk ⟨j, ⟨rfl, g0, g2, g3, rfl, rfl, by omega⟩, by omega⟩
          · simp only [wpA_skip, wpA_region, wpA_seq, wpA_cond, wpA_block, wpA_exit, wpA_loop, condI_false, seqQ_normal, seqQ_exit, blkQ_exit, endI_mk, goE, andThen_exit, goI_out, goI_ops, opsA_nil, opsA_cons, opsA_guardS, gvI_same, gvI_ft, slotAt_zero, slotAt_succ, stepA_move, stepA_assign, stepA_pick, stepA_load, stepA_binOp, stepA_indexAddr, stepA_len, thenV_some, pickV_true, pickV_false, eval_tmp, eval_const, put_some, aBin_eql, aBin_lss, aBin_gtr, aBin_geq, absV_int, absV_bool, aLoad_eq, loadGo_one, aPlace_at, aLen_imm, Nat.reduceEqDiff, reduceCtorEq, if_true, if_false, kt_43, lt_5, f0, f3, c1, l10, bytes_ix hlt, c3, c10, c2, d9, d2, d3]
            refine SWp.loopG (α := Nat) (fun j f h' => h' = h.push (.cells [.int .u64 0, .snil, .int .i64 0] 105 none) ∧ f 0 = .imm bs.length (bytesV bs) ∧ f 2 = .ptr h.n 0 ∧ f 3 = .int .i64 (k : Nat) ∧ f 4 = .int .u64 (val ((bs.take (k + 1)).drop j) : Nat) ∧ f 5 = .int .i64 ((j : Int) - 1) ∧ j ≤ k + 1) (fun j => j) (k + 1)
              ⟨rfl, f0, f2, f3, by rw [j0]; rfl, by rw [j1]; rfl, Nat.le_refl _⟩ ?_
            rintro j f' h1 ⟨rfl, g0, g2, g3, g4, g5, hj⟩
            refine wpI_sound (by kernel_rfl) ?_
            cases j with
            | zero =>
              have e1 : decide ((0 : Int) ≤ ((0 : Nat) : Int) - 1) = false := by decide
              simp only [wpA_region, wpA_seq, wpA_cond, wpA_exit, wpA_ret, condI_false, seqQ_normal, seqQ_exit, blkQ_exit, endI_mk, goE, andThen_exit, goI_out, goI_ops, opsA_nil, opsA_cons, stepA_move, stepA_build, stepA_store, stepA_binOp, stepA_slice, thenV_some, thenS_some, eval_tmp, eval_const, put_some, put_none, aBin_add, aBin_geq, absV_int, cells_int, cells_imm, cells_agg, one_int, one_imm, all_nil, all_cons, aLoad_eq, loadGo_row, aPlace_ptr, dropC_cells, aStore_eq, storeGo_ptr, setC_row, setAll_nil, setAll_cons, aBuild_go, aFill_nil, aFill_cons, fillGo_some, buildGo_struct, get_push_new, set_push, List.getElem?_cons_zero, List.getElem?_cons_succ, Nat.reduceEqDiff, Nat.reduceAdd, Nat.reduceLeDiff, reduceCtorEq, List.map_cons, List.map_nil, Option.map_some, Option.map_none, Nat.zero_add, Nat.zero_le, List.length_cons, List.length_nil, List.drop_zero, List.take_succ_cons, List.take_nil, List.set_cons_zero, List.set_cons_succ, and_self, if_true, if_false, Bool.and_self, Nat.le_refl, lt_105, pl_105, zc_105, zt_105, g0, g2, g3, g4, g5, e1, inc64 hlt (by omega), hsl, retA_ret, Tryd.results63, resultsC_1, resultA_cell]
              refine hid_mk ⟨?_, Keep.push _ _ _⟩
              rw [hG]
            | succ j =>
              have e2 : ((j + 1 : Nat) : Int) - 1 = (j : Int) := by omega
              have hjl : j < bs.length := by omega
              have hstep : (bs.take (k + 1)).drop j = bs[j] :: (bs.take (k + 1)).drop (j + 1) := by
                rw [List.drop_eq_getElem_cons (by rw [List.length_take]; omega), List.getElem_take]
              have hlt2 : val ((bs.take (k + 1)).drop j) < 2 ^ 64 := Nat.lt_of_le_of_lt (val_drop _ _) hv
              have hw : IntKind.u64.wrap (IntKind.u64.wrap ((val ((bs.take (k + 1)).drop (j + 1)) : Nat) * 128) + IntKind.u64.wrap (((bs[j] : Nat) : Int).tmod 128)) = ((val ((bs.take (k + 1)).drop j) : Nat) : Int) := by
                rw [hstep, val] at hlt2 ⊢
                rw [Int.tmod_eq_emod_of_nonneg (by omega), IntKind.wrap_u64, IntKind.wrap_u64, IntKind.wrap_u64]
                omega
              have hdec : IntKind.i64.wrap ((j : Int) - 1) = (j : Int) - 1 := Go.IntWalk.i64_in _ (by omega)
              rw [e2] at g5
              have e3 : decide ((0 : Int) ≤ (j : Int)) = true := by simp
              simp only [wpA_skip, wpA_region, wpA_seq, wpA_cond, wpA_block, condI_true, seqQ_normal, blkQ_normal, endI_mk, andThen_normal, goI_out, goI_ops, opsA_nil, opsA_cons, stepA_move, stepA_assign, stepA_load, stepA_binOp, stepA_convert, stepA_indexAddr, thenV_some, thenC_some, eval_tmp, eval_const, put_some, aBin_add, aBin_sub, aBin_mul, aBin_geq, absV_int, aLoad_eq, loadGo_one, aPlace_at, Nat.reduceEqDiff, reduceCtorEq, if_true, if_false, lt_5, g0, g4, g5, e3, bytes_ix hjl, aBin_rem (show (128 : Int) ≠ 0 by decide), aConv_int it_5 it_93, hw, hdec]
              exact hid_mk ⟨j, ⟨rfl, g0, g2, g3, rfl, rfl, by omega⟩, by omega⟩
          · have hix : aIndexAddr Tryd.prog 43 (.imm bs.length (bytesV bs)) (.int .i64 9) = some (.at (.int .u8 (bs[9] : Nat) :: bytesV (bs.drop (9 + 1)))) := bytes_ix (k := 9) h9
            simp only [wpA_skip, wpA_region, wpA_seq, wpA_cond, wpA_block, wpA_exit, wpA_loop, condI_false, seqQ_normal, seqQ_exit, blkQ_exit, endI_mk, goE, andThen_exit, goI_out, goI_ops, opsA_nil, opsA_cons, opsA_guardS, gvI_same, slotAt_zero, slotAt_succ, stepA_move, stepA_assign, stepA_pick, stepA_load, stepA_binOp, stepA_indexAddr, stepA_len, thenV_some, pickV_true, pickV_false, eval_tmp, eval_const, put_some, aBin_eql, aBin_lss, aBin_gtr, aBin_geq, absV_int, absV_bool, aLoad_eq, loadGo_one, aPlace_at, aLen_imm, Nat.reduceEqDiff, Nat.reduceAdd, reduceCtorEq, if_true, if_false, kt_43, lt_5, f0, f3, c1, l10, bytes_ix hlt, c3, c10, c2, d9, hix, d1, d2, d3]
            refine SWp.loopG (α := Nat) (fun j f h' => h' = h.push (.cells [.int .u64 0, .snil, .int .i64 0] 105 none) ∧ f 0 = .imm bs.length (bytesV bs) ∧ f 2 = .ptr h.n 0 ∧ f 3 = .int .i64 (k : Nat) ∧ f 4 = .int .u64 (val ((bs.take (k + 1)).drop j) : Nat) ∧ f 5 = .int .i64 ((j : Int) - 1) ∧ j ≤ k + 1) (fun j => j) (k + 1)
              ⟨rfl, f0, f2, f3, by rw [j0]; rfl, by rw [j1]; rfl, Nat.le_refl _⟩ ?_
            rintro j f' h1 ⟨rfl, g0, g2, g3, g4, g5, hj⟩
            refine wpI_sound (by kernel_rfl) ?_
            cases j with
            | zero =>
              have e1 : decide ((0 : Int) ≤ ((0 : Nat) : Int) - 1) = false := by decide
              simp only [wpA_region, wpA_seq, wpA_cond, wpA_exit, wpA_ret, condI_false, seqQ_normal, seqQ_exit, blkQ_exit, endI_mk, goE, andThen_exit, goI_out, goI_ops, opsA_nil, opsA_cons, stepA_move, stepA_build, stepA_store, stepA_binOp, stepA_slice, thenV_some, thenS_some, eval_tmp, eval_const, put_some, put_none, aBin_add, aBin_geq, absV_int, cells_int, cells_imm, cells_agg, one_int, one_imm, all_nil, all_cons, aLoad_eq, loadGo_row, aPlace_ptr, dropC_cells, aStore_eq, storeGo_ptr, setC_row, setAll_nil, setAll_cons, aBuild_go, aFill_nil, aFill_cons, fillGo_some, buildGo_struct, get_push_new, set_push, List.getElem?_cons_zero, List.getElem?_cons_succ, Nat.reduceEqDiff, Nat.reduceAdd, Nat.reduceLeDiff, reduceCtorEq, List.map_cons, List.map_nil, Option.map_some, Option.map_none, Nat.zero_add, Nat.zero_le, List.length_cons, List.length_nil, List.drop_zero, List.take_succ_cons, List.take_nil, List.set_cons_zero, List.set_cons_succ, and_self, if_true, if_false, Bool.and_self, Nat.le_refl, lt_105, pl_105, zc_105, zt_105, g0, g2, g3, g4, g5, e1, inc64 hlt (by omega), hsl, retA_ret, Tryd.results63, resultsC_1, resultA_cell]
              refine hid_mk ⟨?_, Keep.push _ _ _⟩
              rw [hG]
            | succ j =>
              have e2 : ((j + 1 : Nat) : Int) - 1 = (j : Int) := by omega
              have hjl : j < bs.length := by omega
              have hstep : (bs.take (k + 1)).drop j = bs[j] :: (bs.take (k + 1)).drop (j + 1) := by
                rw [List.drop_eq_getElem_cons (by rw [List.length_take]; omega), List.getElem_take]
              have hlt2 : val ((bs.take (k + 1)).drop j) < 2 ^ 64 := Nat.lt_of_le_of_lt (val_drop _ _) hv
              have hw : IntKind.u64.wrap (IntKind.u64.wrap ((val ((bs.take (k + 1)).drop (j + 1)) : Nat) * 128) + IntKind.u64.wrap (((bs[j] : Nat) : Int).tmod 128)) = ((val ((bs.take (k + 1)).drop j) : Nat) : Int) := by
                rw [hstep, val] at hlt2 ⊢
                rw [Int.tmod_eq_emod_of_nonneg (by omega), IntKind.wrap_u64, IntKind.wrap_u64, IntKind.wrap_u64]
                omega
              have hdec : IntKind.i64.wrap ((j : Int) - 1) = (j : Int) - 1 := Go.IntWalk.i64_in _ (by omega)
              rw [e2] at g5
              have e3 : decide ((0 : Int) ≤ (j : Int)) = true := by simp
              simp only [wpA_skip, wpA_region, wpA_seq, wpA_cond, wpA_block, condI_true, seqQ_normal, blkQ_normal, endI_mk, andThen_normal, goI_out, goI_ops, opsA_nil, opsA_cons, stepA_move, stepA_assign, stepA_load, stepA_binOp, stepA_convert, stepA_indexAddr, thenV_some, thenC_some, eval_tmp, eval_const, put_some, aBin_add, aBin_sub, aBin_mul, aBin_geq, absV_int, aLoad_eq, loadGo_one, aPlace_at, Nat.reduceEqDiff, reduceCtorEq, if_true, if_false, lt_5, g0, g4, g5, e3, bytes_ix hjl, aBin_rem (show (128 : Int) ≠ 0 by decide), aConv_int it_5 it_93, hw, hdec]
              exact hid_mk ⟨j, ⟨rfl, g0, g2, g3, rfl, rfl, by omega⟩, by omega⟩
theorem gotC_eq (bs : List Nat) : gotC bs = [.int .u64 ((dec bs 0 0).1 : Nat), .imm (bs.drop (dec bs 0 0).2.1).length (bytesV (bs.drop (dec bs 0 0).2.1)), .int .i64 ((dec bs 0 0).2.2 : Nat)] := by
  unfold gotC rdGot
  by_cases h : (dec bs 0 0).2.2 = 0
  · rw [if_pos h, h]
  · rw [if_neg h]
    have hd := dec_err bs 0 0 h
    rw [hd]
    rfl
theorem signed (n : Nat) (h : AHeap) (hn : n < 2 ^ 64) : Pure Tryd.prog 64 [.int .u64 n] h (.int .i64 (unz n)) := by
  refine SCalls.enterI (c := _) Tryd.func64 rfl (by kernel_rfl) (by simp) ?_
  have e2 : IntKind.u64.wrap ((n : Int).tdiv 2) = ((n / 2 : Nat) : Int) := by
    rw [Int.tdiv_eq_ediv_of_nonneg (by omega), IntKind.wrap_u64]; omega
  have e3 : IntKind.i64.wrap ((n / 2 : Nat) : Int) = ((n / 2 : Nat) : Int) := Go.IntWalk.i64_in _ (by omega)
  by_cases h1 : n % 2 = 1
  · have c1 : ((n : Int).tmod 2 == 1) = true := by rw [Int.tmod_eq_emod_of_nonneg (by omega)]; simp; omega
    have e4 : IntKind.i64.wrap (IntKind.i64.wrap (0 - ((n / 2 : Nat) : Int)) - 1) = unz n := by
      rw [Go.IntWalk.i64_in (0 - _) (by omega), Go.IntWalk.i64_in _ (by omega)]
      unfold unz
      rw [if_neg (by omega)]
      omega
    simp only [wpA_region, wpA_seq, wpA_cond, wpA_ret, condI_true, seqQ_normal, seqQ_ret, endI_mk, goI_out, goI_ops, opsA_nil, opsA_cons, stepA_move, stepA_assign, stepA_binOp, stepA_unOp, stepA_convert, thenV_some, thenC_some, eval_tmp, eval_const, put_some, enterF_zero, enterF_succ, aBin_sub, aBin_eql, aUn_neg, absV_int, Nat.reduceEqDiff, reduceCtorEq, if_true, if_false, aBin_rem (show (2 : Int) ≠ 0 by decide), aBin_quo (show (2 : Int) ≠ 0 by decide), c1, e2, e3, aConv_int it_93 it_2, e4, retA_ret, Tryd.results64, resultsA_1]
    exact hid_mk ⟨rfl, rfl⟩
  · have c1 : ((n : Int).tmod 2 == 1) = false := by rw [Int.tmod_eq_emod_of_nonneg (by omega)]; simp; omega
    simp only [wpA_skip, wpA_region, wpA_seq, wpA_cond, wpA_ret, condI_false, seqQ_normal, endI_mk, goI_out, goI_ops, opsA_nil, opsA_cons, stepA_move, stepA_assign, stepA_binOp, stepA_convert, thenV_some, thenC_some, eval_tmp, eval_const, put_some, enterF_zero, enterF_succ, aBin_eql, absV_int, Nat.reduceEqDiff, reduceCtorEq, if_true, if_false, aBin_rem (show (2 : Int) ≠ 0 by decide), aBin_quo (show (2 : Int) ≠ 0 by decide), c1, e2, e3, aConv_int it_93 it_2, retA_ret, Tryd.results64, resultsA_1]
    refine hid_mk ⟨?_, rfl⟩
    unfold unz
    rw [if_pos (by omega)]
end Go.Proofs.YtpobgoeeljknpaaDoor.Pk
