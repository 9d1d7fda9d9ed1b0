/-
  What functions of the program do, told of abstract states. Conditions: as each theorem says.
-/
import Derived.Test.YtpobgoeeljknpaaDoorFlX
namespace Go.Proofs.YtpobgoeeljknpaaDoor.Pk
open Go Go.Proofs Go.Proofs.YtpobgoeeljknpaaDoor.Ab
set_option linter.unusedVariables false
set_option linter.unusedSimpArgs false
def rowF (n : Int) : List V := [.int .i64 4, .snil] ++ encE (.mk 1 n []) ++ [.int .i64 0]
theorem rowF_eq (n : Int) : rowF n = [.int .i64 4, .snil, .int .i64 1, .int .i64 n, .imm 0 [], .int .i64 0] := rfl
def rowsF (n : Int) : Nat → List V
  | 0 => []
  | i + 1 => rowsF n i ++ rowF n
theorem rowsF_len (n : Int) : ∀ i, (rowsF n i).length = i * 6
  | 0 => rfl
  | i + 1 => by rw [rowsF, List.length_append, rowsF_len n i, rowF_eq]; simp only [List.length_cons, List.length_nil]; omega
theorem rowsF_wk (n : Int) : ∀ i, WkL (rowsF n i) ((List.replicate i (vFlat n)).flatMap encX)
  | 0 => .refl _
  | i + 1 => by
    rw [List.replicate_succ', List.flatMap_append, List.flatMap_cons, List.flatMap_nil, List.append_nil]
    exact WkL.append (rowsF_wk n i) (by rw [rowsF_len, rows_len encX_len, List.length_replicate]) (wkX 4 (.mk 1 n []) 0)
theorem litF (h : AHeap) (n : Int) : aBuildSlice Tryd.prog 55 1 [(0, .agg (rowF n))] h = some (.sl h.n 0 1 1, h.push (.cells (rowF n) 58 none)) := by
  rw [buildSlice_go sl_55]; rfl
theorem wf_u8 {a : Int} (h : (Lit.int .u8 a).wf = true) : 0 ≤ a ∧ a < 256 := by
  simp only [Lit.wf, Bool.and_eq_true, decide_eq_true_eq] at h
  have h1 : IntKind.u8.min = 0 := rfl
  have h2 : IntKind.u8.max = 255 := rfl
  omega
theorem wf_i8 {a : Int} (h : (Lit.int .i8 a).wf = true) : -128 ≤ a ∧ a < 128 := by
  simp only [Lit.wf, Bool.and_eq_true, decide_eq_true_eq] at h
  have h1 : IntKind.i8.min = -128 := rfl
  have h2 : IntKind.i8.max = 127 := rfl
  omega
set_option maxHeartbeats 2000000 in
set_option maxRecDepth 10000 in
theorem flowFlats (n many val : Int) (hn : -128 ≤ n ∧ n < 128) (hm : 0 ≤ many ∧ many < 256) (hv : inR val) (h : AHeap) (hg : KG h) : SCalls Tryd.prog 10 [.int .i8 n, .int .u8 many, .int .i64 val] h (fun r h' => r = .bool true) := by
  refine SCalls.enterI (c := _) Tryd.func10 rfl (by kernel_rfl) (by simp) ?_
  obtain ⟨k, hk, hk7⟩ : ∃ k : Nat, (k : Int) = many % 8 ∧ k ≤ 7 := ⟨(many % 8).toNat, by omega, by omega⟩
  obtain ⟨c, hc⟩ : ∃ c, c = (min n 4).toNat := ⟨_, rfl⟩
  have hc4 : c ≤ 4 := by omega
  have hrem : ∀ xo yo, aBin Tryd.prog .rem 5 xo yo (.int .u8 many) (.int .u8 8) = some (.int .u8 (k : Nat)) := fun xo yo => by
    rw [aBin_rem (by omega), Int.tmod_eq_emod_of_nonneg hm.1, hk]
  have w0 : IntKind.i64.wrap ((k : Nat) : Int) = ((k : Nat) : Int) := by rw [Go.IntWalk.i64_in _ (by omega)]
  have w1 : IntKind.i64.wrap n = n := by rw [Go.IntWalk.i64_in _ (by omega)]
  have w2 : max (min n 4) 0 = ((c : Nat) : Int) := by omega
  simp only [wpA_region, wpA_seq, seqQ_normal, goI_out, goI_ops, opsA_nil, opsA_cons, stepA_assign, stepA_call, eval_const, absV_bool, List.map_nil]
  refine callI_pure cal31 (pShown17 h hg) ?_
  simp only [wpA_region, wpA_seq, wpA_block, wpA_loop, seqQ_normal, goI_out, goI_ops, opsA_nil, opsA_cons, stepA_move, stepA_assign, stepA_binOp, stepA_convert, stepA_min, stepA_max, thenV_some, eval_tmp, eval_const, put_some, enterF_zero, enterF_succ, mmV_min, mmV_max, absV_int, absV_snil, Nat.reduceEqDiff, reduceCtorEq, if_true, if_false, hrem, aConv_int it_5 it_3, aConv_int it_54 it_3, w0, w1, w2]
  refine SWp.loopG (α := Nat × V) (fun x f h' => f 0 = .int .i8 n ∧ f 2 = .int .i64 val ∧ f 7 = .bool true ∧ f 8 = .int .i64 (k : Nat) ∧ f 9 = x.2 ∧ f 10 = .int .i64 ((c ^ x.1 : Nat) : Int) ∧ f 11 = .int .i64 (c : Nat) ∧ f 12 = .int .i64 (x.1 : Nat) ∧ x.1 ≤ k ∧ Acc h h' 58 6 x.2 (rowsF n x.1)) (fun x => k - x.1) (0, .snil)
    ⟨rfl, rfl, rfl, rfl, rfl, rfl, rfl, rfl, Nat.zero_le _, Acc.nil (Keep.refl _ _)⟩ ?_
  rintro ⟨i, v⟩ f h1 ⟨f0, f2, f7, f8, f9, f10, f11, f12, hi, a1⟩
  simp only at f9 f10 f12 hi a1
  refine wpI_sound (by kernel_rfl) ?_
  by_cases hlt : i < k
  · have c1 : decide ((i : Int) < ((k : Nat) : Int)) = true := by simp; omega
    have w3 : IntKind.i64.wrap (((i : Nat) : Int) + 1) = ((i + 1 : Nat) : Int) := by rw [Go.IntWalk.i64_in _ (by omega)]; omega
    have hp : c ^ i * c ≤ 4 ^ 7 := by
      rw [← Nat.pow_succ]
      calc c ^ (i + 1) ≤ 4 ^ (i + 1) := Nat.pow_le_pow_left hc4 _
        _ ≤ 4 ^ 7 := Nat.pow_le_pow_right (by decide) (by omega)
    have w4 : IntKind.i64.wrap (((c ^ i : Nat) : Int) * ((c : Nat) : Int)) = ((c ^ (i + 1) : Nat) : Int) := by
      rw [← Int.natCast_mul, Nat.pow_succ, Go.IntWalk.i64_in _ (by omega)]
    obtain ⟨v', h2, q1, q2⟩ := Acc.elemM (P := Tryd.prog) sl_55 a1 (xs := rowF n) (by decide) rfl rfl (fun m hm => by
      rw [rowsF_len] at hm
      have hm' : m * 6 = i * 6 + 6 := hm
      show m * 80 ≤ 140737488355328 ∧ m ≤ 140737488355328
      omega)
    have bx : Option.map V.agg (if (encE (.mk 1 n [])).length = 3 then some (setAll [V.int .i64 4, .snil, .int .i64 0, .int .i64 0, .snil, .int .i64 0] 2 (encE (.mk 1 n []))) else none) = some (.agg (rowF n)) := rfl
    simp only [wpA_skip, wpA_region, wpA_seq, wpA_cond, wpA_block, condI_true, seqQ_normal, goI_out, goI_ops, opsA_nil, opsA_cons, stepA_move, stepA_binOp, stepA_convert, stepA_call, thenV_some, eval_tmp, put_some, aBin_lss, Nat.reduceEqDiff, reduceCtorEq, List.map_cons, List.map_nil, if_true, if_false, f0, f8, f9, f12, c1, aConv_int it_54 it_2, w1]
    refine callI_pure cal32 (pCon17 n h1) ?_
    simp only [wpA_region, seqQ_normal, blkQ_normal, endI_mk, andThen_normal, goI_out, goI_ops, opsA_nil, opsA_cons, stepA_move, stepA_assign, stepA_build, stepA_buildSlice, stepA_binOp, stepA_append, thenV_some, thenH_some, eval_tmp, eval_const, put_some, aBin_add, aBin_mul, absV_int, cells_int, cells_agg, setAll_nil, setAll_cons, aBuild_go, aFill_nil, aFill_cons, fillGo_some, buildGo_struct, List.getElem?_cons_zero, List.getElem?_cons_succ, Nat.reduceEqDiff, Nat.reduceAdd, Nat.reduceLeDiff, List.map_cons, List.map_nil, Nat.zero_add, List.length_cons, List.length_nil, List.set_cons_zero, and_true, and_self, if_true, if_false, pl_58, zc_58, f10, f11, f12, bx, litF, q1, w3, w4]
    exact hid_mk ⟨(i + 1, v'), ⟨f0, f2, f7, f8, rfl, rfl, f11, rfl, by simp only; omega, q2⟩, by simp only; omega⟩
  have c1 : decide ((i : Int) < ((k : Nat) : Int)) = false := by simp; omega
  obtain rfl : i = k := by omega
  obtain ⟨h2, cc, kk⟩ := a1.cast (n := i) (rowsF_len n i) (by decide)
  have pc := pChain (List.replicate i (vFlat n)) (by simp; omega) ⟨0, val, 0⟩ h2 (hg.keep kk)
  rw [List.length_replicate] at pc
  have ca : CastL [v, .agg (recE ⟨0, val, 0⟩)] h1 [.imm i ((List.replicate i (vFlat n)).flatMap encX), .agg (recE ⟨0, val, 0⟩)] h2 :=
    CastL.cons (cc.trans ((WkV.imm (rowsF_wk n i) (by rw [rowsF_len, rows_len encX_len, List.length_replicate])).cast _)) (CastL.refl _ _)
  have sc : SCalls Tryd.prog 33 [v, .agg [.int .i64 0, .int .i64 val, .int .i64 0]] h1 (fun q h' => q = chV (chainX (List.replicate i (vFlat n)) ⟨0, val, 0⟩)) := SCalls.args ca (pc.mono fun q h' ⟨e1, _⟩ => e1)
  obtain ⟨big, small⟩ := chainFlats n i hk7 val hv
  rw [← hc] at big small
  simp only [wpA_region, wpA_seq, wpA_cond, wpA_exit, condI_false, seqQ_normal, seqQ_exit, blkQ_exit, endI_mk, goE, andThen_exit, goI_out, goI_ops, opsA_nil, opsA_cons, stepA_move, stepA_build, stepA_binOp, stepA_call, thenV_some, eval_tmp, put_some, aBin_lss, cells_int, setAll_nil, setAll_cons, aBuild_go, aFill_nil, aFill_cons, fillGo_some, buildGo_struct, List.getElem?_cons_zero, List.getElem?_cons_succ, Nat.reduceEqDiff, Nat.reduceAdd, Nat.reduceLeDiff, List.map_cons, List.map_nil, Option.map_some, Nat.zero_add, List.length_cons, List.length_nil, List.set_cons_zero, List.set_cons_succ, and_self, if_true, if_false, pl_32, zc_32, f2, f8, f9, f12, c1]
  refine callI_of cal33 sc (fun q h' e1 => ?_)
  by_cases hb : 10000 < c ^ i
  · obtain ⟨at_, ha, hG⟩ := big hb
    rw [hG] at e1
    subst e1
    have c2 : decide (10000 < ((c ^ i : Nat) : Int)) = true := decide_eq_true (by omega)
    have c3 : decide (0 ≤ at_) = true := by simpa using ha
    simp only [wpA_region, wpA_seq, wpA_cond, wpA_ret, condI_true, seqQ_normal, seqQ_ret, endI_mk, goI_out, goI_ops, opsA_nil, opsA_cons, opsA_guardS, gvI_same, slotAt_zero, slotAt_succ, stepA_move, stepA_assign, stepA_pick, stepA_binOp, stepA_extract, stepA_len, thenV_some, pickV_true, extV_zero, extV_succ, eval_tmp, eval_const, put_some, aBin_eql, aBin_gtr, aBin_geq, absV_int, absV_bool, aLen_imm, beq_self_eq_true, Nat.reduceEqDiff, List.length_nil, if_true, if_false, kt_59, chV, f7, f10, c2, c3, retA_ret, Tryd.results10, resultsA_1]
    exact hid_mk rfl
  · obtain ⟨l, hG, hl, hd⟩ := small (by omega)
    rw [hG] at e1
    subst e1
    have c2 : decide (10000 < ((c ^ i : Nat) : Int)) = false := decide_eq_false (by omega)
    have c3 : (((l.length : Nat) : Int) == ((c ^ i : Nat) : Int)) = true := by rw [hl]; simp
    by_cases h0 : c ^ i = 0
    · have c4 : (((c ^ i : Nat) : Int) == 0) = true := by rw [h0]; rfl
      simp only [wpA_skip, wpA_region, wpA_seq, wpA_cond, wpA_ret, condI_false, seqQ_normal, endI_mk, goI_out, goI_ops, opsA_nil, opsA_cons, opsA_guardS, gvI_same, gvI_tf, slotAt_zero, slotAt_succ, stepA_move, stepA_assign, stepA_pick, stepA_binOp, stepA_extract, stepA_len, thenV_some, pickV_true, extV_zero, extV_succ, eval_tmp, eval_const, put_some, aBin_eql, aBin_gtr, absV_int, absV_bool, aLen_imm, beq_self_eq_true, Int.reduceNeg, Nat.reduceEqDiff, if_true, if_false, kt_59, chV, f7, f10, c2, c3, c4, retA_ret, Tryd.results10, resultsA_1]
      exact hid_mk rfl
    · have c4 : (((c ^ i : Nat) : Int) == 0) = false := by
        rw [beq_eq_false_iff_ne]
        omega
      have hpos : 0 < l.length := by omega
      obtain ⟨x, hx0⟩ : ∃ x, x = l[0] := ⟨_, rfl⟩
      have hh : l.head? = some x := by rw [hx0, List.head?_eq_getElem?, List.getElem?_eq_getElem hpos]
      have hx : x.v = val := by
        by_cases hc1 : 1 ≤ c
        · exact hd hc1 x hh
        · obtain rfl : c = 0 := by omega
          cases i with
          | zero =>
            have hr : chainX (List.replicate 0 (vFlat n)) ⟨0, val, 0⟩ = ([⟨0, val, 0⟩], -1, 0) := rfl
            rw [hr] at hG
            obtain rfl : [⟨0, val, 0⟩] = l := (Prod.mk.inj hG).1
            rw [hx0]; rfl
          | succ i => exact absurd (by simp) h0
      obtain ⟨R, hR⟩ : ∃ R, R = (l.drop (0 + 1)).flatMap recE := ⟨_, rfl⟩
      have ix : aIndexAddr Tryd.prog 59 (.imm l.length (l.flatMap recE)) (.int .i64 0) = some (.at ([.int .i64 x.k, .int .i64 x.v, .int .i64 x.t] ++ R)) := by
        rw [hR, hx0]; exact rec_ix hpos
      simp only [wpA_skip, wpA_region, wpA_seq, wpA_cond, wpA_ret, condI_false, seqQ_normal, endI_mk, goI_out, goI_ops, opsA_nil, opsA_cons, opsA_guardS, gvI_same, slotAt_zero, slotAt_succ, stepA_move, stepA_assign, stepA_pick, stepA_load, stepA_binOp, stepA_fieldAddr, stepA_indexAddr, stepA_extract, stepA_len, thenV_some, pickV_true, pickV_false, extV_zero, extV_succ, eval_tmp, eval_const, put_some, aBin_eql, aBin_gtr, absV_int, absV_bool, aField_eq, fieldGo_at, aLoad_eq, loadGo_one, aPlace_at, aLen_imm, beq_self_eq_true, Int.reduceNeg, Nat.reduceEqDiff, Nat.reduceLeDiff, List.length_cons, List.drop_zero, List.drop_succ_cons, List.nil_append, List.cons_append, if_true, if_false, ft_32_1, kt_59, lt_2, chV, f2, f7, f10, c2, c3, c4, ix, hx, retA_ret, Tryd.results10, resultsA_1]
      exact hid_mk rfl
end Go.Proofs.YtpobgoeeljknpaaDoor.Pk
