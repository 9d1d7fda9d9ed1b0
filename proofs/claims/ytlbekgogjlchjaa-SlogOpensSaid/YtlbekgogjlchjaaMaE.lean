/-
  What functions of the program do, told of abstract states. Conditions: as each theorem says.
-/
import Derived.Test.YtlbekgogjlchjaaMaD
import Derived.Test.YtlbekgogjlchjaaAbD
import Derived.Test.YtlbekgogjlchjaaAbD
namespace Go.Proofs.Ytlbekgogjlchjaa.Pk
open Go Go.Proofs Go.Proofs.Ytlbekgogjlchjaa.Ab
set_option linter.unusedVariables false
set_option linter.unusedSimpArgs false
/-! ### What a payload tells -/
structure Act where
  kind : Int
  epoch : Int
  at_ : Int
  bytes : List Nat
def actE (a : Act) : List V := [.int .i64 a.kind, .int .i64 a.epoch, .int .i64 a.at_, .imm a.bytes.length (bytesV a.bytes)]
theorem actE_clo (a : Act) : CloL (actE a) := CloL.cons (Clo.int _ _) (CloL.cons (Clo.int _ _) (CloL.cons (Clo.int _ _) (CloL.cons (Clo.imm (bytesV_clo _)) CloL.nil)))
def mayEp (n : Int) : Bool := decide (0 ≤ n) && decide (n ≤ 1048576)
def mayWr (a : Act) : Bool := decide (0 ≤ a.at_) && decide (a.at_ < 4096) && mayEp a.epoch && decide (a.bytes.length ≤ 2048)
theorem pMayEpoch (n : Int) (h : AHeap) : Pure Try.prog 41 [.int .i64 n] h (.bool (mayEp n)) := by
  refine SCalls.enterI (c := _) Try.func41 rfl (by kernel_rfl) (by simp) ?_
  by_cases h1 : 0 ≤ n
  · simp only [wpA_region, wpA_seq, wpA_ret, seqQ_normal, endI_mk, goI_out, goI_ops, opsA_nil, opsA_cons, opsA_guardS, gvI_same, slotAt_zero, slotAt_succ, stepA_move, stepA_assign, stepA_pick, stepA_binOp, thenV_some, pickV_true, eval_tmp, eval_const, put_some, enterF_zero, enterF_succ, aBin_leq, aBin_geq, absV_int, absV_bool, decide_true, Nat.reduceEqDiff, reduceCtorEq, if_true, if_false, h1, retA_ret, Try.results41, resultsA_1]
    exact hid_mk ⟨by simp [mayEp, h1], rfl⟩
  · simp only [wpA_region, wpA_seq, wpA_ret, seqQ_normal, endI_mk, goI_out, goI_ops, opsA_nil, opsA_cons, opsA_guardS, gvI_ft, slotAt_zero, slotAt_succ, stepA_move, stepA_assign, stepA_pick, stepA_binOp, thenV_some, pickV_false, eval_tmp, eval_const, put_some, enterF_zero, enterF_succ, aBin_geq, absV_int, absV_bool, decide_false, Nat.reduceEqDiff, reduceCtorEq, if_true, if_false, h1, retA_ret, Try.results41, resultsA_1]
    exact hid_mk ⟨by simp [mayEp, h1], rfl⟩
/-- A number of a payload; 1048577 where there is none, or a greater one. -/
def numN (bs : List Nat) : Nat := if (dec bs 0 0).2.2 ≠ 0 ∨ 1048576 < (dec bs 0 0).1 then 1048577 else (dec bs 0 0).1
theorem number_ (p : V) (i : Nat) (bs : List Nat) (h : AHeap) (hr : IsRd h p i bs) (hb : ∀ b ∈ bs, b < 256) (hc : bs.length ≤ 2 ^ 47) :
    SCalls Try.prog 60 [p] h (fun r h' => r = .int .i64 (numN bs : Nat) ∧ IsRd h' p i (bs.drop (dec bs 0 0).2.1) ∧ Keep h h' (· = i)) := by
  refine SCalls.enterI (c := _) Try.func60 rfl (by kernel_rfl) (by simp) ?_
  simp only [wpA_region, wpA_seq, seqQ_normal, goI_out, goI_ops, opsA_nil, opsA_cons, stepA_move, stepA_assign, stepA_call, eval_tmp, eval_const, put_some, enterF_zero, enterF_succ, absV_int, Nat.reduceEqDiff, reduceCtorEq, List.map_cons, List.map_nil, if_true, if_false]
  refine callI_of cal78 (RUint p i bs h hr hb hc) fun r1 h1 ⟨e1, rd1, k1⟩ => ?_
  subst e1
  unfold numN
  generalize dec bs 0 0 = D at *
  obtain ⟨n, used, err⟩ := D
  simp only at rd1 ⊢
  by_cases herr : err = 0
  case neg =>
    have d1 : ((err : Int) != 0) = true := by simp; omega
    simp only [wpA_region, wpA_seq, wpA_cond, wpA_ret, condI_true, seqQ_normal, seqQ_ret, endI_mk, goI_out, goI_ops, opsA_nil, opsA_cons, opsA_guardS, gvI_tf, slotAt_zero, slotAt_succ, stepA_move, stepA_assign, stepA_pick, stepA_binOp, stepA_extract, thenV_some, pickV_true, extV_zero, extV_succ, eval_tmp, eval_const, put_some, enterF_succ, aBin_neq, absV_int, absV_bool, Nat.reduceEqDiff, if_true, if_false, d1, retA_ret, Try.results60, resultsA_1]
    rw [if_pos (.inl herr)]
    exact hid_mk ⟨rfl, rd1, k1⟩
  subst herr
  have d1 : (((0 : Nat) : Int) != 0) = false := rfl
  by_cases hbig : 1048576 < n
  · have d2 : decide ((1048576 : Int) < (n : Int)) = true := by rw [decide_eq_true_iff]; omega
    simp only [wpA_region, wpA_seq, wpA_cond, wpA_ret, condI_true, seqQ_normal, seqQ_ret, endI_mk, goI_out, goI_ops, opsA_nil, opsA_cons, opsA_guardS, gvI_same, slotAt_zero, slotAt_succ, stepA_move, stepA_assign, stepA_pick, stepA_binOp, stepA_extract, thenV_some, pickV_false, extV_zero, extV_succ, eval_tmp, eval_const, put_some, enterF_succ, aBin_neq, aBin_gtr, absV_int, absV_bool, Nat.reduceEqDiff, if_true, if_false, d1, d2, retA_ret, Try.results60, resultsA_1]
    rw [if_pos (.inr hbig)]
    exact hid_mk ⟨rfl, rd1, k1⟩
  · have d2 : decide ((1048576 : Int) < (n : Int)) = false := by rw [decide_eq_false_iff_not]; omega
    have hw : IntKind.i64.wrap (n : Int) = (n : Int) := wrap_nat (by omega)
    simp only [wpA_skip, wpA_region, wpA_seq, wpA_cond, wpA_ret, condI_false, seqQ_normal, endI_mk, goI_out, goI_ops, opsA_nil, opsA_cons, opsA_guardS, gvI_same, slotAt_zero, slotAt_succ, stepA_move, stepA_assign, stepA_pick, stepA_binOp, stepA_convert, stepA_extract, thenV_some, thenC_some, pickV_false, extV_zero, extV_succ, eval_tmp, eval_const, put_some, enterF_succ, aBin_neq, aBin_gtr, absV_int, absV_bool, Nat.reduceEqDiff, if_true, if_false, d1, d2, aConv_int it_131 it_3, hw, retA_ret, Try.results60, resultsA_1]
    rw [if_neg (by simp; omega)]
    exact hid_mk ⟨rfl, rd1, k1⟩
end Go.Proofs.Ytlbekgogjlchjaa.Pk
namespace Go.Proofs.Ytlbekgogjlchjaa.Pk
open Go Go.Proofs Go.Proofs.Ytlbekgogjlchjaa.Ab
set_option linter.unusedVariables false
set_option linter.unusedSimpArgs false
set_option maxRecDepth 10000 in
theorem pMayWrite (a : Act) (h : AHeap) (hl : a.bytes.length ≤ 2 ^ 50) : Pure Try.prog 44 [.agg (actE a)] h (.bool (mayWr a)) := by
  obtain ⟨kind, epoch, at_, bytes⟩ := a
  simp only at hl
  refine Pure.val (Clo.bool _) ?_
  refine SCalls.enterI (c := _) Try.func44 rfl (by kernel_rfl) (by simp) ?_
  have h1 : dropC (.cells [.int .i64 kind, .int .i64 epoch, .int .i64 at_, .imm bytes.length (bytesV bytes)] 80 none) 1 = some [.int .i64 epoch, .int .i64 at_, .imm bytes.length (bytesV bytes)] := rfl
  have h2 : dropC (.cells [.int .i64 kind, .int .i64 epoch, .int .i64 at_, .imm bytes.length (bytesV bytes)] 80 none) 2 = some [.int .i64 at_, .imm bytes.length (bytesV bytes)] := rfl
  have h3 : dropC (.cells [.int .i64 kind, .int .i64 epoch, .int .i64 at_, .imm bytes.length (bytesV bytes)] 80 none) 3 = some [.imm bytes.length (bytesV bytes)] := rfl
  have hlen : aLen Try.prog 30 (.imm bytes.length (bytesV bytes)) (h.push (.cells [.int .i64 kind, .int .i64 epoch, .int .i64 at_, .imm bytes.length (bytesV bytes)] 80 none)) = some (.int .i64 bytes.length) := aLen_imm kt_30
  by_cases q1 : 0 ≤ at_
  case neg =>
    simp only [wpA_region, wpA_seq, wpA_ret, seqQ_normal, endI_mk, goI_out, goI_ops, opsA_nil, opsA_cons, opsA_guardS, gvI_ft, slotAt_zero, slotAt_succ, stepA_move, stepA_assign, stepA_pick, stepA_box, stepA_load, stepA_binOp, stepA_fieldAddr, thenV_some, thenH_some, pickV_false, eval_tmp, eval_const, put_some, enterF_zero, enterF_succ, aBin_geq, absV_int, absV_bool, cells_agg, aField_eq, fieldGo_ptr, aLoad_eq, loadGo_one, aPlace_ptr, aBox_eq, get_push_new, decide_false, Nat.reduceEqDiff, Option.map_some, Nat.zero_add, if_true, if_false, ft_80_2, lt_3, actE, h2, q1, retA_ret, Try.results44, resultsA_1]
    exact hid_mk ⟨by simp [mayWr, q1], Keep.push _ _ _⟩
  by_cases q2 : at_ < 4096
  case neg =>
    simp only [wpA_region, wpA_seq, wpA_ret, seqQ_normal, endI_mk, goI_out, goI_ops, opsA_nil, opsA_cons, opsA_guardS, gvI_same, gvI_ft, slotAt_zero, slotAt_succ, stepA_move, stepA_assign, stepA_pick, stepA_box, stepA_load, stepA_binOp, stepA_fieldAddr, thenV_some, thenH_some, pickV_true, pickV_false, eval_tmp, eval_const, put_some, enterF_zero, enterF_succ, aBin_lss, aBin_geq, absV_int, absV_bool, cells_agg, aField_eq, fieldGo_ptr, aLoad_eq, loadGo_one, aPlace_ptr, aBox_eq, get_push_new, decide_true, decide_false, Nat.reduceEqDiff, Option.map_some, Nat.zero_add, if_true, if_false, ft_80_2, lt_3, actE, h2, q1, q2, retA_ret, Try.results44, resultsA_1]
    exact hid_mk ⟨by simp [mayWr, q1, q2], Keep.push _ _ _⟩
  simp only [wpA_region, wpA_seq, seqQ_normal, goI_out, goI_ops, opsA_nil, opsA_cons, opsA_guardS, gvI_same, slotAt_zero, slotAt_succ, stepA_move, stepA_assign, stepA_pick, stepA_box, stepA_load, stepA_binOp, stepA_fieldAddr, stepA_call, thenV_some, thenH_some, pickV_true, eval_tmp, eval_const, put_some, enterF_zero, enterF_succ, aBin_lss, aBin_geq, absV_int, absV_bool, cells_agg, aField_eq, fieldGo_ptr, aLoad_eq, loadGo_one, aPlace_ptr, aBox_eq, get_push_new, decide_true, Nat.reduceEqDiff, List.map_cons, List.map_nil, Option.map_some, Nat.zero_add, if_true, if_false, ft_80_1, ft_80_2, lt_3, actE, h1, h2, q1, q2]
  refine callI_pure cal41 (pMayEpoch epoch _) ?_
  cases q3 : mayEp epoch
  · simp only [wpA_ret, seqQ_normal, endI_mk, goI_out, goI_ops, opsA_nil, opsA_cons, opsA_guardS, gvI_ft, slotAt_zero, slotAt_succ, stepA_move, stepA_assign, stepA_pick, thenV_some, pickV_true, pickV_false, eval_tmp, eval_const, put_some, enterF_succ, absV_bool, Nat.reduceEqDiff, if_true, if_false, retA_ret, Try.results44, resultsA_1]
    exact hid_mk ⟨by simp [mayWr, q1, q2, q3], Keep.push _ _ _⟩
  · have e : decide (((bytes.length : Nat) : Int) ≤ 2048) = decide (bytes.length ≤ 2048) := by rw [Bool.eq_iff_iff]; simp; omega
    simp only [wpA_ret, seqQ_normal, endI_mk, goI_out, goI_ops, opsA_nil, opsA_cons, opsA_guardS, gvI_same, slotAt_zero, slotAt_succ, stepA_move, stepA_assign, stepA_pick, stepA_load, stepA_binOp, stepA_fieldAddr, stepA_len, thenV_some, pickV_true, eval_tmp, eval_const, put_some, enterF_succ, aBin_leq, absV_int, absV_bool, aField_eq, fieldGo_ptr, aLoad_eq, loadGo_one, aPlace_ptr, aLen_imm, get_push_new, Nat.reduceEqDiff, Nat.zero_add, if_true, if_false, ft_80_3, kt_30, lt_30, h3, e, retA_ret, Try.results44, resultsA_1]
    exact hid_mk ⟨by simp [mayWr, q1, q2, q3], Keep.push _ _ _⟩
/-- A cell. -/
structure Cel where
  at_ : Int
  epoch : Int
  bytes : List Nat
def celE (c : Cel) : List V := [.int .i64 c.at_, .int .i64 c.epoch, .imm c.bytes.length (bytesV c.bytes)]
theorem celE_clo (c : Cel) : CloL (celE c) := CloL.cons (Clo.int _ _) (CloL.cons (Clo.int _ _) (CloL.cons (Clo.imm (bytesV_clo _)) CloL.nil))
set_option maxRecDepth 10000 in
theorem pOwn (c : Cel) (h : AHeap) (hl : c.bytes.length ≤ 2 ^ 40) : Pure Try.prog 46 [.agg (celE c)] h (.agg (celE c)) := by
  obtain ⟨at_, epoch, bytes⟩ := c
  simp only at hl
  refine Pure.val (Clo.agg (celE_clo _)) ?_
  refine SCalls.enterI (c := _) Try.func46 rfl (by kernel_rfl) (by simp) ?_
  have h0 : dropC (.cells [.int .i64 at_, .int .i64 epoch, .imm bytes.length (bytesV bytes)] 39 none) 0 = some [.int .i64 at_, .int .i64 epoch, .imm bytes.length (bytesV bytes)] := rfl
  have h2 : dropC (.cells [.int .i64 at_, .int .i64 epoch, .imm bytes.length (bytesV bytes)] 39 none) 2 = some [.imm bytes.length (bytesV bytes)] := rfl
  simp only [wpA_region, wpA_seq, seqQ_normal, goI_out, goI_ops, opsA_nil, opsA_cons, stepA_alloc, stepA_box, stepA_load, stepA_fieldAddr, stepA_call, thenV_some, thenH_some, eval_tmp, put_some, enterF_zero, enterF_succ, cells_agg, aField_eq, fieldGo_ptr, aLoad_eq, loadGo_one, aPlace_ptr, aAlloc_eq, aBox_eq, push_n, get_push2', Nat.reduceEqDiff, List.map_cons, List.map_nil, Option.map_some, Nat.zero_add, if_true, if_false, ft_39_2, lt_30, zc_39, celE, h2]
  refine callI_pure cal50 (pCloneB bytes (by omega) _) ?_
  simp only [wpA_region, wpA_seq, wpA_ret, seqQ_normal, endI_mk, goI_out, goI_ops, opsA_nil, opsA_cons, stepA_load, stepA_store, stepA_fieldAddr, thenV_some, thenS_some, eval_tmp, put_some, put_none, enterF_succ, cells_imm, cells_agg, one_int, one_imm, all_nil, all_cons, aField_eq, fieldGo_ptr, aLoad_eq, loadGo_row, aPlace_ptr, aStore_eq, storeGo_ptr, setC_row, setAll_nil, setAll_cons, get_push2, get_push2', set_push2, set_push2', Nat.reduceEqDiff, Nat.reduceAdd, Option.map_some, Nat.zero_add, List.length_cons, List.length_nil, List.take_succ_cons, List.take_nil, List.set_cons_zero, List.set_cons_succ, if_true, if_false, Bool.and_self, Nat.le_refl, ft_39_2, lt_39, zt_30, zt_39, h0, retA_ret, Try.results46, resultsC_1, resultA_cell]
  exact hid_mk ⟨rfl, (Keep.push _ _ _).trans (Keep.push _ _ _) (fun _ _ h => h)⟩
/-- An act as it is put on the disk. -/
def payN (a : Act) : List Nat := if a.kind = 2 then enc a.kind.toNat ++ enc a.epoch.toNat else enc a.kind.toNat ++ enc a.epoch.toNat ++ enc a.at_.toNat ++ encBytes a.bytes
set_option maxRecDepth 10000 in
theorem pPayload (a : Act) (h : AHeap) (hl : a.bytes.length ≤ 2 ^ 40) (hk : 0 ≤ a.kind ∧ a.kind < 2 ^ 62) (he : 0 ≤ a.epoch ∧ a.epoch < 2 ^ 62) (ha : 0 ≤ a.at_ ∧ a.at_ < 2 ^ 62) :
    Pure Try.prog 64 [.agg (actE a)] h (.imm (payN a).length (bytesV (payN a))) := by
  obtain ⟨kind, epoch, at_, bytes⟩ := a
  simp only at hl hk he ha
  obtain ⟨hk0, hk1⟩ := hk
  obtain ⟨he0, he1⟩ := he
  obtain ⟨ha0, ha1⟩ := ha
  obtain ⟨kind, rfl⟩ : ∃ m : Nat, kind = m := ⟨kind.toNat, by omega⟩
  obtain ⟨epoch, rfl⟩ : ∃ m : Nat, epoch = m := ⟨epoch.toNat, by omega⟩
  obtain ⟨at_, rfl⟩ : ∃ m : Nat, at_ = m := ⟨at_.toNat, by omega⟩
  refine Pure.val (Clo.imm (bytesV_clo _)) ?_
  have hK := enc_le kind (by omega)
  have hE := enc_le epoch (by omega)
  have hA := enc_le at_ (by omega)
  have wk := wrap_natU (n := kind) (by omega)
  have we := wrap_natU (n := epoch) (by omega)
  have wa := wrap_natU (n := at_) (by omega)
  refine SCalls.enterI (c := _) Try.func64 rfl (by kernel_rfl) (by simp) ?_
  have h0 : dropC (.cells [.int .i64 (kind : Int), .int .i64 (epoch : Int), .int .i64 (at_ : Int), .imm bytes.length (bytesV bytes)] 80 none) 0 = some [.int .i64 (kind : Int), .int .i64 (epoch : Int), .int .i64 (at_ : Int), .imm bytes.length (bytesV bytes)] := rfl
  have h1 : dropC (.cells [.int .i64 (kind : Int), .int .i64 (epoch : Int), .int .i64 (at_ : Int), .imm bytes.length (bytesV bytes)] 80 none) 1 = some [.int .i64 (epoch : Int), .int .i64 (at_ : Int), .imm bytes.length (bytesV bytes)] := rfl
  have h2 : dropC (.cells [.int .i64 (kind : Int), .int .i64 (epoch : Int), .int .i64 (at_ : Int), .imm bytes.length (bytesV bytes)] 80 none) 2 = some [.int .i64 (at_ : Int), .imm bytes.length (bytesV bytes)] := rfl
  have h3 : dropC (.cells [.int .i64 (kind : Int), .int .i64 (epoch : Int), .int .i64 (at_ : Int), .imm bytes.length (bytesV bytes)] 80 none) 3 = some [.imm bytes.length (bytesV bytes)] := rfl
  simp only [wpA_region, wpA_seq, wpA_draw, seqQ_normal, goI_out, goI_ops, opsA_nil, opsA_cons, stepA_assign, stepA_box, thenH_some, eval_tmp, eval_const, enterF_zero, absV_snil, cells_agg, aBox_eq, Option.map_some, actE]
  refine SWp.drawnS none_ [] (.q 0 (.q 1 (.q 2 (.c 3 (.q 4 (.q 5 (.q 6 (.c 7 (.q 8 .done))))))))) (by kernel_rfl) (by kernel_rfl) (by kernel_rfl) ?_
  simp only [siI_q, sqI_some, mOk_none', implies_true, qI_nil, qI_cons, thenQ_some, q_load, q_convert, q_fieldAddr, goI_mk, eval_tmp, put_some, enterF_succ, aField_eq, fieldGo_ptr, aLoad_eq, loadGo_one, aPlace_ptr, get_push_new, List.getElem?_cons_zero, List.getElem?_cons_succ, Nat.reduceEqDiff, Nat.add_zero, true_and, if_true, if_false, ft_80_0, lt_3, h0, aConv_int it_3 it_131, wk]
  refine siI_c rfl rfl rfl (fun h' _ => pUint .snil [] kind h' (Rd.snil _) (by simp) (by omega)) ?_
  simp only [siI_q, sqI_some, mOk_none', implies_true, qI_nil, qI_cons, thenQ_some, q_load, q_convert, q_fieldAddr, goI_mk, eval_tmp, put_some, enterF_succ, aField_eq, fieldGo_ptr, aLoad_eq, loadGo_one, aPlace_ptr, get_push_new, List.getElem?_cons_zero, List.getElem?_cons_succ, Nat.reduceEqDiff, Nat.zero_add, List.nil_append, true_and, if_true, if_false, ft_80_1, lt_3, h1, aConv_int it_3 it_131, we]
  refine siI_c rfl rfl rfl (fun h' _ => pUint _ ([] ++ enc kind) epoch h' (Rd.imm _ _) (by simp; omega) (by omega)) ?_
  simp only [siI_done, siI_q, sqI_some, mOk_none', implies_true, qI_nil, qI_cons, q_assign, wpA_region, wpA_seq, wpA_cond, seqQ_normal, goI_out, goI_ops, goI_mk, opsA_nil, opsA_cons, stepA_load, stepA_binOp, stepA_fieldAddr, thenV_some, eval_tmp, eval_const, put_some, enterF_succ, aBin_eql, absV_int, aField_eq, fieldGo_ptr, aLoad_eq, loadGo_one, aPlace_ptr, get_push_new, List.getElem?_cons_zero, List.getElem?_cons_succ, Nat.reduceEqDiff, Nat.add_zero, List.nil_append, true_and, if_true, if_false, ft_80_0, lt_3, h0, List.nil_append]
  by_cases hs : kind = 2
  · have d1 : ((kind : Int) == 2) = true := by rw [hs]; rfl
    have hP : payN ⟨(kind : Int), epoch, at_, bytes⟩ = enc kind ++ enc epoch := by
      unfold payN
      rw [if_pos (by simp only; omega)]
      simp only [Int.toNat_natCast]
    simp only [wpA_region, wpA_seq, wpA_ret, condI_true, seqQ_normal, seqQ_ret, endI_mk, goI_out, goI_ops, opsA_nil, opsA_cons, stepA_move, stepA_assign, eval_tmp, put_some, enterF_succ, Nat.reduceEqDiff, if_true, if_false, d1, retA_ret, Try.results64, resultsA_1]
    exact hid_mk ⟨by rw [hP], Keep.push _ _ _⟩
  have d1 : ((kind : Int) == 2) = false := by rw [beq_eq_false_iff_ne]; omega
  have hP : payN ⟨(kind : Int), epoch, at_, bytes⟩ = enc kind ++ enc epoch ++ enc at_ ++ encBytes bytes := by
    unfold payN
    rw [if_neg (by simp only; omega)]
    simp only [Int.toNat_natCast]
  simp only [wpA_skip, wpA_seq, wpA_draw, condI_false, seqQ_normal, d1]
  refine SWp.drawnS none_ [] (.q 0 (.q 1 (.q 2 (.q 3 (.c 4 (.q 5 (.q 6 (.c 7 (.q 8 .done))))))))) (by kernel_rfl) (by kernel_rfl) (by kernel_rfl) ?_
  simp only [siI_q, sqI_some, mOk_none', implies_true, qI_nil, qI_cons, thenQ_some, q_move, q_load, q_convert, q_fieldAddr, goI_mk, eval_tmp, put_some, enterF_succ, aField_eq, fieldGo_ptr, aLoad_eq, loadGo_one, aPlace_ptr, get_push_new, List.getElem?_cons_zero, List.getElem?_cons_succ, Nat.reduceEqDiff, Nat.zero_add, true_and, if_true, if_false, ft_80_2, lt_3, h2, aConv_int it_3 it_131, wa]
  refine siI_c rfl rfl rfl (fun h' _ => pUint _ (enc kind ++ enc epoch) at_ h' (Rd.imm _ _) (by simp; omega) (by omega)) ?_
  simp only [siI_q, sqI_some, mOk_none', implies_true, qI_nil, qI_cons, thenQ_some, q_load, q_fieldAddr, goI_mk, eval_tmp, put_some, enterF_succ, aField_eq, fieldGo_ptr, aLoad_eq, loadGo_one, aPlace_ptr, get_push_new, List.getElem?_cons_zero, List.getElem?_cons_succ, Nat.reduceEqDiff, Nat.zero_add, true_and, if_true, if_false, ft_80_3, lt_30, h3]
  refine siI_c rfl rfl rfl (fun h' _ => pBytes _ _ (enc kind ++ enc epoch ++ enc at_) bytes h' (Rd.imm _ _) (Rd.imm _ _) (by simp; omega)) ?_
  simp only [siI_done, siI_q, sqI_some, mOk_none', implies_true, qI_nil, qI_cons, q_assign, wpA_ret, seqQ_normal, endI_mk, goI_out, goI_mk, eval_tmp, put_some, enterF_succ, List.getElem?_cons_zero, List.getElem?_cons_succ, Nat.reduceEqDiff, true_and, if_true, if_false, retA_ret, Try.results64, resultsA_1]
  exact hid_mk ⟨by rw [hP], Keep.push _ _ _⟩
end Go.Proofs.Ytlbekgogjlchjaa.Pk
namespace Go.Proofs.Ytlbekgogjlchjaa.Pk
open Go Go.Proofs Go.Proofs.Ytlbekgogjlchjaa.Ab
set_option linter.unusedVariables false
set_option linter.unusedSimpArgs false
theorem Cast.agg {l l2 : List V} {h h2 : AHeap} (a : CastL l h l2 h2) : Cast (.agg l) h (.agg l2) h2 := fun ρ B w0 w r' hw hv => by
  cases hv with
  | agg hs hx =>
    obtain ⟨ρ1, l1, w1, v1⟩ := a ρ B w0 w _ hw (ARel.list ⟨hs, hx⟩)
    exact ⟨ρ1, l1, w1, v1.arr'.agg⟩
/-- What is left behind a number. -/
def numR (bs : List Nat) : List Nat := bs.drop (dec bs 0 0).2.1
theorem numR_len (bs : List Nat) : (numR bs).length ≤ bs.length := by unfold numR; rw [List.length_drop]; omega
theorem numR_lt {bs : List Nat} (hb : ∀ b ∈ bs, b < 256) : ∀ b ∈ numR bs, b < 256 := fun b hx => hb b (List.mem_of_mem_drop hx)
/-- The act of a payload, and whether it is one. -/
def readC (bs : List Nat) : Act × Bool :=
  if numN bs = 2 then (⟨2, numN (numR bs), 0, []⟩, mayEp (numN (numR bs)) && decide (numR (numR bs) = []))
  else if numN bs = 1 then
    (⟨1, numN (numR bs), numN (numR (numR bs)), (getBytes (numR (numR (numR bs)))).1⟩,
      decide ((getBytes (numR (numR (numR bs)))).2.2 = 0) && mayWr ⟨1, numN (numR bs), numN (numR (numR bs)), (getBytes (numR (numR (numR bs)))).1⟩ && decide ((getBytes (numR (numR (numR bs)))).2.1 = []))
  else (⟨0, 0, 0, []⟩, false)
set_option maxRecDepth 10000 in
theorem pReadA (bs : List Nat) (h : AHeap) (hb : ∀ b ∈ bs, b < 256) (hl : bs.length ≤ 2 ^ 40) : Pure Try.prog 38 [.imm bs.length (bytesV bs)] h (.tuple [.agg (actE (readC bs).1), .bool (readC bs).2]) := by
  refine Pure.of (Clo.tuple (CloL.cons (Clo.agg (actE_clo _)) (CloL.cons (Clo.bool _) CloL.nil))) ?_
  refine SCalls.enterI (c := _) Try.func38 rfl (by kernel_rfl) (by simp) ?_
  have z1 : ∀ (h : AHeap) (k e : Int) (b : Bool), Cast (.tuple [.agg [.int .i64 k, .int .i64 e, .int .i64 0, .snil], .bool b]) h (.tuple [.agg (actE ⟨k, e, 0, []⟩), .bool b]) h := fun h k e b =>
    Cast.tuple (CastL.cons (Cast.agg (CastL.cons (Cast.refl _ _) (CastL.cons (Cast.refl _ _) (CastL.cons (Cast.refl _ _) (CastL.cons (Cast.snil0 h) (CastL.refl _ _)))))) (CastL.refl _ _))
  have k0 : Keep h (h.push (.cells [.int .i64 0, .int .i64 0, .int .i64 0, .snil] 80 none)) none_ := Keep.push _ _ _
  have g0 : (h.push (.cells [.int .i64 0, .int .i64 0, .int .i64 0, .snil] 80 none)).get h.n = .cells [.int .i64 0, .int .i64 0, .int .i64 0, .snil] 80 none := get_push_new
  have n0 : (h.push (.cells [.int .i64 0, .int .i64 0, .int .i64 0, .snil] 80 none)).n = h.n + 1 := rfl
  simp only [wpA_region, wpA_seq, seqQ_normal, goI_out, goI_ops, opsA_nil, opsA_cons, stepA_move, stepA_assign, stepA_alloc, stepA_call, thenH_some, eval_tmp, eval_const, put_some, enterF_zero, enterF_succ, absV_bool, aAlloc_eq, Nat.reduceEqDiff, reduceCtorEq, List.map_cons, List.map_nil, Option.map_some, if_true, if_false, zc_80]
  generalize h.push (.cells [.int .i64 0, .int .i64 0, .int .i64 0, .snil] 80 none) = H0 at k0 g0 n0 ⊢
  refine callI_of cal59 (From _ bs H0 (Rd.imm _ _) (by omega)) fun r1 H1 ⟨e1, rd1, k1⟩ => ?_
  subst e1
  simp only [wpA_region, wpA_seq, seqQ_normal, goI_out, goI_ops, opsA_nil, opsA_cons, stepA_move, stepA_assign, stepA_call, eval_tmp, put_some, enterF_succ, Nat.reduceEqDiff, List.map_cons, List.map_nil, if_true, if_false]
  refine callI_of cal60 (number_ _ _ bs H1 rd1 hb (by omega)) fun r2 H2 ⟨e2, rd2, k2⟩ => ?_
  subst e2
  have hb2 := numR_lt hb
  have hl2 := numR_len bs
  change IsRd H2 _ H0.n (numR bs) at rd2
  have q2 := k2.n
  have q1 := k1.n
  have q0 := rd1.2.1
  simp only [wpA_region, wpA_seq, seqQ_normal, goI_out, goI_ops, opsA_nil, opsA_cons, stepA_move, stepA_alloc, stepA_build, stepA_store, stepA_call, thenV_some, thenH_some, thenS_some, eval_tmp, put_some, put_none, enterF_succ, cells_int, cells_agg, one_int, one_snil, all_nil, all_cons, aStore_eq, storeGo_ptr, setC_row, setAll_nil, setAll_cons, aAlloc_eq, aBuild_go, aFill_nil, aFill_cons, fillGo_some, buildGo_struct, get_push_new, set_push, List.getElem?_cons_zero, Nat.reduceEqDiff, Nat.reduceAdd, Nat.reduceLeDiff, List.map_cons, List.map_nil, Option.map_some, Nat.zero_add, List.length_cons, List.length_nil, List.set_cons_zero, List.set_cons_succ, and_self, if_true, if_false, Bool.and_self, Nat.le_refl, pl_80, zc_80, zt_80]
  have k3 : Keep H2 (H2.push (.cells [.int .i64 (numN bs : Nat), .int .i64 0, .int .i64 0, .snil] 80 none)) none_ := Keep.push _ _ _
  have g3 : (H2.push (.cells [.int .i64 (numN bs : Nat), .int .i64 0, .int .i64 0, .snil] 80 none)).get H2.n = .cells [.int .i64 (numN bs : Nat), .int .i64 0, .int .i64 0, .snil] 80 none := get_push_new
  have q3 : (H2.push (.cells [.int .i64 (numN bs : Nat), .int .i64 0, .int .i64 0, .snil] 80 none)).n = H2.n + 1 := rfl
  generalize H2.push (.cells [.int .i64 (numN bs : Nat), .int .i64 0, .int .i64 0, .snil] 80 none) = H3 at k3 g3 q3 ⊢
  have rd3 : IsRd H3 _ H0.n (numR bs) := rd2.keep k3 (fun h => h)
  refine callI_of cal60 (number_ _ _ (numR bs) H3 rd3 hb2 (by omega)) fun r4 H4 ⟨e4, rd4, k4⟩ => ?_
  subst e4
  change IsRd H4 _ H0.n (numR (numR bs)) at rd4
  have hb4 := numR_lt hb2
  have hl4 := numR_len (numR bs)
  have g4 := (k4.get H2.n (by omega) (by omega)).trans g3
  have q4 := k4.n
  simp only [wpA_region, wpA_seq, wpA_cond, wpA_block, seqQ_normal, goI_out, goI_ops, opsA_nil, opsA_cons, stepA_assign, stepA_load, stepA_store, stepA_binOp, stepA_fieldAddr, thenV_some, thenS_some, eval_tmp, eval_const, put_some, put_none, enterF_succ, aBin_eql, absV_int, cells_int, one_int, all_nil, all_cons, aField_eq, fieldGo_ptr, aLoad_eq, loadGo_one, aPlace_ptr, dropC_cells, aStore_eq, storeGo_ptr, setC_row, setAll_nil, setAll_cons, get_set_same, Nat.reduceEqDiff, Nat.reduceAdd, Nat.reduceLeDiff, Option.map_some, Nat.add_zero, Nat.zero_add, Nat.zero_le, List.length_cons, List.length_nil, List.drop_zero, List.set_cons_zero, List.set_cons_succ, if_true, if_false, Bool.and_self, ft_80_0, ft_80_1, lt_3, zt_3, g4]
  have k5 : Keep H4 (H4.set H2.n (.cells [.int .i64 (numN bs : Nat), .int .i64 (numN (numR bs) : Nat), .int .i64 0, .snil] 80 none)) (fun q => q = H2.n) := Keep.set _ _ _
  have g5 : (H4.set H2.n (.cells [.int .i64 (numN bs : Nat), .int .i64 (numN (numR bs) : Nat), .int .i64 0, .snil] 80 none)).get H2.n = .cells [.int .i64 (numN bs : Nat), .int .i64 (numN (numR bs) : Nat), .int .i64 0, .snil] 80 none := get_set_same
  have kA : Keep h H4 none_ := ((k0.trans k1 fun _ _ h => h).trans k2 (fun x hx hh => by omega)).trans ((k3.mono fun _ h => False.elim h).trans k4 fun _ _ h => h) (fun x hx hh => by omega)
  have gz := (k4.get h.n (by omega) (by omega)).trans ((k3.get h.n (by omega) (fun h => h)).trans ((k2.get h.n (by omega) (by omega)).trans ((k1.get h.n (by omega) (fun h => h)).trans g0)))
  have gz5 : (H4.set H2.n (.cells [.int .i64 (numN bs : Nat), .int .i64 (numN (numR bs) : Nat), .int .i64 0, .snil] 80 none)).get h.n = _ := (k5.get h.n (by omega) (by omega)).trans gz
  have q5 : (H4.set H2.n (.cells [.int .i64 (numN bs : Nat), .int .i64 (numN (numR bs) : Nat), .int .i64 0, .snil] 80 none)).n = H4.n := rfl
  have rd5 : IsRd (H4.set H2.n (.cells [.int .i64 (numN bs : Nat), .int .i64 (numN (numR bs) : Nat), .int .i64 0, .snil] 80 none)) _ H0.n (numR (numR bs)) := rd4.keep k5 (by omega)
  have kB : Keep h (H4.set H2.n (.cells [.int .i64 (numN bs : Nat), .int .i64 (numN (numR bs) : Nat), .int .i64 0, .snil] 80 none)) none_ := kA.trans k5 (fun x hx hh => by omega)
  unfold readC
  generalize hk : numN bs = K at *
  generalize he : numN (numR bs) = E at *
  generalize H4.set H2.n (.cells [.int .i64 (K : Nat), .int .i64 (E : Nat), .int .i64 0, .snil] 80 none) = H5 at *
  have d0 : dropC (.cells [.int .i64 (K : Nat), .int .i64 (E : Nat), .int .i64 0, .snil] 80 none) 0 = some [.int .i64 (K : Nat), .int .i64 (E : Nat), .int .i64 0, .snil] := rfl
  have d1 : dropC (.cells [.int .i64 (K : Nat), .int .i64 (E : Nat), .int .i64 0, .snil] 80 none) 1 = some [.int .i64 (E : Nat), .int .i64 0, .snil] := rfl
  by_cases h2 : K = 2
  · have c1 : ((K : Int) == 2) = true := by rw [h2]; rfl
    rw [if_pos h2]
    simp only [wpA_seq, wpA_draw, condI_true, c1]
    refine SWp.drawnS (fun q => q = h.n) [9] (.q 0 (.q 1 (.q 2 (.c 3 (.q 4 (.q 5 (.c 6 (.q 7 (.q 8 (.e 9 (.q 10 .done) .stop)))))))))) (by kernel_rfl) (by kernel_rfl) (by kernel_rfl) ?_
    have f1 : (H2.n = h.n) = False := eq_false (by omega)
    have f2 : (H0.n = h.n) = False := eq_false (by omega)
    simp only [mOk_fieldAddr, mOk_load, mOkV_ptr, nne2, nne3, nne4, nne3', not_false_eq_true, siI_q, sqI_some, implies_true, qI_nil, qI_cons, thenQ_some, q_load, q_fieldAddr, goI_mk, eval_tmp, put_some, put_none, enterF_succ, aField_eq, fieldGo_ptr, aLoad_eq, loadGo_one, loadGo_row, aPlace_ptr, List.getElem?_cons_zero, List.getElem?_cons_succ, Nat.reduceEqDiff, Nat.reduceAdd, Nat.zero_add, List.length_cons, List.length_nil, List.take_succ_cons, List.take_nil, true_and, if_true, if_false, Nat.le_refl, ft_80_1, lt_3, lt_80, g5, d0, d1, f1]
    refine siI_c rfl rfl rfl (fun h' _ => pMayEpoch (E : Int) h') ?_
    have hst : setC (some 4) (AObj.cells [.int .i64 0, .int .i64 0, .int .i64 0, .snil] 80 none) 0 [.int .i64 (K : Nat), .int .i64 (E : Nat), .int .i64 0, .snil] = some (.cells [.int .i64 (K : Nat), .int .i64 (E : Nat), .int .i64 0, .snil] 80 none) := by
      rw [setC_row (n := 4) rfl rfl, if_pos (by decide)]; rfl
    have hcl : (V.agg [.int .i64 (K : Nat), .int .i64 (E : Nat), .int .i64 0, .snil]).cells = some [.int .i64 (K : Nat), .int .i64 (E : Nat), .int .i64 0, .snil] := rfl
    have kst : Keep H5 (H5.set h.n (.cells [.int .i64 (K : Nat), .int .i64 (E : Nat), .int .i64 0, .snil] 80 none)) (fun q => q = h.n) := Keep.set _ _ _
    have dd : dropC (.cells [.int .i64 (K : Nat), .int .i64 (E : Nat), .int .i64 0, .snil] 80 none) 0 = some [.int .i64 (K : Nat), .int .i64 (E : Nat), .int .i64 0, .snil] := rfl
    have kF : Keep h (H5.set h.n (.cells [.int .i64 (K : Nat), .int .i64 (E : Nat), .int .i64 0, .snil] 80 none)) none_ := kB.trans (Keep.set _ _ _) (fun x hx hh => by omega)
    subst h2
    have hlz : ((((numR (numR bs)).length : Nat) : Int) == 0) = decide (numR (numR bs) = []) := by
      rw [Bool.eq_iff_iff, beq_iff_eq, decide_eq_true_iff, ← List.length_eq_zero_iff]
      omega
    cases hm : mayEp (E : Int)
    · simp only [mOk_move, nne2, nne3, nne4, siI_q, sqI_some, implies_true, qI_nil, qI_cons, qI_guard, qgI_ft, q_move, goI_mk, slotAt_zero, slotAt_succ, eval_tmp, put_some, put_none, enterF_succ, List.getElem?_cons_zero, List.getElem?_cons_succ, Nat.reduceEqDiff, true_and, if_true, if_false]
      refine siI_cskip rfl rfl ?_
      simp only [mOk_assign, mOk_pick, mOk_binOp, nne2, nne3, nne4, nne1', nne2', nne3', siI_done, siI_stop, siI_q, siI_e, sqI_some, seI_some, implies_true, qI_nil, qI_cons, qI_guard, qgI_ft, thenQ_some, q_assign, q_pick, wpA_ret, seqQ_normal, seqQ_ret, blkQ_ret, endI_mk, goI_out, goI_ops, goI_mk, opsA_nil, opsA_cons, slotAt_zero, slotAt_succ, stepA_store, thenS_some, pickV_false, eval_tmp, eval_const, put_some, put_none, enterF_succ, absV_bool, aLoad_eq, loadGo_row, aPlace_ptr, aStore_eq, storeGo_ptr, get_set_same, List.getElem?_cons_zero, List.getElem?_cons_succ, Bool.false_eq_true, Nat.reduceEqDiff, Nat.reduceAdd, Option.map_some, Nat.zero_add, List.length_cons, List.length_nil, List.take_succ_cons, List.take_nil, and_true, true_and, if_true, if_false, Nat.le_refl, lt_80, zt_80, d0, gz5, hst, hcl, kst, retA_ret, Try.results38, resultsC_2, resultA_tmp, resultA_cell, res2_some]
      exact hid_mk ⟨_, z1 _ _ _ _, kF⟩
    · simp only [mOk_move, nne2, nne3, nne4, nne1', siI_q, sqI_some, implies_true, qI_nil, qI_cons, qI_guard, qgI_same, q_move, goI_mk, slotAt_zero, slotAt_succ, eval_tmp, put_some, put_none, enterF_succ, List.getElem?_cons_zero, List.getElem?_cons_succ, Nat.reduceEqDiff, true_and, if_true, if_false]
      refine siI_c rfl rfl rfl (fun h' hk => Left h' _ _ (numR (numR bs)) (hk.elim (fun hk => rd5.keep hk (by omega)) (fun e => e ▸ rd5))) ?_
      simp only [mOk_assign, mOk_pick, mOk_binOp, nne2, nne3, nne4, nne1', nne2', nne3', siI_done, siI_stop, siI_q, siI_e, sqI_some, seI_some, implies_true, qI_nil, qI_cons, qI_guard, qgI_same, thenQ_some, q_assign, q_pick, q_binOp, wpA_ret, seqQ_normal, seqQ_ret, blkQ_ret, endI_mk, goI_out, goI_ops, goI_mk, opsA_nil, opsA_cons, slotAt_zero, slotAt_succ, stepA_store, thenS_some, pickV_true, eval_tmp, eval_const, put_some, put_none, enterF_succ, aBin_eql, absV_int, absV_bool, aLoad_eq, loadGo_row, aPlace_ptr, aStore_eq, storeGo_ptr, get_set_same, List.getElem?_cons_zero, List.getElem?_cons_succ, Bool.false_eq_true, Nat.reduceEqDiff, Nat.reduceAdd, Option.map_some, Nat.zero_add, List.length_cons, List.length_nil, List.take_succ_cons, List.take_nil, and_true, true_and, if_true, if_false, Nat.le_refl, lt_80, zt_80, d0, gz5, hst, hcl, kst, hlz, retA_ret, Try.results38, resultsC_2, resultA_tmp, resultA_cell, res2_some]
      exact hid_mk ⟨_, z1 _ _ _ _, kF⟩
  rw [if_neg h2]
  have c1 : ((K : Int) == 2) = false := by rw [beq_eq_false_iff_ne]; omega
  by_cases h1 : K = 1
  case neg =>
    have c2 : ((K : Int) == 1) = false := by rw [beq_eq_false_iff_ne]; omega
    rw [if_neg h1]
    have hst : setC (some 4) (AObj.cells [.int .i64 0, .int .i64 0, .int .i64 0, .snil] 80 none) 0 [.int .i64 0, .int .i64 0, .int .i64 0, .snil] = some (.cells [.int .i64 0, .int .i64 0, .int .i64 0, .snil] 80 none) := by
      rw [setC_row (n := 4) rfl rfl, if_pos (by decide)]; rfl
    have dd : dropC (.cells [.int .i64 0, .int .i64 0, .int .i64 0, .snil] 80 none) 0 = some [.int .i64 0, .int .i64 0, .int .i64 0, .snil] := rfl
    have kF : Keep h (H5.set h.n (.cells [.int .i64 0, .int .i64 0, .int .i64 0, .snil] 80 none)) none_ := kB.trans (Keep.set _ _ _) (fun x hx hh => by omega)
    simp only [wpA_skip, wpA_region, wpA_seq, wpA_cond, wpA_ret, condI_false, seqQ_normal, blkQ_normal, endI_mk, goI_out, goI_ops, opsA_nil, opsA_cons, stepA_assign, stepA_build, stepA_store, stepA_binOp, thenV_some, thenS_some, eval_tmp, eval_const, put_some, put_none, enterF_succ, aBin_eql, absV_int, absV_bool, cells_agg, aLoad_eq, loadGo_row, aPlace_ptr, aStore_eq, storeGo_ptr, aBuild_go, aFill_nil, buildGo_struct, get_set_same, Nat.reduceEqDiff, Nat.reduceAdd, List.map_nil, Option.map_some, Nat.zero_add, List.length_cons, List.length_nil, List.take_succ_cons, List.take_nil, if_true, if_false, Nat.le_refl, lt_80, pl_80, zc_80, zt_80, c1, c2, gz5, hst, dd, retA_ret, Try.results38, resultsC_2, resultA_tmp, resultA_cell, res2_some]
    exact hid_mk ⟨_, z1 _ _ _ _, kF⟩
  rw [if_pos h1]
  subst h1
  have c2 : (((1 : Nat) : Int) == 1) = true := rfl
  simp only [wpA_region, wpA_seq, wpA_cond, condI_true, condI_false, seqQ_normal, goI_out, goI_ops, opsA_nil, opsA_cons, stepA_move, stepA_assign, stepA_binOp, stepA_call, thenV_some, eval_tmp, eval_const, put_some, put_none, enterF_succ, aBin_eql, absV_int, Nat.reduceEqDiff, List.map_cons, List.map_nil, if_true, if_false, c1, c2]
  refine callI_of cal60 (number_ _ _ (numR (numR bs)) H5 rd5 hb4 (by omega)) fun r6 H6 ⟨e6, rd6, k6⟩ => ?_
  subst e6
  change IsRd H6 _ H0.n (numR (numR (numR bs))) at rd6
  have hb6 := numR_lt hb4
  have hl6 := numR_len (numR (numR bs))
  generalize numR (numR (numR bs)) = R at *
  generalize numN (numR (numR bs)) = A at *
  have q6 := k6.n
  have g6 := (k6.get H2.n (by omega) (by omega)).trans g5
  have gz6 := (k6.get h.n (by omega) (by omega)).trans gz5
  simp only [wpA_region, wpA_seq, seqQ_normal, goI_out, goI_ops, opsA_nil, opsA_cons, stepA_move, stepA_store, stepA_fieldAddr, stepA_call, thenV_some, thenS_some, eval_tmp, put_some, put_none, enterF_succ, cells_int, one_int, all_nil, all_cons, aField_eq, fieldGo_ptr, aStore_eq, storeGo_ptr, setC_row, setAll_nil, setAll_cons, Nat.reduceEqDiff, Nat.reduceAdd, Nat.reduceLeDiff, List.map_cons, List.map_nil, Option.map_some, Nat.zero_add, List.length_cons, List.length_nil, List.set_cons_zero, List.set_cons_succ, if_true, if_false, Bool.and_self, ft_80_2, zt_3, g6]
  have k7 : Keep H6 (H6.set H2.n (.cells [.int .i64 ((1 : Nat) : Int), .int .i64 (E : Nat), .int .i64 (A : Nat), .snil] 80 none)) (fun q => q = H2.n) := Keep.set _ _ _
  have g7 : (H6.set H2.n (.cells [.int .i64 ((1 : Nat) : Int), .int .i64 (E : Nat), .int .i64 (A : Nat), .snil] 80 none)).get H2.n = .cells [.int .i64 ((1 : Nat) : Int), .int .i64 (E : Nat), .int .i64 (A : Nat), .snil] 80 none := get_set_same
  have gz7 := (k7.get h.n (by omega) (by omega)).trans gz6
  have rd7 := rd6.keep k7 (by omega)
  have kC : Keep h (H6.set H2.n (.cells [.int .i64 ((1 : Nat) : Int), .int .i64 (E : Nat), .int .i64 (A : Nat), .snil] 80 none)) none_ := (kB.trans k6 (fun x hx hh => by omega)).trans k7 (fun x hx hh => by omega)
  have q7 : (H6.set H2.n (.cells [.int .i64 ((1 : Nat) : Int), .int .i64 (E : Nat), .int .i64 (A : Nat), .snil] 80 none)).n = H6.n := rfl
  generalize H6.set H2.n (.cells [.int .i64 ((1 : Nat) : Int), .int .i64 (E : Nat), .int .i64 (A : Nat), .snil] 80 none) = H7 at *
  refine callI_of cal62 (RBytes _ _ R H7 rd7 hb6 (by omega)) fun r8 H8 ⟨e8, rd8, k8⟩ => ?_
  subst e8
  have hgl : (getBytes R).1.length ≤ 2 ^ 40 := by
    unfold getBytes
    split
    · simp
    · split
      · simp
      · simp only [List.length_take, List.length_drop]; omega
  generalize getBytes R = G at *
  obtain ⟨x, rest, bad⟩ := G
  simp only at rd8 hgl ⊢
  have q8 := k8.n
  have g8 := (k8.get H2.n (by omega) (by omega)).trans g7
  have gz8 := (k8.get h.n (by omega) (by omega)).trans gz7
  simp only [wpA_region, wpA_seq, wpA_draw, seqQ_normal, goI_out, goI_ops, opsA_nil, opsA_cons, stepA_move, stepA_assign, stepA_store, stepA_fieldAddr, stepA_extract, thenV_some, thenS_some, extV_zero, extV_succ, eval_tmp, put_some, put_none, enterF_succ, cells_imm, one_imm, all_nil, all_cons, aField_eq, fieldGo_ptr, aStore_eq, storeGo_ptr, setC_row, setAll_nil, setAll_cons, Nat.reduceEqDiff, Nat.reduceAdd, Option.map_some, Nat.zero_add, List.length_cons, List.length_nil, List.set_cons_zero, List.set_cons_succ, if_true, if_false, Bool.and_self, Nat.le_refl, ft_80_3, zt_30, g8]
  generalize hcs : [V.int .i64 ((1 : Nat) : Int), .int .i64 (E : Nat), .int .i64 (A : Nat), .imm x.length (bytesV x)] = cs
  have hcE : cs = actE ⟨1, E, A, x⟩ := hcs.symm
  have k9 : Keep H8 (H8.set H2.n (.cells cs 80 none)) (fun q => q = H2.n) := Keep.set _ _ _
  have g9 : (H8.set H2.n (.cells cs 80 none)).get H2.n = .cells cs 80 none := get_set_same
  have gz9 := (k9.get h.n (by omega) (by omega)).trans gz8
  have rd9 := rd8.keep k9 (by omega)
  have kD : Keep h (H8.set H2.n (.cells cs 80 none)) none_ := (kC.trans k8 (fun x hx hh => by omega)).trans k9 (fun x hx hh => by omega)
  have q9 : (H8.set H2.n (.cells cs 80 none)).n = H8.n := rfl
  generalize H8.set H2.n (.cells cs 80 none) = H9 at *
  have hlen : cs.length = 4 := by rw [hcE]; rfl
  have hone : cs.all (·.one) = true := by rw [hcE]; rfl
  have hst : setC (some 4) (AObj.cells [.int .i64 0, .int .i64 0, .int .i64 0, .snil] 80 none) 0 cs = some (.cells cs 80 none) := by
    rw [setC_row (n := 4) hlen hone, if_pos (by decide), hcE]; rfl
  have hcl : (V.agg cs).cells = some cs := by rw [hcE]; rfl
  have dd : dropC (.cells cs 80 none) 0 = some cs := rfl
  have hld : loadGo (some (some 4)) (some cs) = some (.agg cs) := by rw [hcE]; rfl
  have kst : Keep H9 (H9.set h.n (.cells cs 80 none)) (fun q => q = h.n) := Keep.set _ _ _
  have kF : Keep h (H9.set h.n (.cells cs 80 none)) none_ := kD.trans (Keep.set _ _ _) (fun x hx hh => by omega)
  have f1 : (H2.n = h.n) = False := eq_false (by omega)
  have f2 : (H0.n = h.n) = False := eq_false (by omega)
  have hlz : (((rest.length : Nat) : Int) == 0) = decide (rest = []) := by
    rw [Bool.eq_iff_iff, beq_iff_eq, decide_eq_true_iff, ← List.length_eq_zero_iff]
    omega
  have hend : ∀ b : Bool, Cast (.tuple [.agg cs, .bool b]) (H9.set h.n (.cells cs 80 none)) (.tuple [.agg (actE ⟨1, E, A, x⟩), .bool b]) (H9.set h.n (.cells cs 80 none)) := fun b => by rw [hcE]; exact Cast.refl _ _
  refine SWp.drawnS (fun q => q = h.n) [12] (.q 0 (.q 1 (.q 2 (.q 3 (.q 4 (.c 5 (.q 6 (.q 7 (.q 8 (.c 9 (.q 10 (.q 11 (.e 12 (.q 13 .done) .stop))))))))))))) (by kernel_rfl) (by kernel_rfl) (by kernel_rfl) ?_
  by_cases hbad : bad = 0
  case neg =>
    have c3 : (((bad : Nat) : Int) == 0) = false := by rw [beq_eq_false_iff_ne]; omega
    simp only [mOk_move, mOk_binOp, mOk_load, mOkV_ptr, nne2, nne3, nne4, nne1', nne2', nne3', not_false_eq_true, siI_q, sqI_some, implies_true, qI_nil, qI_cons, qI_guard, qgI_ft, thenQ_some, q_move, q_load, q_binOp, goI_mk, slotAt_zero, slotAt_succ, eval_tmp, eval_const, put_some, put_none, enterF_succ, aBin_eql, absV_int, aLoad_eq, aPlace_ptr, List.getElem?_cons_zero, List.getElem?_cons_succ, Nat.reduceEqDiff, true_and, if_true, if_false, lt_80, g9, dd, hld, f1, c3]
    refine siI_cskip rfl rfl ?_
    simp only [mOk_move, mOk_pick, nne2, nne3, nne4, nne1', nne2', siI_q, sqI_some, implies_true, qI_nil, qI_cons, qI_guard, qgI_ft, thenQ_some, q_move, q_pick, goI_mk, slotAt_zero, slotAt_succ, pickV_false, eval_tmp, eval_const, put_some, put_none, enterF_succ, absV_bool, List.getElem?_cons_zero, List.getElem?_cons_succ, Nat.reduceEqDiff, true_and, if_true, if_false]
    refine siI_cskip rfl rfl ?_
    simp only [mOk_assign, mOk_pick, mOk_binOp, nne2, nne3, nne4, nne1', nne2', nne3', siI_done, siI_stop, siI_q, siI_e, sqI_some, seI_some, implies_true, qI_nil, qI_cons, qI_guard, qgI_ft, thenQ_some, q_assign, q_pick, wpA_ret, seqQ_normal, seqQ_ret, blkQ_ret, endI_mk, goI_out, goI_ops, goI_mk, opsA_nil, opsA_cons, slotAt_zero, slotAt_succ, stepA_store, thenS_some, pickV_false, eval_tmp, eval_const, put_some, put_none, enterF_succ, absV_bool, aLoad_eq, aPlace_ptr, aStore_eq, storeGo_ptr, get_set_same, List.getElem?_cons_zero, List.getElem?_cons_succ, Bool.false_eq_true, Nat.reduceEqDiff, Option.map_some, and_true, true_and, if_true, if_false, lt_80, zt_80, dd, hld, gz9, hst, hcl, kst, retA_ret, Try.results38, resultsC_2, resultA_tmp, resultA_cell, res2_some]
    rw [decide_eq_false hbad]
    exact hid_mk ⟨_, hend _, kF⟩
  subst hbad
  have c3 : (((0 : Nat) : Int) == 0) = true := rfl
  simp only [mOk_move, mOk_binOp, mOk_load, mOkV_ptr, nne2, nne3, nne4, nne1', nne2', nne3', not_false_eq_true, siI_q, sqI_some, implies_true, qI_nil, qI_cons, qI_guard, qgI_same, thenQ_some, q_move, q_load, q_binOp, goI_mk, slotAt_zero, slotAt_succ, eval_tmp, eval_const, put_some, put_none, enterF_succ, aBin_eql, absV_int, aLoad_eq, aPlace_ptr, List.getElem?_cons_zero, List.getElem?_cons_succ, Nat.reduceEqDiff, true_and, if_true, if_false, lt_80, g9, dd, hld, f1, c3]
  refine siI_c rfl rfl rfl (fun h' hk => by rw [hcE]; exact pMayWrite ⟨1, E, A, x⟩ h' (Nat.le_trans hgl (by decide))) ?_
  cases hm : mayWr ⟨1, E, A, x⟩
  · simp only [mOk_move, mOk_pick, nne2, nne3, nne4, nne1', nne2', siI_q, sqI_some, implies_true, qI_nil, qI_cons, qI_guard, qgI_ft, thenQ_some, q_move, q_pick, goI_mk, slotAt_zero, slotAt_succ, pickV_true, eval_tmp, eval_const, put_some, put_none, enterF_succ, absV_bool, List.getElem?_cons_zero, List.getElem?_cons_succ, Nat.reduceEqDiff, true_and, if_true, if_false]
    refine siI_cskip rfl rfl ?_
    simp only [mOk_assign, mOk_pick, mOk_binOp, nne2, nne3, nne4, nne1', nne2', nne3', siI_done, siI_stop, siI_q, siI_e, sqI_some, seI_some, implies_true, qI_nil, qI_cons, qI_guard, qgI_ft, thenQ_some, q_assign, q_pick, wpA_ret, seqQ_normal, seqQ_ret, blkQ_ret, endI_mk, goI_out, goI_ops, goI_mk, opsA_nil, opsA_cons, slotAt_zero, slotAt_succ, stepA_store, thenS_some, pickV_false, eval_tmp, eval_const, put_some, put_none, enterF_succ, absV_bool, aLoad_eq, aPlace_ptr, aStore_eq, storeGo_ptr, get_set_same, List.getElem?_cons_zero, List.getElem?_cons_succ, Bool.false_eq_true, Nat.reduceEqDiff, Option.map_some, and_true, true_and, if_true, if_false, lt_80, zt_80, dd, hld, gz9, hst, hcl, kst, retA_ret, Try.results38, resultsC_2, resultA_tmp, resultA_cell, res2_some]
    exact hid_mk ⟨_, hend _, kF⟩
  · simp only [mOk_move, mOk_pick, nne2, nne3, nne4, nne1', nne2', nne3', siI_q, sqI_some, implies_true, qI_nil, qI_cons, qI_guard, qgI_same, thenQ_some, q_move, q_pick, goI_mk, slotAt_zero, slotAt_succ, pickV_true, eval_tmp, eval_const, put_some, put_none, enterF_succ, absV_bool, List.getElem?_cons_zero, List.getElem?_cons_succ, Nat.reduceEqDiff, true_and, if_true, if_false]
    refine siI_c rfl rfl rfl (fun h' hk => Left h' _ _ rest (hk.elim (fun hk => rd9.keep hk (by omega)) (fun e => e ▸ rd9))) ?_
    simp only [mOk_assign, mOk_pick, mOk_binOp, nne2, nne3, nne4, nne1', nne2', nne3', siI_done, siI_stop, siI_q, siI_e, sqI_some, seI_some, implies_true, qI_nil, qI_cons, qI_guard, qgI_same, thenQ_some, q_assign, q_pick, q_binOp, wpA_ret, seqQ_normal, seqQ_ret, blkQ_ret, endI_mk, goI_out, goI_ops, goI_mk, opsA_nil, opsA_cons, slotAt_zero, slotAt_succ, stepA_store, thenS_some, pickV_true, eval_tmp, eval_const, put_some, put_none, enterF_succ, aBin_eql, absV_int, absV_bool, aLoad_eq, aPlace_ptr, aStore_eq, storeGo_ptr, get_set_same, List.getElem?_cons_zero, List.getElem?_cons_succ, Bool.false_eq_true, Nat.reduceEqDiff, Option.map_some, and_true, true_and, if_true, if_false, lt_80, zt_80, dd, hld, gz9, hst, hcl, kst, hlz, retA_ret, Try.results38, resultsC_2, resultA_tmp, resultA_cell, res2_some]
    exact hid_mk ⟨_, hend _, kF⟩
end Go.Proofs.Ytlbekgogjlchjaa.Pk
namespace Go.Proofs.Ytlbekgogjlchjaa.Pk
open Go Go.Proofs Go.Proofs.Ytlbekgogjlchjaa.Ab
set_option linter.unusedVariables false
set_option linter.unusedSimpArgs false
/-! ### A node: its epoch, its cells -/
abbrev Ces := List (Nat × Int × Cel)
def celV (c : Cel) : V := .agg (celE c)
structure IsNod (h : AHeap) (a m k : Nat) (ep : Int) (es : Ces) (cl : Nat) : Prop where
  lt : a < h.n
  get : h.get a = .cells [.ptr k 0, .int .i64 ep, .map m] 78 none
  ml : m < h.n
  map : h.get m = .map (mapK (V.int .i64) celV es) cl
  ne : a ≠ m
theorem IsNod.keep {h h' : AHeap} {a m k cl : Nat} {ep : Int} {es : Ces} (d : IsNod h a m k ep es cl) {own : Nat → Prop} (hk : Keep h h' own) (ha : ¬ own a) (hm : ¬ own m) : IsNod h' a m k ep es cl :=
  ⟨Nat.lt_of_lt_of_le d.lt hk.n, (hk.get a d.lt ha).trans d.get, Nat.lt_of_lt_of_le d.ml hk.n, (hk.get m d.ml hm).trans d.map, d.ne⟩
theorem lookCel {h : AHeap} {m cl : Nat} {es : Ces} (hg : h.get m = .map (mapK (V.int .i64) celV es) cl) (k : Int) : aLookup Try.prog 76 (.map m) (.int .i64 k) true h =
    some (match kget es k with | some c => .tuple [.agg (celE c), .bool true] | none => .tuple [.agg [.int .i64 0, .int .i64 0, .snil], .bool false]) := by
  have hz : ∃ z, zeroT Try.prog 39 = some z ∧ absV z = .agg [.int .i64 0, .int .i64 0, .snil] := ⟨.agg #[.int .i64 0, .int .i64 0, .slice none 0 0], by kernel_rfl, rfl⟩
  obtain ⟨z, hz1, hz2⟩ := hz
  have := lookup_k (enc := celV) (ok := true) (KeyEnc.ofInt mt_76) (k := k) mt_76 hz1 hg
  rw [this, hz2]
  cases kget es k <;> rfl
theorem updCel {h : AHeap} {m cl : Nat} {es : Ces} (hg : h.get m = .map (mapK (V.int .i64) celV es) cl) (k : Int) (c : Cel) : aUpdate Try.prog 76 (.map m) (.int .i64 k) (.agg (celE c)) h =
    some (h.set m (.map (mapK (V.int .i64) celV (kset cl es k c)) (kclk cl es k))) :=
  update_k (enc := celV) (KeyEnc.ofInt mt_76) (k := k) mt_76 hg rfl
/-- Does an act take effect at a node? -/
def folB (ep : Int) (es : Ces) (a : Act) : Bool :=
  if a.kind = 2 then decide (ep < a.epoch) else decide (ep ≤ a.epoch) && (match kget es a.at_ with | some c => decide (c.epoch < a.epoch) | none => true)
set_option maxRecDepth 10000 in
theorem pFollows (h : AHeap) (n m k cl : Nat) (ep : Int) (es : Ces) (d : IsNod h n m k ep es cl) (a : Act) : Pure Try.prog 39 [.ptr n 0, .agg (actE a)] h (.bool (folB ep es a)) := by
  obtain ⟨kind, epoch, at_, bytes⟩ := a
  refine Pure.val (Clo.bool _) ?_
  have k0 : Keep h (h.push (.cells (actE ⟨kind, epoch, at_, bytes⟩) 80 none)) none_ := Keep.push _ _ _
  have d0 := d.keep k0 (fun h => h) (fun h => h)
  have g0 : (h.push (.cells (actE ⟨kind, epoch, at_, bytes⟩) 80 none)).get h.n = .cells (actE ⟨kind, epoch, at_, bytes⟩) 80 none := get_push_new
  have e0 : dropC (.cells (actE ⟨kind, epoch, at_, bytes⟩) 80 none) 0 = some [.int .i64 kind, .int .i64 epoch, .int .i64 at_, .imm bytes.length (bytesV bytes)] := rfl
  have e1 : dropC (.cells (actE ⟨kind, epoch, at_, bytes⟩) 80 none) 1 = some [.int .i64 epoch, .int .i64 at_, .imm bytes.length (bytesV bytes)] := rfl
  have e2 : dropC (.cells (actE ⟨kind, epoch, at_, bytes⟩) 80 none) 2 = some [.int .i64 at_, .imm bytes.length (bytesV bytes)] := rfl
  have hcl : (V.agg (actE ⟨kind, epoch, at_, bytes⟩)).cells = some (actE ⟨kind, epoch, at_, bytes⟩) := rfl
  refine SCalls.enterI (c := _) Try.func39 rfl (by kernel_rfl) (by simp) ?_
  have l0 : loadGo (some none) (some (actE ⟨kind, epoch, at_, bytes⟩)) = some (.int .i64 kind) := rfl
  have v0 := d0.get
  have vm := d0.map
  have q0 : (h.push (.cells (actE ⟨kind, epoch, at_, bytes⟩) 80 none)).n = h.n + 1 := rfl
  have dn := d.lt
  have dm := d.ml
  by_cases hk : kind = 2
  · have c1 : (kind == 2) = true := by rw [hk]; rfl
    have hF : folB ep es ⟨kind, epoch, at_, bytes⟩ = decide (ep < epoch) := by unfold folB; rw [if_pos hk]
    simp only [wpA_region, wpA_seq, wpA_cond, wpA_draw, condI_true, seqQ_normal, goI_out, goI_ops, opsA_nil, opsA_cons, stepA_assign, stepA_box, stepA_load, stepA_binOp, stepA_fieldAddr, thenV_some, thenH_some, eval_tmp, eval_const, put_some, enterF_zero, enterF_succ, aBin_eql, absV_int, absV_bool, aField_eq, fieldGo_ptr, aLoad_eq, aPlace_ptr, dropC_cells, aBox_eq, get_push_new, Nat.reduceEqDiff, Option.map_some, Nat.add_zero, Nat.zero_le, List.drop_zero, if_true, if_false, ft_80_0, lt_3, hcl, l0, c1]
    generalize h.push (.cells (actE ⟨kind, epoch, at_, bytes⟩) 80 none) = H0 at *
    refine SWp.drawnS none_ [] (.q 0 (.q 1 (.q 2 (.q 3 (.q 4 (.q 5 (.q 6 (.q 7 .done)))))))) (by kernel_rfl) (by kernel_rfl) (by kernel_rfl) ?_
    simp only [siI_done, siI_q, sqI_some, mOk_none', implies_true, qI_nil, qI_cons, thenQ_some, q_move, q_assign, q_load, q_nilCheck, q_binOp, q_fieldAddr, wpA_ret, seqQ_normal, seqQ_ret, endI_mk, goI_out, goI_mk, nilV_ptr, eval_tmp, put_some, enterF_zero, enterF_succ, aBin_gtr, aField_eq, fieldGo_ptr, aLoad_eq, loadGo_one, aPlace_ptr, dropC_cells, List.getElem?_cons_zero, List.getElem?_cons_succ, Nat.reduceEqDiff, Nat.reduceAdd, Nat.reduceLeDiff, reduceCtorEq, Nat.zero_add, List.length_cons, List.length_nil, List.drop_zero, List.drop_succ_cons, true_and, if_true, if_false, ft_78_1, ft_80_1, lt_3, g0, e1, v0, retA_ret, Try.results39, resultsA_1]
    exact hid_mk ⟨by rw [hF], k0⟩
  have c1 : (kind == 2) = false := by rw [beq_eq_false_iff_ne]; exact hk
  have lk := lookCel vm at_
  simp only [wpA_skip, wpA_region, wpA_seq, wpA_cond, wpA_draw, condI_false, seqQ_normal, goI_out, goI_ops, opsA_nil, opsA_cons, stepA_assign, stepA_box, stepA_load, stepA_binOp, stepA_fieldAddr, thenV_some, thenH_some, eval_tmp, eval_const, put_some, enterF_zero, enterF_succ, aBin_eql, absV_int, absV_bool, aField_eq, fieldGo_ptr, aLoad_eq, aPlace_ptr, dropC_cells, aBox_eq, get_push_new, Nat.reduceEqDiff, Option.map_some, Nat.add_zero, Nat.zero_le, List.drop_zero, if_true, if_false, ft_80_0, lt_3, hcl, l0, c1]
  generalize h.push (.cells (actE ⟨kind, epoch, at_, bytes⟩) 80 none) = H0 at *
  refine SWp.drawnS none_ [10, 11] (.q 0 (.q 1 (.q 2 (.q 3 (.q 4 (.q 5 (.q 6 (.q 7 (.q 8 (.q 9 (.e 10 (.e 11 (.q 12 .done) .stop) .stop))))))))))) (by kernel_rfl) (by kernel_rfl) (by kernel_rfl) ?_
  simp only [siI_q, sqI_some, mOk_none', implies_true, qI_nil, qI_cons, thenQ_some, q_move, q_load, q_nilCheck, q_fieldAddr, q_lookup, q_extract, goI_mk, nilV_ptr, eval_tmp, put_some, enterF_zero, enterF_succ, aField_eq, fieldGo_ptr, aLoad_eq, loadGo_one, aPlace_ptr, dropC_cells, List.getElem?_cons_zero, List.getElem?_cons_succ, Nat.reduceEqDiff, Nat.reduceAdd, Nat.reduceLeDiff, reduceCtorEq, Nat.zero_add, List.length_cons, List.length_nil, List.drop_zero, List.drop_succ_cons, true_and, if_true, if_false, ft_78_2, ft_80_2, lt_3, lt_76, g0, e2, v0, lk]
  cases hg : kget es at_ with
  | none =>
    have hF : folB ep es ⟨kind, epoch, at_, bytes⟩ = (decide (ep ≤ epoch) && true) := by unfold folB; rw [if_neg hk]; simp only [hg]
    simp only [siI_done, siI_stop, siI_q, siI_e, sqI_some, seI_some, mOk_none', keepT1, implies_true, qI_nil, qI_cons, thenQ_some, q_assign, q_extract, wpA_seq, wpA_draw, seqQ_normal, goI_out, goI_ops, goI_mk, opsA_nil, opsA_cons, stepA_alloc, stepA_store, thenH_some, thenS_some, extV_zero, extV_succ, eval_tmp, put_some, put_none, enterF_succ, cells_agg, one_int, one_snil, all_nil, all_cons, aStore_eq, storeGo_ptr, setC_row, setAll_nil, setAll_cons, aAlloc_eq, get_push_new, set_push, List.getElem?_cons_zero, List.getElem?_cons_succ, Bool.false_eq_true, Nat.reduceEqDiff, Nat.reduceAdd, Option.map_some, Nat.zero_add, List.length_cons, List.length_nil, List.set_cons_zero, List.set_cons_succ, and_true, true_and, if_true, if_false, Bool.and_self, Nat.le_refl, zc_39, zt_39]
    have k1 : Keep H0 (H0.push (.cells [.int .i64 0, .int .i64 0, .snil] 39 none)) none_ := Keep.push _ _ _
    have g1 := (k1.get h.n (by omega) (fun h => h)).trans g0
    have v1 := (d0.keep k1 (fun h => h) (fun h => h)).get
    have kF := k0.trans k1 fun _ _ h => h
    generalize H0.push (.cells [.int .i64 0, .int .i64 0, .snil] 39 none) = H1 at *
    refine SWp.drawnS none_ [] (.q 0 (.q 1 (.q 2 (.q 3 (.q 4 (.q 5 (.q 6 (.q 7 (.q 8 (.q 9 (.q 10 (.q 11 (.q 12 (.q 13 (.q 14 (.q 15 (.q 16 (.q 17 (.q 18 .done))))))))))))))))))) (by kernel_rfl) (by kernel_rfl) (by kernel_rfl) ?_
    by_cases c2 : ep ≤ epoch
    · simp only [siI_done, siI_q, sqI_some, mOk_none', implies_true, qI_nil, qI_cons, qI_guard, qgI_same, qgI_tf, thenQ_some, q_move, q_assign, q_pick, q_load, q_nilCheck, q_binOp, q_unOp, q_fieldAddr, wpA_ret, seqQ_normal, endI_mk, goI_out, goI_mk, slotAt_zero, slotAt_succ, pickV_true, nilV_ptr, eval_tmp, eval_const, put_some, put_none, enterF_zero, enterF_succ, aBin_geq, aUn_not, absV_bool, aField_eq, fieldGo_ptr, aLoad_eq, loadGo_one, aPlace_ptr, dropC_cells, List.getElem?_cons_zero, List.getElem?_cons_succ, decide_true, Nat.reduceEqDiff, Nat.reduceAdd, Nat.reduceLeDiff, reduceCtorEq, Nat.zero_add, List.length_cons, List.length_nil, List.drop_zero, List.drop_succ_cons, true_and, if_true, if_false, Bool.not_false, ft_78_1, ft_80_1, lt_3, g1, e1, v1, c2, retA_ret, Try.results39, resultsA_1]
      exact hid_mk ⟨by rw [hF]; simp [c2], kF⟩
    · simp only [siI_done, siI_q, sqI_some, mOk_none', implies_true, qI_nil, qI_cons, qI_guard, qgI_ft, qgI_u, thenQ_some, q_move, q_assign, q_pick, q_load, q_nilCheck, q_binOp, q_fieldAddr, wpA_ret, seqQ_normal, endI_mk, goI_out, goI_mk, slotAt_zero, slotAt_succ, pickV_false, nilV_ptr, eval_tmp, eval_const, put_some, put_none, enterF_zero, enterF_succ, aBin_geq, absV_bool, aField_eq, fieldGo_ptr, aLoad_eq, loadGo_one, aPlace_ptr, dropC_cells, List.getElem?_cons_zero, List.getElem?_cons_succ, decide_false, Nat.reduceEqDiff, Nat.reduceAdd, Nat.reduceLeDiff, reduceCtorEq, Nat.zero_add, List.length_cons, List.length_nil, List.drop_zero, List.drop_succ_cons, true_and, if_true, if_false, ft_78_1, ft_80_1, lt_3, g1, e1, v1, c2, retA_ret, Try.results39, resultsA_1]
      exact hid_mk ⟨by rw [hF]; simp [c2], kF⟩
  | some c =>
    obtain ⟨ca, ce, cb⟩ := c
    have hF : folB ep es ⟨kind, epoch, at_, bytes⟩ = (decide (ep ≤ epoch) && decide (ce < epoch)) := by unfold folB; rw [if_neg hk]; simp only [hg]
    have hst : setC (some 3) (AObj.cells [.int .i64 0, .int .i64 0, .snil] 39 none) 0 (celE ⟨ca, ce, cb⟩) = some (.cells (celE ⟨ca, ce, cb⟩) 39 none) := by
      rw [setC_row (n := 3) rfl rfl, if_pos (by decide)]; rfl
    have hcc : (V.agg (celE ⟨ca, ce, cb⟩)).cells = some (celE ⟨ca, ce, cb⟩) := rfl
    simp only [siI_done, siI_stop, siI_q, siI_e, sqI_some, seI_some, mOk_none', keepT1, implies_true, qI_nil, qI_cons, thenQ_some, q_assign, q_extract, wpA_seq, wpA_draw, seqQ_normal, goI_out, goI_ops, goI_mk, opsA_nil, opsA_cons, stepA_alloc, stepA_store, thenH_some, thenS_some, extV_zero, extV_succ, eval_tmp, put_some, put_none, enterF_succ, aStore_eq, storeGo_ptr, aAlloc_eq, get_push_new, set_push, List.getElem?_cons_zero, List.getElem?_cons_succ, Bool.false_eq_true, Nat.reduceEqDiff, Option.map_some, and_true, true_and, if_true, if_false, zc_39, zt_39, hst, hcc]
    have k1 : Keep H0 (H0.push (.cells (celE ⟨ca, ce, cb⟩) 39 none)) none_ := Keep.push _ _ _
    have g1 := (k1.get h.n (by omega) (fun h => h)).trans g0
    have v1 := (d0.keep k1 (fun h => h) (fun h => h)).get
    have w1 : (H0.push (.cells (celE ⟨ca, ce, cb⟩) 39 none)).get H0.n = .cells (celE ⟨ca, ce, cb⟩) 39 none := get_push_new
    have w1d : dropC (.cells (celE ⟨ca, ce, cb⟩) 39 none) 1 = some [.int .i64 ce, .imm cb.length (bytesV cb)] := rfl
    have kF := k0.trans k1 fun _ _ h => h
    generalize H0.push (.cells (celE ⟨ca, ce, cb⟩) 39 none) = H1 at *
    refine SWp.drawnS none_ [] (.q 0 (.q 1 (.q 2 (.q 3 (.q 4 (.q 5 (.q 6 (.q 7 (.q 8 (.q 9 (.q 10 (.q 11 (.q 12 (.q 13 (.q 14 (.q 15 (.q 16 (.q 17 (.q 18 .done))))))))))))))))))) (by kernel_rfl) (by kernel_rfl) (by kernel_rfl) ?_
    by_cases c2 : ep ≤ epoch
    · simp only [siI_done, siI_q, sqI_some, mOk_none', implies_true, qI_nil, qI_cons, qI_guard, qgI_same, thenQ_some, q_move, q_assign, q_pick, q_load, q_nilCheck, q_binOp, q_unOp, q_fieldAddr, wpA_ret, seqQ_normal, endI_mk, goI_out, goI_mk, slotAt_zero, slotAt_succ, pickV_true, pickV_false, nilV_ptr, eval_tmp, eval_const, put_some, put_none, enterF_zero, enterF_succ, aBin_gtr, aBin_geq, aUn_not, absV_bool, aField_eq, fieldGo_ptr, aLoad_eq, loadGo_one, aPlace_ptr, dropC_cells, List.getElem?_cons_zero, List.getElem?_cons_succ, decide_true, Nat.reduceEqDiff, Nat.reduceAdd, Nat.reduceLeDiff, reduceCtorEq, Nat.zero_add, List.length_cons, List.length_nil, List.drop_zero, List.drop_succ_cons, true_and, if_true, if_false, Bool.not_true, ft_39_1, ft_78_1, ft_80_1, lt_3, g1, e1, v1, w1, w1d, c2, retA_ret, Try.results39, resultsA_1]
      exact hid_mk ⟨by rw [hF]; simp [c2], kF⟩
    · simp only [siI_done, siI_q, sqI_some, mOk_none', implies_true, qI_nil, qI_cons, qI_guard, qgI_ft, qgI_u, thenQ_some, q_move, q_assign, q_pick, q_load, q_nilCheck, q_binOp, q_fieldAddr, wpA_ret, seqQ_normal, endI_mk, goI_out, goI_mk, slotAt_zero, slotAt_succ, pickV_false, nilV_ptr, eval_tmp, eval_const, put_some, put_none, enterF_zero, enterF_succ, aBin_geq, absV_bool, aField_eq, fieldGo_ptr, aLoad_eq, loadGo_one, aPlace_ptr, dropC_cells, List.getElem?_cons_zero, List.getElem?_cons_succ, decide_false, Nat.reduceEqDiff, Nat.reduceAdd, Nat.reduceLeDiff, reduceCtorEq, Nat.zero_add, List.length_cons, List.length_nil, List.drop_zero, List.drop_succ_cons, true_and, if_true, if_false, ft_78_1, ft_80_1, lt_3, g1, e1, v1, c2, retA_ret, Try.results39, resultsA_1]
      exact hid_mk ⟨by rw [hF]; simp [c2], kF⟩
end Go.Proofs.Ytlbekgogjlchjaa.Pk
namespace Go.Proofs.Ytlbekgogjlchjaa.Pk
open Go Go.Proofs Go.Proofs.Ytlbekgogjlchjaa.Ab
set_option linter.unusedVariables false
set_option linter.unusedSimpArgs false
def appE (ep : Int) (a : Act) : Int := if a.kind = 2 then a.epoch else ep
def appC (cl : Nat) (es : Ces) (a : Act) : Ces := if a.kind = 2 then es else kset cl es a.at_ ⟨a.at_, a.epoch, a.bytes⟩
def appK (cl : Nat) (es : Ces) (a : Act) : Nat := if a.kind = 2 then cl else kclk cl es a.at_
set_option maxRecDepth 10000 in
theorem sApply (h : AHeap) (n m k cl : Nat) (ep : Int) (es : Ces) (d : IsNod h n m k ep es cl) (a : Act) (hl : a.bytes.length ≤ 2 ^ 40) :
    SCalls Try.prog 40 [.ptr n 0, .agg (actE a)] h (fun r h' => IsNod h' n m k (appE ep a) (appC cl es a) (appK cl es a) ∧ Keep h h' (fun q => q = n ∨ q = m)) := by
  obtain ⟨kind, epoch, at_, bytes⟩ := a
  simp only at hl
  have k0 : Keep h (h.push (.cells (actE ⟨kind, epoch, at_, bytes⟩) 80 none)) none_ := Keep.push _ _ _
  have d0 := d.keep k0 (fun h => h) (fun h => h)
  have g0 : (h.push (.cells (actE ⟨kind, epoch, at_, bytes⟩) 80 none)).get h.n = .cells (actE ⟨kind, epoch, at_, bytes⟩) 80 none := get_push_new
  have e1 : dropC (.cells (actE ⟨kind, epoch, at_, bytes⟩) 80 none) 1 = some [.int .i64 epoch, .int .i64 at_, .imm bytes.length (bytesV bytes)] := rfl
  have e2 : dropC (.cells (actE ⟨kind, epoch, at_, bytes⟩) 80 none) 2 = some [.int .i64 at_, .imm bytes.length (bytesV bytes)] := rfl
  have e3 : dropC (.cells (actE ⟨kind, epoch, at_, bytes⟩) 80 none) 3 = some [.imm bytes.length (bytesV bytes)] := rfl
  have hcl : (V.agg (actE ⟨kind, epoch, at_, bytes⟩)).cells = some (actE ⟨kind, epoch, at_, bytes⟩) := rfl
  have l0 : loadGo (some none) (some (actE ⟨kind, epoch, at_, bytes⟩)) = some (.int .i64 kind) := rfl
  have v0 := d0.get
  have vm := d0.map
  have q0 : (h.push (.cells (actE ⟨kind, epoch, at_, bytes⟩) 80 none)).n = h.n + 1 := rfl
  have dn := d.lt
  have dm := d.ml
  refine SCalls.enterI (c := _) Try.func40 rfl (by kernel_rfl) (by simp) ?_
  by_cases hk : kind = 2
  · have c1 : (kind == 2) = true := by rw [hk]; rfl
    simp only [wpA_region, wpA_seq, wpA_cond, wpA_ret, condI_true, seqQ_normal, seqQ_ret, endI_mk, goI_out, goI_ops, opsA_nil, opsA_cons, stepA_move, stepA_box, stepA_load, stepA_store, stepA_nilCheck, stepA_binOp, stepA_fieldAddr, thenV_some, thenH_some, thenS_some, nilV_ptr, eval_tmp, eval_const, put_some, enterF_zero, enterF_succ, aBin_eql, absV_int, cells_int, one_int, all_nil, all_cons, aField_eq, fieldGo_ptr, aLoad_eq, loadGo_one, aPlace_ptr, dropC_cells, aStore_eq, storeGo_ptr, setC_row, setAll_nil, setAll_cons, aBox_eq, Nat.reduceEqDiff, Nat.reduceAdd, Nat.reduceLeDiff, reduceCtorEq, Option.map_some, Nat.add_zero, Nat.zero_add, Nat.zero_le, List.length_cons, List.length_nil, List.drop_zero, List.set_cons_zero, List.set_cons_succ, if_true, if_false, Bool.and_self, ft_78_1, ft_80_0, ft_80_1, lt_3, zt_3, hcl, l0, c1, g0, e1, v0, retA_ret, Try.results40, resultsA_0]
    generalize h.push (.cells (actE ⟨kind, epoch, at_, bytes⟩) 80 none) = H0 at *
    refine hid_mk ⟨?_, (k0.mono fun _ h => False.elim h).trans (Keep.set _ _ _) fun x _ hx => .inl hx⟩
    have hE : appE ep ⟨kind, epoch, at_, bytes⟩ = epoch := by unfold appE; rw [if_pos hk]
    have hC : appC cl es ⟨kind, epoch, at_, bytes⟩ = es := by unfold appC; rw [if_pos hk]
    have hK : appK cl es ⟨kind, epoch, at_, bytes⟩ = cl := by unfold appK; rw [if_pos hk]
    rw [hE, hC, hK]
    exact ⟨by rw [set_n]; exact d0.lt, get_set_same, by rw [set_n]; exact d0.ml, (get_set_ne d.ne.symm).trans vm, d.ne⟩
  have c1 : (kind == 2) = false := by rw [beq_eq_false_iff_ne]; exact hk
  simp only [wpA_skip, wpA_region, wpA_seq, wpA_cond, wpA_draw, condI_false, seqQ_normal, goI_out, goI_ops, opsA_nil, opsA_cons, stepA_box, stepA_load, stepA_binOp, stepA_fieldAddr, thenV_some, thenH_some, eval_tmp, eval_const, put_some, enterF_zero, enterF_succ, aBin_eql, absV_int, aField_eq, fieldGo_ptr, aLoad_eq, aPlace_ptr, dropC_cells, aBox_eq, get_push_new, Nat.reduceEqDiff, Option.map_some, Nat.add_zero, Nat.zero_le, List.drop_zero, if_true, if_false, ft_80_0, lt_3, hcl, l0, c1]
  generalize h.push (.cells (actE ⟨kind, epoch, at_, bytes⟩) 80 none) = H0 at *
  have hup := updCel vm at_ ⟨at_, epoch, bytes⟩
  have hce : ∀ v w, V.agg [.int .i64 v, .int .i64 w, .imm bytes.length (bytesV bytes)] = .agg (celE ⟨v, w, bytes⟩) := fun _ _ => rfl
  refine SWp.drawnS none_ [14] (.q 0 (.q 1 (.q 2 (.q 3 (.q 4 (.q 5 (.q 6 (.q 7 (.q 8 (.q 9 (.q 10 (.q 11 (.q 12 (.c 13 (.a 14 .done))))))))))))))) (by kernel_rfl) (by kernel_rfl) (by kernel_rfl) ?_
  simp only [siI_q, sqI_some, mOk_none', implies_true, qI_nil, qI_cons, thenQ_some, q_move, q_load, q_build, q_nilCheck, q_fieldAddr, goI_mk, nilV_ptr, eval_tmp, put_some, enterF_zero, enterF_succ, cells_int, cells_imm, aField_eq, fieldGo_ptr, aLoad_eq, loadGo_one, aPlace_ptr, dropC_cells, setAll_nil, setAll_cons, aBuild_go, aFill_nil, aFill_cons, fillGo_some, buildGo_struct, List.getElem?_cons_zero, List.getElem?_cons_succ, Nat.reduceEqDiff, Nat.reduceAdd, Nat.reduceLeDiff, reduceCtorEq, List.map_cons, List.map_nil, Option.map_some, Nat.zero_add, List.length_cons, List.length_nil, List.drop_zero, List.drop_succ_cons, List.set_cons_zero, List.set_cons_succ, true_and, and_self, if_true, if_false, Nat.le_refl, ft_78_2, ft_80_1, ft_80_2, ft_80_3, lt_3, lt_30, lt_76, pl_39, zc_39, g0, e1, e2, e3, v0]
  refine siI_c rfl rfl rfl (fun h' _ => pOwn ⟨at_, epoch, bytes⟩ h' hl) ?_
  simp only [siI_done, siI_a, saI_some, endI_mk, goI_out, goI_ops, goI_mk, opsA_nil, opsA_cons, stepA_mapUpdate, thenS_some, eval_tmp, put_some, enterF_succ, List.getElem?_cons_zero, List.getElem?_cons_succ, Nat.reduceEqDiff, if_true, if_false, hup, retA_normal, Try.results40, resultsA_0]
  refine hid_mk ⟨?_, (k0.mono fun _ h => False.elim h).trans (Keep.set _ _ _) fun x _ hx => .inr hx⟩
  have hE : appE ep ⟨kind, epoch, at_, bytes⟩ = ep := by unfold appE; rw [if_neg hk]
  have hC : appC cl es ⟨kind, epoch, at_, bytes⟩ = kset cl es at_ ⟨at_, epoch, bytes⟩ := by unfold appC; rw [if_neg hk]
  have hK : appK cl es ⟨kind, epoch, at_, bytes⟩ = kclk cl es at_ := by unfold appK; rw [if_neg hk]
  rw [hE, hC, hK]
  exact ⟨by rw [set_n]; exact d0.lt, (get_set_ne d.ne).trans v0, by rw [set_n]; exact d0.ml, get_set_same, d.ne⟩
end Go.Proofs.Ytlbekgogjlchjaa.Pk
