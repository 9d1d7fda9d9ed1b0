/-
  What functions of the program do, told of abstract states. Conditions: as each theorem says.
-/
import Derived.Test.YtedkjhifbibpmaaGreatDoorMeA
import Derived.Test.YtedkjhifbibpmaaGreatDoorMeW
import Derived.Test.YtedkjhifbibpmaaGreatDoorMeS
namespace Go.Proofs.YtedkjhifbibpmaaGreatDoor.Pk
open Go Go.Proofs Go.Proofs.YtedkjhifbibpmaaGreatDoor.Ab
set_option linter.unusedVariables false
set_option linter.unusedSimpArgs false
set_option maxRecDepth 10000
/-! ### Apply, whatever keeps -/
def errA (c : Int) : V := .tuple [.agg [.int .i64 0, .int .i64 0, .int .i64 0], .snil, .int .i64 c]
def okA (k n t : Int) (c : V) : V := .tuple [.agg [.int .i64 k, .int .i64 n, .int .i64 t], c, .int .i64 0]
/-- The block of a store. -/
structure AgB (h : AHeap) (a : Nat) (T : TypeId) (i : Nat) (e : Ex) (n : Int) : Prop where
  lt : a < h.n
  get : h.get a = .cells (encE e ++ [.int .i64 n, .iface T (.ptr i 0)]) 124 none
theorem AgB.keep {h h' : AHeap} {a i : Nat} {T : TypeId} {e : Ex} {n : Int} {own : Nat → Prop} (s : AgB h a T i e n) (hk : Keep h h' own) (h0 : ¬ own a) : AgB h' a T i e n :=
  ⟨Nat.lt_of_lt_of_le s.lt hk.n, (hk.get a s.lt h0).trans s.get⟩
theorem ag_missingB {h : AHeap} {a i : Nat} {T : TypeId} {e : Ex} {n : Int} (s : AgB h a T i e n) : Pure Tryz.prog 56 [.ptr a 0] h (.bool false) := by
  obtain ⟨o, m, ks⟩ := e
  have g := s.get
  rw [encE_eq] at g
  refine SCalls.enterI (c := _) Tryz.func56 rfl (by kernel_rfl) (by simp) ?_
  simp only [List.cons_append, List.nil_append] at g
  simp only [wpA_region, wpA_seq, seqQ_normal, goI_out, goI_ops, opsA_nil, opsA_cons, opsA_guardS, gvI_same, slotAt_zero, slotAt_succ, stepA_move, stepA_assign, stepA_load, stepA_nilCheck, stepA_binOp, stepA_fieldAddr, thenV_some, nilV_ptr, eval_tmp, eval_const, put_some, enterF_zero, enterF_succ, ptr_nil_eql, absV_bool, absV_pnil, absV_nilIface, aField_eq, fieldGo_ptr, aLoad_eq, loadGo_one, aPlace_ptr, dropC_cells, Nat.reduceEqDiff, Nat.reduceAdd, Nat.reduceLeDiff, reduceCtorEq, Nat.zero_add, List.length_cons, List.length_nil, List.drop_zero, List.drop_succ_cons, if_true, if_false, ft_124_2, kt_31, lt_118, g]
  exact hid_mk ⟨rfl, rfl⟩
set_option maxRecDepth 10000 in
set_option maxHeartbeats 2000000 in
theorem agApplyG {h : AHeap} {a i : Nat} {T : TypeId} {e : Ex} {n : Int} (s : AgB h a T i e n) (hm : mayX e = true) (hg : KG h) (r : Rec) (acc : Int) (M : Nat → Prop) (hMa : ¬ M a) (hMn : ∀ q, h.n ≤ q → ¬ M q)
    (Q : AHeap → AHeap → Int → V → Int → Int → Prop)
    (hga : ∀ h', Keep h h' none_ → mayTa r.t = true → Pure Tryz.prog 60 [.iface T (.ptr i 0), .agg (recE r)] h' (.int .i64 acc))
    (hput : ∀ h' N, Keep h h' none_ → mayTa r.t = true → valF r.k r.v r.t acc 16 e = some N → SCalls Tryz.prog 61 [.iface T (.ptr i 0), .agg (recE r), .int .i64 N] h' (fun q h2 => ∃ c t er, q = .tuple [c, .int .i64 t, .int .i64 er] ∧ Keep h' h2 M ∧ Q h' h2 N c t er)) :
    SCalls Tryz.prog 19 [.ptr a 0, .agg (recE r)] h (fun q hh => ∃ h1 h2, Keep h h1 none_ ∧ h1.n = h.n + 2 ∧ Keep h2 hh (fun q => q = h.n + 1) ∧
      if mayTa r.t = false then h2 = h1 ∧ q = errA 2 else match valF r.k r.v r.t acc 16 e with
      | none => h2 = h1 ∧ q = errA 10
      | some N => ∃ c t er, Keep h1 h2 M ∧ Q h1 h2 N c t er ∧ q = if er = 0 then okA r.k N t c else errA er) := by
  obtain ⟨rk, rv, rt⟩ := r
  obtain ⟨o, m, ks⟩ := e
  have hE : encE (.mk o m ks) = [.int .i64 o, .int .i64 m, .imm ks.length (ks.flatMap encE)] := encE_eq _ _ _
  refine SCalls.enterI (c := _) Tryz.func19 rfl (by kernel_rfl) (by simp) ?_
  unfold recE at *
  obtain ⟨H, hH⟩ : ∃ y, y = (h.push (.cells [.int .i64 rk, .int .i64 rv, .int .i64 rt] 38 none)).push (.cells [.int .i64 0, .int .i64 0, .int .i64 0] 38 none) := ⟨_, rfl⟩
  have k0 : Keep h H none_ := by rw [hH]; exact (Keep.push _ _ _).then_push _
  have g0 : H.get h.n = .cells [.int .i64 rk, .int .i64 rv, .int .i64 rt] 38 none := by rw [hH]; exact get_push2'
  have g1 : H.get (h.n + 1) = .cells [.int .i64 0, .int .i64 0, .int .i64 0] 38 none := by rw [hH]; exact get_push2
  have n0 : H.n = h.n + 2 := by rw [hH]; rfl
  have s0 := s.keep k0 (by simp [none_])
  have ga := s0.get
  rw [hE] at ga
  simp only [List.cons_append, List.nil_append] at ga
  have halt := s.lt
  have pe : ∀ h', KG h' → Pure Tryz.prog 59 [.agg [.int .i64 o, .int .i64 m, .imm ks.length (ks.flatMap encE)], .agg [.int .i64 rk, .int .i64 rv, .int .i64 rt], .int .i64 acc] h' (evO (valF rk rv rt acc 16 (.mk o m ks))) := fun h' hg' => by
    have := pEvalM (.mk o m ks) rk rv rt acc _ hm rfl h' hg'
    rw [hE] at this
    exact this
  simp only at hga hput
  simp only [wpA_region, wpA_seq, seqQ_normal, goI_out, goI_ops, opsA_nil, opsA_cons, stepA_move, stepA_assign, stepA_alloc, stepA_box, stepA_call, thenH_some, eval_tmp, eval_const, put_some, enterF_zero, enterF_succ, absV_int, absV_snil, cells_agg, aAlloc_eq, aBox_eq, push_n, Nat.reduceEqDiff, reduceCtorEq, List.map_cons, List.map_nil, Option.map_some, if_true, if_false, zc_38]
  rw [← hH]
  clear hH
  refine callI_pure cal56 (ag_missingB s0) ?_
  simp only [wpA_skip, wpA_region, wpA_seq, wpA_cond, condI_false, seqQ_normal, goI_out, goI_ops, opsA_nil, opsA_cons, stepA_load, stepA_fieldAddr, stepA_call, thenV_some, eval_tmp, put_some, enterF_succ, aField_eq, fieldGo_ptr, aLoad_eq, loadGo_one, aPlace_ptr, dropC_cells, Nat.reduceEqDiff, Nat.reduceAdd, Nat.reduceLeDiff, List.map_cons, List.map_nil, Nat.zero_add, List.length_cons, List.length_nil, List.drop_zero, List.drop_succ_cons, if_true, if_false, ft_38_2, lt_2, g0]
  refine callI_pure cal58 (pMayTa rt H) ?_
  cases hT : mayTa rt with
  | false =>
    rw [show decide (0 ≤ rt ∧ rt ≤ 1099511627776) = false from hT]
    simp only [wpA_region, wpA_seq, wpA_cond, wpA_ret, condI_true, seqQ_normal, seqQ_ret, endI_mk, goI_out, goI_ops, opsA_nil, opsA_cons, stepA_assign, stepA_build, stepA_store, stepA_unOp, thenV_some, thenS_some, eval_tmp, eval_const, put_some, put_none, enterF_succ, aUn_not, absV_int, absV_snil, cells_agg, one_int, all_nil, all_cons, aLoad_eq, loadGo_row, aPlace_ptr, dropC_cells, aStore_eq, storeGo_ptr, setC_row, setAll_nil, setAll_cons, aBuild_go, aFill_nil, buildGo_struct, get_set_same, Nat.reduceEqDiff, Nat.reduceAdd, List.map_nil, Option.map_some, Nat.zero_add, Nat.zero_le, List.length_cons, List.length_nil, List.drop_zero, List.take_succ_cons, List.take_nil, List.set_cons_zero, List.set_cons_succ, if_true, if_false, Bool.and_self, Bool.not_false, Nat.le_refl, lt_38, pl_38, zc_38, zt_38, g1, retA_ret, Tryz.results19, resultsC_3, resultA_tmp, resultA_cell, res3_some]
    exact hid_mk ⟨H, H, k0, n0, Keep.set _ _ _, by rw [if_pos rfl]; exact ⟨rfl, rfl⟩⟩
  | true =>
    rw [show decide (0 ≤ rt ∧ rt ≤ 1099511627776) = true from hT]
    simp only [wpA_skip, wpA_seq, wpA_cond, wpA_draw, condI_false, seqQ_normal, goI_out, goI_ops, opsA_nil, opsA_cons, stepA_unOp, thenV_some, eval_tmp, put_some, enterF_succ, aUn_not, Nat.reduceEqDiff, if_true, if_false, Bool.not_true]
    refine SWp.drawnS none_ [] (.q 0 (.q 1 (.q 2 (.q 3 (.q 4 (.q 5 (.q 6 (.q 7 (.q 8 (.q 9 (.c 10 (.c 11 (.q 12 (.q 13 (.q 14 (.q 15 (.q 16 .done))))))))))))))))) (by kernel_rfl) (by kernel_rfl) (by kernel_rfl) ?_
    simp only [siI_q, sqI_some, mOk_none', implies_true, qI_nil, qI_cons, thenQ_some, q_move, q_load, q_nilCheck, q_fieldAddr, goI_mk, nilV_ptr, eval_tmp, put_some, enterF_zero, enterF_succ, aField_eq, fieldGo_ptr, aLoad_eq, loadGo_one, loadGo_row, aPlace_ptr, dropC_cells, List.getElem?_cons_zero, List.getElem?_cons_succ, Nat.reduceEqDiff, Nat.reduceAdd, Nat.reduceLeDiff, reduceCtorEq, Nat.add_zero, Nat.zero_add, Nat.zero_le, List.length_cons, List.length_nil, List.drop_zero, List.drop_succ_cons, List.take_succ_cons, List.take_zero, List.take_nil, true_and, if_true, if_false, Nat.le_refl, ft_124_0, ft_124_2, lt_118, lt_27, lt_38, ga, g0]
    refine siI_c rfl rfl rfl (fun h' hk => hga h' (by rcases hk with hk | rfl; exact k0.trans' hk; exact k0) hT) ?_
    simp only [false_implies]
    refine siI_c rfl rfl rfl (fun h' hk => pe h' ((hg.keep k0).or (hg.keep k0) hk)) ?_
    cases hv : valF rk rv rt acc 16 (.mk o m ks) with
    | none =>
      simp only [siI_done, siI_q, sqI_some, mOk_none', implies_true, qI_nil, qI_cons, thenQ_some, q_move, q_assign, q_extract, wpA_region, wpA_seq, wpA_cond, wpA_ret, condI_true, seqQ_normal, seqQ_ret, endI_mk, goI_out, goI_ops, goI_mk, opsA_nil, opsA_cons, stepA_move, stepA_assign, stepA_build, stepA_store, stepA_binOp, thenV_some, thenS_some, extV_zero, extV_succ, eval_tmp, eval_const, put_some, put_none, enterF_succ, aBin_neq, absV_int, absV_snil, cells_agg, one_int, all_nil, all_cons, aLoad_eq, loadGo_row, aPlace_ptr, dropC_cells, aStore_eq, storeGo_ptr, setC_row, setAll_nil, setAll_cons, aBuild_go, aFill_nil, buildGo_struct, get_set_same, List.getElem?_cons_zero, List.getElem?_cons_succ, Int.reduceBNe, Nat.reduceEqDiff, Nat.reduceAdd, List.map_nil, Option.map_some, Nat.zero_add, Nat.zero_le, List.length_cons, List.length_nil, List.drop_zero, List.take_succ_cons, List.take_nil, List.set_cons_zero, List.set_cons_succ, true_and, if_true, if_false, Bool.and_self, Nat.le_refl, lt_38, pl_38, zc_38, zt_38, evO, g1, retA_ret, Tryz.results19, resultsC_3, resultA_tmp, resultA_cell, res3_some]
      exact hid_mk ⟨H, H, k0, n0, Keep.set _ _ _, by rw [if_neg (by decide)]; exact ⟨rfl, rfl⟩⟩
    | some N =>
      simp only [siI_done, siI_q, sqI_some, mOk_none', implies_true, qI_nil, qI_cons, thenQ_some, q_move, q_assign, q_extract, wpA_skip, wpA_region, wpA_seq, wpA_cond, wpA_draw, condI_false, seqQ_normal, goI_out, goI_ops, goI_mk, opsA_nil, opsA_cons, stepA_move, stepA_binOp, thenV_some, extV_zero, extV_succ, eval_tmp, eval_const, put_some, enterF_succ, aBin_neq, absV_int, List.getElem?_cons_zero, List.getElem?_cons_succ, bne_self_eq_false, Nat.reduceEqDiff, true_and, if_true, if_false, evO]
      refine SWp.drawnS (fun x => M x) [6] (.q 0 (.q 1 (.q 2 (.q 3 (.q 4 (.q 5 (.a 6 (.q 7 (.q 8 (.q 9 (.q 10 (.q 11 (.q 12 (.q 13 .done)))))))))))))) (by kernel_rfl) (by kernel_rfl) (by kernel_rfl) ?_
      have f1 : M a = False := eq_false hMa
      have f2 : M h.n = False := eq_false (hMn _ (Nat.le_refl _))
      simp only [mOk_move, mOk_nilCheck, mOk_fieldAddr, mOk_load, mOkV_ptr, nne2, nne3, nne4, nne1', nne2', nne3', not_false_eq_true, siI_q, siI_a, sqI_some, saI_some, implies_true, qI_nil, qI_cons, thenQ_some, q_move, q_load, q_nilCheck, q_fieldAddr, goI_mk, opsA_cons, stepA_call, nilV_ptr, eval_tmp, put_some, enterF_zero, enterF_succ, aField_eq, fieldGo_ptr, aLoad_eq, loadGo_one, loadGo_row, aPlace_ptr, dropC_cells, List.getElem?_cons_zero, List.getElem?_cons_succ, Nat.reduceEqDiff, Nat.reduceAdd, Nat.reduceLeDiff, reduceCtorEq, List.map_cons, List.map_nil, Nat.zero_add, Nat.zero_le, List.length_cons, List.length_nil, List.drop_zero, List.drop_succ_cons, List.take_succ_cons, List.take_nil, true_and, if_true, if_false, Nat.le_refl, ft_124_2, lt_118, lt_38, ga, g0, f1, f2]
      refine callI_of cal61 (hput H N k0 hT hv) fun q h2 ⟨c, t, er, e2, kp, hQ⟩ => ?_
      subst e2
      have nk := kp.n
      have gc := kp.get (h.n + 1) (by omega) (hMn _ (by omega))
      have gb := kp.get h.n (by omega) (hMn _ (by omega))
      rw [g0] at gb
      rw [g1] at gc
      simp only [mOk_move, mOk_assign, mOk_extract, nne2, nne3, nne4, nne1', nne2', nne3', siI_done, siI_q, sqI_some, implies_true, qI_nil, qI_cons, thenQ_some, q_move, q_assign, q_extract, wpA_region, wpA_seq, wpA_cond, seqQ_normal, goI_out, goI_ops, goI_mk, opsA_nil, opsA_cons, stepA_move, stepA_binOp, thenV_some, extV_zero, extV_succ, eval_tmp, eval_const, put_some, enterF_succ, aBin_neq, absV_int, List.getElem?_cons_zero, List.getElem?_cons_succ, Bool.false_eq_true, Nat.reduceEqDiff, true_and, if_true, if_false]
      by_cases he : er = 0
      · have hq : (er != 0) = false := by simp [he]
        simp only [nne2, nne3, nne4, nne1', nne2', nne3', wpA_skip, wpA_region, wpA_seq, wpA_ret, condI_false, seqQ_normal, endI_mk, goI_out, goI_ops, opsA_nil, opsA_cons, stepA_move, stepA_assign, stepA_build, stepA_load, stepA_store, stepA_fieldAddr, thenV_some, thenS_some, eval_tmp, eval_const, put_some, put_none, enterF_succ, absV_int, cells_int, cells_agg, one_int, all_nil, all_cons, aField_eq, fieldGo_ptr, aLoad_eq, loadGo_one, loadGo_row, aPlace_ptr, dropC_cells, aStore_eq, storeGo_ptr, setC_row, setAll_nil, setAll_cons, aBuild_go, aFill_nil, aFill_cons, fillGo_some, buildGo_struct, get_set_same, List.getElem?_cons_zero, List.getElem?_cons_succ, Nat.reduceEqDiff, Nat.reduceAdd, Nat.reduceLeDiff, List.map_cons, List.map_nil, Option.map_some, Nat.add_zero, Nat.zero_add, Nat.zero_le, List.length_cons, List.length_nil, List.drop_zero, List.take_succ_cons, List.take_nil, List.set_cons_zero, List.set_cons_succ, and_self, if_true, if_false, Bool.and_self, Nat.le_refl, ft_38_0, lt_2, lt_38, pl_38, zc_38, zt_38, gc, gb, hq, retA_ret, Tryz.results19, resultsC_3, resultA_tmp, resultA_cell, res3_some]
        exact hid_mk ⟨H, h2, k0, n0, Keep.set _ _ _, by rw [if_neg (by decide)]; exact ⟨c, t, er, kp, hQ, by rw [if_pos he]; rfl⟩⟩
      · have hq : (er != 0) = true := by simp [he]
        simp only [nne2, nne3, nne4, nne1', nne2', nne3', wpA_region, wpA_seq, wpA_ret, condI_true, seqQ_normal, seqQ_ret, endI_mk, goI_out, goI_ops, opsA_nil, opsA_cons, stepA_move, stepA_assign, stepA_build, stepA_store, thenV_some, thenS_some, eval_tmp, eval_const, put_some, put_none, enterF_succ, absV_snil, cells_agg, one_int, all_nil, all_cons, aLoad_eq, loadGo_row, aPlace_ptr, dropC_cells, aStore_eq, storeGo_ptr, setC_row, setAll_nil, setAll_cons, aBuild_go, aFill_nil, buildGo_struct, get_set_same, Nat.reduceEqDiff, Nat.reduceAdd, List.map_nil, Option.map_some, Nat.zero_add, Nat.zero_le, List.length_cons, List.length_nil, List.drop_zero, List.take_succ_cons, List.take_nil, List.set_cons_zero, List.set_cons_succ, if_true, if_false, Bool.and_self, Nat.le_refl, lt_38, pl_38, zc_38, zt_38, gc, hq, retA_ret, Tryz.results19, resultsC_3, resultA_tmp, resultA_cell, res3_some]
        exact hid_mk ⟨H, h2, k0, n0, Keep.set _ _ _, by rw [if_neg (by decide)]; exact ⟨c, t, er, kp, hQ, by rw [if_neg he]; rfl⟩⟩
/-! ### New, whatever keeps -/
set_option maxHeartbeats 1000000 in
theorem agNewG (x : Vx) (hm : mayX x.e = true) (hok : OkE x.e) (h : AHeap) (hg : KG h) (T : TypeId) (QK : AHeap → AHeap → Nat → Prop)
    (hk : ∀ H, Keep h H none_ → SCalls Tryz.prog 54 [.agg (encX x)] H (fun r h' => ∃ i, r = .tuple [.iface T (.ptr i 0), .int .i64 0] ∧ Keep H h' none_ ∧ QK H h' i)) :
    SCalls Tryz.prog 17 [.agg (encX x)] h (fun r h' => ∃ a i H h1, r = .tuple [.ptr a 0, .int .i64 0] ∧ Keep h H none_ ∧ QK H h1 i ∧ Keep h1 h' none_ ∧ Keep h h' none_ ∧ h.n ≤ a ∧ h1.n ≤ a ∧ AgB h' a T i x.e x.n) := by
  refine SCalls.enterI (c := _) Tryz.func17 rfl (by kernel_rfl) (by simp) ?_
  obtain ⟨kd, fr, ⟨o, m, ks⟩, n⟩ := x
  have hX : encX ⟨kd, fr, .mk o m ks, n⟩ = [.int .i64 kd, .imm fr.length (i64V fr), .int .i64 o, .int .i64 m, .imm ks.length (ks.flatMap encE), .int .i64 n] := by simp [encX, encE_eq]
  have hE : encE (.mk o m ks) = [.int .i64 o, .int .i64 m, .imm ks.length (ks.flatMap encE)] := encE_eq _ _ _
  obtain ⟨H, hH⟩ : ∃ y, y = h.push (.cells [.int .i64 kd, .imm fr.length (i64V fr), .int .i64 o, .int .i64 m, .imm ks.length (ks.flatMap encE), .int .i64 n] 29 none) := ⟨_, rfl⟩
  have k0 : Keep h H none_ := by rw [hH]; exact Keep.push _ _ _
  have g0 : H.get h.n = .cells [.int .i64 kd, .imm fr.length (i64V fr), .int .i64 o, .int .i64 m, .imm ks.length (ks.flatMap encE), .int .i64 n] 29 none := by rw [hH]; exact get_push_new
  have n0 : H.n = h.n + 1 := by rw [hH]; rfl
  have b1 : Pure Tryz.prog 53 [.agg [.int .i64 o, .int .i64 m, .imm ks.length (ks.flatMap encE)]] H (bytV (.mk o m ks)) := by rw [← hE]; exact pBytesX _ hok H (hg.keep k0)
  have hm' : mayX (.mk o m ks) = true := hm
  rw [hX]
  simp only [wpA_region, wpA_seq, seqQ_normal, goI_out, goI_ops, opsA_nil, opsA_cons, stepA_assign, stepA_box, stepA_load, stepA_fieldAddr, stepA_call, thenV_some, thenH_some, eval_tmp, eval_const, put_some, enterF_zero, enterF_succ, absV_int, absV_pnil, cells_agg, aField_eq, fieldGo_ptr, aLoad_eq, loadGo_row, aPlace_ptr, dropC_cells, aBox_eq, get_push_new, Nat.reduceEqDiff, Nat.reduceAdd, Nat.reduceLeDiff, List.map_cons, List.map_nil, Option.map_some, Nat.zero_add, List.length_cons, List.length_nil, List.drop_zero, List.drop_succ_cons, List.take_succ_cons, List.take_zero, if_true, if_false, ft_29_2, lt_27]
  rw [← hH]
  clear hH
  refine callI_pure cal53 b1 ?_
  unfold bytV bytX
  rw [if_pos hm', if_pos hm']
  simp only [wpA_skip, wpA_region, wpA_seq, wpA_cond, condI_false, seqQ_normal, goI_out, goI_ops, opsA_nil, opsA_cons, stepA_move, stepA_assign, stepA_load, stepA_binOp, stepA_extract, stepA_call, thenV_some, extV_zero, extV_succ, eval_tmp, eval_const, put_some, enterF_succ, aBin_neq, absV_int, aLoad_eq, loadGo_row, aPlace_ptr, dropC_cells, bne_self_eq_false, Nat.reduceEqDiff, Nat.reduceAdd, List.map_cons, List.map_nil, Nat.zero_add, Nat.zero_le, List.length_cons, List.length_nil, List.drop_zero, List.take_succ_cons, List.take_nil, if_true, if_false, Nat.le_refl, lt_29, g0]
  have kp := hk H k0
  rw [hX] at kp
  refine callI_of cal54 kp fun r h1 ⟨i, e1, k1, hQ⟩ => ?_
  subst e1
  have g1 := (k1.get h.n (by omega) (by simp [none_])).trans g0
  simp only [wpA_skip, wpA_region, wpA_seq, wpA_cond, condI_false, seqQ_normal, goI_out, goI_ops, opsA_nil, opsA_cons, stepA_move, stepA_assign, stepA_binOp, stepA_extract, stepA_call, thenV_some, extV_zero, extV_succ, eval_tmp, eval_const, put_some, enterF_succ, aBin_neq, absV_int, bne_self_eq_false, Nat.reduceEqDiff, List.map_cons, List.map_nil, if_true, if_false]
  have hof := pOf (.imm (encB (.mk o m ks)).length (bytesV (encB (.mk o m ks)))) (encB (.mk o m ks)) h1 ((hg.keep k0).keep k1) (Rd.imm _ _) (encB_lt _) (by have := encB_len _ (.mk o m ks) rfl hok; have := mayX_sz hm'; omega)
  have hov : ofV (encB (.mk o m ks)) = .tuple [.agg (encE (.mk o m ks)), .int .i64 0] := by unfold ofV ofE ofC; rw [ofX_enc hm' hok]; rfl
  rw [hov, hE] at hof
  refine callI_pure cal55 hof ?_
  have n1 := k1.n
  obtain ⟨H2, hH2⟩ : ∃ y, y = h1.push (.cells [.int .i64 o, .int .i64 m, .imm ks.length (ks.flatMap encE)] 27 none) := ⟨_, rfl⟩
  have k2 : Keep h1 H2 none_ := by rw [hH2]; exact Keep.push _ _ _
  have g2 := (k2.get h.n (by omega) (by simp [none_])).trans g1
  have g3 : H2.get h1.n = .cells [.int .i64 o, .int .i64 m, .imm ks.length (ks.flatMap encE)] 27 none := by rw [hH2]; exact get_push_new
  have n2 : H2.n = h1.n + 1 := by rw [hH2]; rfl
  simp only [wpA_region, wpA_seq, seqQ_normal, goI_out, goI_ops, opsA_nil, opsA_cons, stepA_move, stepA_assign, stepA_alloc, stepA_load, stepA_store, stepA_fieldAddr, stepA_extract, thenV_some, thenH_some, thenS_some, extV_zero, extV_succ, eval_tmp, put_some, put_none, enterF_succ, cells_agg, one_int, one_imm, all_nil, all_cons, aField_eq, fieldGo_ptr, aLoad_eq, loadGo_row, aPlace_ptr, dropC_cells, aStore_eq, storeGo_ptr, setC_row, setAll_nil, setAll_cons, aAlloc_eq, get_push_new, set_push, Nat.reduceEqDiff, Nat.reduceAdd, Option.map_some, Nat.zero_add, Nat.zero_le, List.length_cons, List.length_nil, List.drop_zero, List.take_succ_cons, List.take_nil, List.set_cons_zero, List.set_cons_succ, if_true, if_false, Bool.and_self, Nat.le_refl, ft_29_3, lt_2, lt_27, zc_27, zt_27]
  rw [← hH2]
  clear hH2
  simp only [wpA_ret, seqQ_normal, endI_mk, goI_out, goI_ops, opsA_nil, opsA_cons, stepA_move, stepA_assign, stepA_box, stepA_build, thenV_some, thenH_some, eval_tmp, eval_const, put_some, put_none, enterF_succ, absV_int, cells_int, cells_iface, cells_agg, loadGo_one, dropC_cells, setAll_nil, setAll_cons, aBox_eq, aBuild_go, aFill_nil, aFill_cons, fillGo_some, buildGo_struct, List.getElem?_cons_zero, List.getElem?_cons_succ, Nat.reduceEqDiff, Nat.reduceAdd, Nat.reduceLeDiff, List.map_cons, List.map_nil, Option.map_some, Nat.zero_add, List.length_cons, List.length_nil, List.drop_zero, List.drop_succ_cons, List.set_cons_zero, List.set_cons_succ, and_self, if_true, if_false, Nat.le_refl, pl_124, zc_124, g2, retA_ret, Tryz.results17, resultsA_2]
  have k3 : Keep H2 (H2.push (.cells [.int .i64 o, .int .i64 m, .imm ks.length (ks.flatMap encE), .int .i64 n, .iface T (.ptr i 0)] 124 none)) none_ := Keep.push _ _ _
  refine hid_mk ⟨_, i, H, h1, rfl, k0, hQ, k2.trans' k3, (k0.trans' k1).trans' (k2.trans' k3), by omega, by omega, ⟨by rw [push_n]; omega, ?_⟩⟩
  rw [hE]
  exact get_push_new
end Go.Proofs.YtedkjhifbibpmaaGreatDoor.Pk
namespace Go.Proofs.YtedkjhifbibpmaaGreatDoor.Pk
open Go Go.Proofs Go.Proofs.YtedkjhifbibpmaaGreatDoor.Ab
set_option linter.unusedVariables false
set_option linter.unusedSimpArgs false
set_option maxRecDepth 10000
/-! ### Windows -/
theorem asrKW (i : Nat) : aAssert Tryz.prog (.iface 197 (.ptr i 0)) 194 true = some (.tuple [.pnil, .bool false]) := by
  unfold aAssert; rw [Tryz.underlying194]; rfl
theorem asrWW (i : Nat) : aAssert Tryz.prog (.iface 197 (.ptr i 0)) 197 true = some (.tuple [.ptr i 0, .bool true]) := by
  unfold aAssert; rw [Tryz.underlying197]; rfl
theorem asrKS (i : Nat) : aAssert Tryz.prog (.iface 200 (.ptr i 0)) 194 true = some (.tuple [.pnil, .bool false]) := by
  unfold aAssert; rw [Tryz.underlying194]; rfl
theorem asrWS (i : Nat) : aAssert Tryz.prog (.iface 200 (.ptr i 0)) 197 true = some (.tuple [.pnil, .bool false]) := by
  unfold aAssert; rw [Tryz.underlying197]; rfl
theorem asrSS (i : Nat) : aAssert Tryz.prog (.iface 200 (.ptr i 0)) 200 true = some (.tuple [.ptr i 0, .bool true]) := by
  unfold aAssert; rw [Tryz.underlying200]; rfl
theorem IsWin.keep {h h' : AHeap} {i m cl : Nat} {room size : Int} {es : List (Nat × V × V)} {M : Nat → Prop} (k : IsWin h i m room size es cl) (hk : Keep h h' M) (h1 : ¬ M i) (h2 : ¬ M m) : IsWin h' i m room size es cl :=
  ⟨(hk.get i k.lt h1).trans k.get, (hk.get m k.ml h2).trans k.map, k.ne, Nat.lt_of_lt_of_le k.lt hk.n, Nat.lt_of_lt_of_le k.ml hk.n, k.s1, k.s2⟩
theorem pKeeper7 (x : Vx) (hx : x.kind = 7) (h1 : 1 ≤ x.n) (h2 : x.n ≤ 1048576) (h : AHeap) : SCalls Tryz.prog 54 [.agg (encX x)] h (fun r h' => ∃ i, r = .tuple [.iface 197 (.ptr i 0), .int .i64 0] ∧ Keep h h' none_ ∧ ∃ m, h.n ≤ i ∧ h.n ≤ m ∧ IsWin h' i m 1024 x.n [] 0) := by
  refine SCalls.enterI (c := _) Tryz.func54 rfl (by kernel_rfl) (by simp) ?_
  obtain ⟨kd, fr, ⟨o, m, ks⟩, n⟩ := x
  have hx : kd = 7 := hx
  subst hx
  have hx : encX ⟨7, fr, .mk o m ks, n⟩ = [.int .i64 7, .imm fr.length (i64V fr), .int .i64 o, .int .i64 m, .imm ks.length (ks.flatMap encE), .int .i64 n] := by simp [encX, encE_eq]
  rw [hx]
  have hk : Keep h (h.push (.cells [.int .i64 7, .imm fr.length (i64V fr), .int .i64 o, .int .i64 m, .imm ks.length (ks.flatMap encE), .int .i64 n] 29 none)) none_ := Keep.push _ _ _
  simp only [wpA_region, wpA_seq, wpA_cond, wpA_block, condI_true, condI_false, seqQ_normal, goI_out, goI_ops, opsA_nil, opsA_cons, stepA_assign, stepA_box, stepA_load, stepA_binOp, stepA_fieldAddr, stepA_call, thenV_some, thenH_some, eval_tmp, eval_const, put_some, enterF_zero, enterF_succ, aBin_eql, absV_int, absV_nilIface, cells_agg, aField_eq, fieldGo_ptr, aLoad_eq, loadGo_one, aPlace_ptr, dropC_cells, aBox_eq, get_push_new, Int.reduceBEq, beq_self_eq_true, Nat.reduceEqDiff, Nat.reduceAdd, Nat.reduceLeDiff, List.map_cons, List.map_nil, Option.map_some, Nat.add_zero, Nat.zero_add, Nat.zero_le, List.length_cons, List.length_nil, List.drop_zero, List.drop_succ_cons, if_true, if_false, ft_29_0, ft_29_3, lt_2, lt_3]
  refine callI_of cal107 (winNew _ 1024 n (by decide) (by decide) h1 h2) fun r h1 ⟨e1, k1, p1⟩ => ?_
  subst e1
  simp only [wpA_ret, seqQ_normal, seqQ_ret, blkQ_ret, endI_mk, goI_out, goI_ops, opsA_nil, opsA_cons, stepA_assign, stepA_extract, stepA_makeInterface, ifcV_false, thenV_some, extV_zero, extV_succ, eval_tmp, put_some, enterF_succ, push_n, Nat.reduceEqDiff, if_true, if_false, if_197, retA_ret, Tryz.results54, resultsA_2]
  exact hid_mk ⟨h.n + 1 + 1, rfl, hk.trans' p1, h.n + 1, by omega, by omega, k1⟩
theorem pKeeper8 (x : Vx) (hx : x.kind = 8) (h1 : 1 ≤ x.n) (h2 : x.n ≤ 1048576) (h : AHeap) : SCalls Tryz.prog 54 [.agg (encX x)] h (fun r h' => ∃ i, r = .tuple [.iface 200 (.ptr i 0), .int .i64 0] ∧ Keep h h' none_ ∧ h.n ≤ i ∧ IsSes h' i .snil 1024 x.n []) := by
  refine SCalls.enterI (c := _) Tryz.func54 rfl (by kernel_rfl) (by simp) ?_
  obtain ⟨kd, fr, ⟨o, m, ks⟩, n⟩ := x
  have hx : kd = 8 := hx
  subst hx
  have hx : encX ⟨8, fr, .mk o m ks, n⟩ = [.int .i64 8, .imm fr.length (i64V fr), .int .i64 o, .int .i64 m, .imm ks.length (ks.flatMap encE), .int .i64 n] := by simp [encX, encE_eq]
  rw [hx]
  have hk : Keep h (h.push (.cells [.int .i64 8, .imm fr.length (i64V fr), .int .i64 o, .int .i64 m, .imm ks.length (ks.flatMap encE), .int .i64 n] 29 none)) none_ := Keep.push _ _ _
  simp only [wpA_region, wpA_seq, wpA_cond, wpA_block, condI_true, condI_false, seqQ_normal, goI_out, goI_ops, opsA_nil, opsA_cons, stepA_assign, stepA_box, stepA_load, stepA_binOp, stepA_fieldAddr, stepA_call, thenV_some, thenH_some, eval_tmp, eval_const, put_some, enterF_zero, enterF_succ, aBin_eql, absV_int, absV_nilIface, cells_agg, aField_eq, fieldGo_ptr, aLoad_eq, loadGo_one, aPlace_ptr, dropC_cells, aBox_eq, get_push_new, Int.reduceBEq, beq_self_eq_true, Nat.reduceEqDiff, Nat.reduceAdd, Nat.reduceLeDiff, List.map_cons, List.map_nil, Option.map_some, Nat.add_zero, Nat.zero_add, Nat.zero_le, List.length_cons, List.length_nil, List.drop_zero, List.drop_succ_cons, if_true, if_false, ft_29_0, ft_29_3, lt_2, lt_3]
  refine callI_of cal108 (sesNew 1024 n (by decide) (by decide) h1 h2 _) fun r h1 ⟨e1, e2⟩ => ?_
  subst e1 e2
  simp only [wpA_ret, seqQ_normal, seqQ_ret, blkQ_ret, endI_mk, goI_out, goI_ops, opsA_nil, opsA_cons, stepA_assign, stepA_extract, stepA_makeInterface, ifcV_false, thenV_some, extV_zero, extV_succ, eval_tmp, put_some, enterF_succ, push_n, Nat.reduceEqDiff, if_true, if_false, if_200, retA_ret, Tryz.results54, resultsA_2]
  exact hid_mk ⟨_, rfl, hk.trans' (Keep.push _ _ _), by omega, IsSes.new h1 h2⟩
theorem pGath7 {h : AHeap} {i m cl : Nat} {room size : Int} {l : Ent} (k : IsWin h i m room size (wE l) cl) (r : Rec) (h0 : 0 ≤ r.t) (h1 : r.t ≤ 1099511627776) : Pure Tryz.prog 60 [.iface 197 (.ptr i 0), .agg (recE r)] h (.int .i64 ((kget l (r.k, frW size r.t)).getD 0)) := by
  refine Pure.val (Clo.int _ _) ?_
  obtain ⟨rk, rv, rt⟩ := r
  refine SCalls.enterI (c := _) Tryz.func60 rfl (by kernel_rfl) (by simp) ?_
  unfold recE
  have kk : Keep h (h.push (.cells [.int .i64 rk, .int .i64 rv, .int .i64 rt] 38 none)) none_ := Keep.push _ _ _
  simp only [wpA_region, wpA_seq, wpA_cond, wpA_block, condI_true, condI_false, seqQ_normal, goI_out, goI_ops, opsA_nil, opsA_cons, stepA_move, stepA_assign, stepA_box, stepA_load, stepA_fieldAddr, stepA_typeAssert, stepA_extract, stepA_call, thenV_some, thenH_some, extV_zero, extV_succ, eval_tmp, eval_const, put_some, enterF_zero, enterF_succ, absV_int, cells_agg, aField_eq, fieldGo_ptr, aLoad_eq, loadGo_one, aPlace_ptr, dropC_cells, aBox_eq, get_push_new, Nat.reduceEqDiff, Nat.reduceAdd, Nat.reduceLeDiff, reduceCtorEq, List.map_cons, List.map_nil, Option.map_some, Nat.add_zero, Nat.zero_add, Nat.zero_le, List.length_cons, List.length_nil, List.drop_zero, List.drop_succ_cons, if_true, if_false, ft_38_0, ft_38_2, lt_2, asrKW, asrWW]
  refine callI_pure cal117 (winGetOk _ i m cl room size rk rt l (k.keepN kk) h0 h1) ?_
  simp only [wpA_region, wpA_seq, wpA_ret, seqQ_normal, blkQ_normal, endI_mk, goI_out, goI_ops, opsA_nil, opsA_cons, stepA_move, stepA_assign, stepA_extract, thenV_some, extV_zero, extV_succ, eval_tmp, put_some, enterF_succ, Nat.reduceEqDiff, if_true, if_false, retA_ret, Tryz.results60, resultsA_1]
  exact hid_mk ⟨rfl, kk⟩
theorem pPut7 {h : AHeap} {i m cl : Nat} {room size : Int} {l : Ent} (k : IsWin h i m room size (wE l) cl) (r : Rec) (n : Int) (h0 : 0 ≤ r.t) (h1 : r.t ≤ 1099511627776) (hr : (kget l (r.k, frW size r.t)).isSome = true ∨ (l.length : Int) < room) :
    SCalls Tryz.prog 61 [.iface 197 (.ptr i 0), .agg (recE r), .int .i64 n] h (fun q h' => ∃ j, q = .tuple [.sl j 0 1 1, .int .i64 (frW size r.t), .int .i64 0] ∧ IsWin h' i m room size (wE (kset cl l (r.k, frW size r.t) n)) (kclk cl l (r.k, frW size r.t)) ∧ Keep h h' (fun q => q = m) ∧
      Own h' 40 5 (.sl j 0 1 1) (chgE ⟨r.k, frW size r.t, frW size r.t + size, n, false⟩) ∧ h.n ≤ j) := by
  obtain ⟨rk, rv, rt⟩ := r
  refine SCalls.enterI (c := _) Tryz.func61 rfl (by kernel_rfl) (by simp) ?_
  unfold recE
  obtain ⟨H, hH⟩ : ∃ y, y = h.push (.cells [.int .i64 rk, .int .i64 rv, .int .i64 rt] 38 none) := ⟨_, rfl⟩
  have k0 : Keep h H none_ := by rw [hH]; exact Keep.push _ _ _
  have g0 : H.get h.n = .cells [.int .i64 rk, .int .i64 rv, .int .i64 rt] 38 none := by rw [hH]; exact get_push_new
  have n0 : H.n = h.n + 1 := by rw [hH]; rfl
  simp only [wpA_region, wpA_seq, wpA_cond, wpA_block, condI_true, condI_false, seqQ_normal, goI_out, goI_ops, opsA_nil, opsA_cons, stepA_move, stepA_assign, stepA_box, stepA_load, stepA_fieldAddr, stepA_typeAssert, stepA_extract, stepA_call, thenV_some, thenH_some, extV_zero, extV_succ, eval_tmp, eval_const, put_some, enterF_zero, enterF_succ, absV_int, absV_snil, cells_agg, aField_eq, fieldGo_ptr, aLoad_eq, loadGo_one, aPlace_ptr, dropC_cells, aBox_eq, get_push_new, Nat.reduceEqDiff, Nat.reduceAdd, Nat.reduceLeDiff, reduceCtorEq, List.map_cons, List.map_nil, Option.map_some, Nat.add_zero, Nat.zero_add, Nat.zero_le, List.length_cons, List.length_nil, List.drop_zero, List.drop_succ_cons, if_true, if_false, ft_38_0, ft_38_2, lt_2, asrKW, asrWW]
  rw [← hH]
  clear hH
  have hml := k.ml
  refine callI_of cal120 (winPutOk H i m cl room size rk rt n l (k.keepN k0) hr h0 h1) fun q hh1 ⟨e1, k1, p1⟩ => ?_
  subst e1
  obtain ⟨C, hC⟩ : ∃ y, y = (⟨rk, frW size rt, frW size rt + size, n, false⟩ : Chg) := ⟨_, rfl⟩
  rw [← hC]
  have cC : C.fr = frW size rt := by rw [hC]
  have cc : ∀ c : Chg, (V.agg (chgE c)).cells = some (chgE c) := fun _ => rfl
  have st : ∀ c : Chg, setC (some 5) (AObj.cells [V.int .i64 0, V.int .i64 0, V.int .i64 0, V.int .i64 0, V.bool false] 40 none) 0 (chgE c) = some (.cells (chgE c) 40 none) := fun _ => rfl
  obtain ⟨H2, hH2⟩ : ∃ y, y = hh1.push (.cells (chgE C) 40 none) := ⟨_, rfl⟩
  have k2 : Keep hh1 H2 none_ := by rw [hH2]; exact Keep.push _ _ _
  have g2 : H2.get hh1.n = .cells (chgE C) 40 none := by rw [hH2]; exact get_push_new
  have n2 : H2.n = hh1.n + 1 := by rw [hH2]; rfl
  simp only [wpA_seq, wpA_draw, seqQ_normal, goI_out, goI_ops, opsA_nil, opsA_cons, stepA_move, stepA_assign, stepA_alloc, stepA_store, stepA_extract, thenV_some, thenH_some, thenS_some, extV_zero, extV_succ, eval_tmp, put_some, put_none, enterF_succ, aStore_eq, storeGo_ptr, aAlloc_eq, get_push_new, set_push, Nat.reduceEqDiff, Option.map_some, if_true, if_false, zc_40, zt_40, cc, st]
  rw [← hH2]
  clear hH2
  have l1 := lit1ca H2 C
  have ld : loadGo (some (some 5)) (some (chgE C)) = some (.agg (chgE C)) := rfl
  have d0 : dropC (.cells (chgE C) 40 none) 0 = some (chgE C) := rfl
  have d1 : dropC (.cells (chgE C) 40 none) 1 = some [.int .i64 (frW size rt), .int .i64 C.to, .int .i64 C.val, .bool C.del] := by rw [← cC]; rfl
  have hCl : (chgE C).length = 5 := rfl
  have hn1 := p1.n
  generalize hE : chgE C = E at *
  refine SWp.drawnS none_ [1] (.q 0 (.q 2 (.q 3 (.q 4 (.e 1 (.q 5 (.q 6 (.q 7 .done))) .stop))))) (by kernel_rfl) (by kernel_rfl) (by kernel_rfl) ?_
  simp only [siI_done, siI_stop, siI_q, siI_e, sqI_some, seI_some, mOk_none', keepT1, implies_true, qI_nil, qI_cons, thenQ_some, q_move, q_assign, q_load, q_fieldAddr, wpA_ret, seqQ_normal, seqQ_ret, blkQ_ret, endI_mk, goI_out, goI_ops, goI_mk, opsA_nil, opsA_cons, stepA_buildSlice, thenH_some, eval_tmp, put_some, put_none, enterF_succ, aField_eq, fieldGo_ptr, aLoad_eq, loadGo_one, aPlace_ptr, List.getElem?_cons_zero, List.getElem?_cons_succ, Bool.false_eq_true, Nat.reduceEqDiff, List.map_cons, List.map_nil, Nat.zero_add, and_true, true_and, if_true, if_false, ft_40_1, lt_2, lt_40, g2, l1, ld, d0, d1, retA_ret, Tryz.results61, resultsA_3]
  have k3 : Keep H2 (H2.push (.cells E 40 none)) none_ := Keep.push _ _ _
  refine hid_mk ⟨H2.n, rfl, (k1.keepN k2).keepN k3, ((k0.up).trans' p1).trans' ((k2.trans' k3).up), Own.fresh' _ 1 hCl (by decide), by omega⟩
end Go.Proofs.YtedkjhifbibpmaaGreatDoor.Pk
namespace Go.Proofs.YtedkjhifbibpmaaGreatDoor.Pk
open Go Go.Proofs Go.Proofs.YtedkjhifbibpmaaGreatDoor.Ab
set_option linter.unusedVariables false
set_option linter.unusedSimpArgs false
set_option maxRecDepth 10000
/-! ### Sessions -/
def sumC (cs : List Chg) : Int := cs.foldl (fun a c => w64 (a + c.val)) 0
theorem sumC_snoc (cs : List Chg) (c : Chg) : sumC (cs ++ [c]) = w64 (sumC cs + c.val) := by simp [sumC, List.foldl_append]
theorem chg_ixJ {l : List Chg} {k : Nat} {kk : IntKind} (h : k < l.length) : ∃ r, aIndexAddr Tryz.prog 35 (.imm l.length (l.flatMap chgE)) (.int kk (k : Int)) = some (.at (chgE l[k] ++ r)) :=
  rows_at chgE_len rfl (List.getElem?_eq_getElem h) ss_35
set_option maxHeartbeats 1000000 in
theorem pGath8 {h : AHeap} {i : Nat} {v : V} {room g : Int} {l : List Chg} (k : IsSes h i v room g l) (r : Rec) : Pure Tryz.prog 60 [.iface 200 (.ptr i 0), .agg (recE r)] h (.int .i64 (sumC (foundT g l r.k r.t))) := by
  refine Pure.val (Clo.int _ _) ?_
  obtain ⟨rk, rv, rt⟩ := r
  refine SCalls.enterI (c := _) Tryz.func60 rfl (by kernel_rfl) (by simp) ?_
  unfold recE
  have kk : Keep h (h.push (.cells [.int .i64 rk, .int .i64 rv, .int .i64 rt] 38 none)) none_ := Keep.push _ _ _
  simp only [wpA_region, wpA_seq, wpA_cond, wpA_block, condI_true, condI_false, seqQ_normal, goI_out, goI_ops, opsA_nil, opsA_cons, stepA_move, stepA_assign, stepA_box, stepA_load, stepA_fieldAddr, stepA_typeAssert, stepA_extract, stepA_call, thenV_some, thenH_some, extV_zero, extV_succ, eval_tmp, eval_const, put_some, enterF_zero, enterF_succ, absV_int, cells_agg, aField_eq, fieldGo_ptr, aLoad_eq, loadGo_one, aPlace_ptr, dropC_cells, aBox_eq, get_push_new, Nat.reduceEqDiff, Nat.reduceAdd, Nat.reduceLeDiff, reduceCtorEq, List.map_cons, List.map_nil, Option.map_some, Nat.add_zero, Nat.zero_add, Nat.zero_le, List.length_cons, List.length_nil, List.drop_zero, List.drop_succ_cons, if_true, if_false, ft_38_0, ft_38_2, lt_2, asrKS, asrWS, asrSS]
  refine callI_pure cal118 (sesFind _ i v room g rk rt l (k.keep kk (by simp [none_]) (by simp [none_]))) ?_
  have hlen : (foundT g l rk rt).length ≤ 1024 := by
    unfold foundT
    split
    · exact Nat.le_trans (found_le g l rk rt) k.len
    · exact Nat.zero_le _
  show _
  generalize foundT g l rk rt = cs at *
  simp only [wpA_block, wpA_loop, seqQ_normal, goI_out, goI_ops, opsA_nil, opsA_cons, stepA_move, stepA_len, thenV_some, eval_tmp, eval_const, put_some, enterF_succ, absV_int, aLen_imm, Nat.reduceEqDiff, if_true, if_false, kt_35]
  refine SWp.loopG (α := Nat) (fun x f h' => f 42 = .imm cs.length (cs.flatMap chgE) ∧ f 43 = .int .i64 (cs.length : Nat) ∧ f 5 = .int .i64 (sumC (cs.take x)) ∧ f 44 = .int .i64 (x : Nat) ∧ x ≤ cs.length ∧ Keep h h' none_) (fun x => cs.length - x) 0
    ⟨rfl, rfl, rfl, rfl, Nat.zero_le _, kk⟩ ?_
  rintro t f h' ⟨f42, f43, f5, f44, ht, kh⟩
  refine wpI_sound (by kernel_rfl) ?_
  by_cases hlt : t < cs.length
  · have d1 : decide ((t : Int) < ((cs.length : Nat) : Int)) = true := decide_eq_true (by omega)
    have hw := inc64 hlt (by omega)
    obtain ⟨rr, x1⟩ := chg_ixJ (kk := .i64) hlt
    have hs : sumC (cs.take (t + 1)) = w64 (sumC (cs.take t) + cs[t].val) := by rw [List.take_succ_eq_append_getElem hlt, sumC_snoc]
    generalize cs[t] = c at x1 hs
    obtain ⟨ck, cf, ct, cv, cd⟩ := c
    simp only [aIndexAddr_eq, ixGo_imm, List.nil_append, List.cons_append, as_35, ss_35, chgE, List.cons_append, List.nil_append] at x1
    have hs' : IntKind.i64.wrap (sumC (cs.take t) + cv) = sumC (cs.take (t + 1)) := hs.symm
    have st : setC (some 5) (AObj.cells [V.int .i64 0, V.int .i64 0, V.int .i64 0, V.int .i64 0, V.bool false] 40 none) 0 [.int .i64 ck, .int .i64 cf, .int .i64 ct, .int .i64 cv, .bool cd] = some (.cells [.int .i64 ck, .int .i64 cf, .int .i64 ct, .int .i64 cv, .bool cd] 40 none) := rfl
    simp only [wpA_skip, wpA_region, wpA_seq, wpA_cond, wpA_block, condI_true, seqQ_normal, blkQ_normal, endI_mk, andThen_normal, goI_out, goI_ops, opsA_nil, opsA_cons, stepA_move, stepA_assign, stepA_alloc, stepA_load, stepA_store, stepA_binOp, stepA_fieldAddr, stepA_indexAddr, thenV_some, thenH_some, thenS_some, eval_tmp, eval_const, put_some, put_none, aBin_add, aBin_lss, absV_int, cells_agg, aField_eq, fieldGo_ptr, aLoad_eq, loadGo_one, loadGo_row, aPlace_ptr, aPlace_at, dropC_cells, aStore_eq, storeGo_ptr, aAlloc_eq, aIndexAddr_eq, ixGo_imm, get_push_new, set_push, Nat.reduceEqDiff, Nat.reduceAdd, Nat.reduceLeDiff, Option.map_some, Nat.zero_add, List.length_cons, List.length_nil, List.drop_zero, List.drop_succ_cons, List.take_succ_cons, List.take_zero, if_true, if_false, as_35, ft_40_3, lt_2, lt_40, ss_35, zc_40, zt_40, f42, f43, f5, f44, d1, x1, st, hs', hw]
    exact hid_mk ⟨t + 1, ⟨f42, f43, rfl, rfl, by omega, kh.then_push _⟩, by omega⟩
  · have d1 : decide ((t : Int) < ((cs.length : Nat) : Int)) = false := decide_eq_false (by omega)
    simp only [wpA_region, wpA_seq, wpA_cond, wpA_exit, wpA_ret, condI_false, seqQ_normal, seqQ_exit, blkQ_normal, blkQ_exit, endI_mk, goE, andThen_exit, goI_out, goI_ops, opsA_nil, opsA_cons, stepA_move, stepA_assign, stepA_binOp, thenV_some, eval_tmp, put_some, aBin_lss, Nat.reduceEqDiff, reduceCtorEq, if_true, if_false, f43, f5, f44, d1, retA_ret, Tryz.results60, resultsA_1]
    exact hid_mk ⟨by rw [List.take_of_length_le (by omega)], kh⟩
end Go.Proofs.YtedkjhifbibpmaaGreatDoor.Pk
namespace Go.Proofs.YtedkjhifbibpmaaGreatDoor.Pk
open Go Go.Proofs Go.Proofs.YtedkjhifbibpmaaGreatDoor.Ab
set_option linter.unusedVariables false
set_option linter.unusedSimpArgs false
set_option maxRecDepth 10000
set_option maxHeartbeats 1000000 in
theorem pPut8 {h : AHeap} {i : Nat} {v : V} {g : Int} {l : List Chg} (k : IsSes h i v 1024 g l) (r : Rec) (n : Int) (hmt : mayT r.t = true) (hl : found g l r.k r.t ≠ [] ∨ l.length < 1024) :
    SCalls Tryz.prog 61 [.iface 200 (.ptr i 0), .agg (recE r), .int .i64 n] h (fun q h' => ∃ v', q = .tuple [.imm (putC g l r.k r.t n).length ((putC g l r.k r.t n).flatMap chgE), .int .i64 (mkS g l r.k r.t n).fr, .int .i64 0] ∧ IsSes h' i v' 1024 g (putS g l r.k r.t n) ∧ Keep h h' (sesO i v) ∧ NewOr h v v') := by
  obtain ⟨rk, rv, rt⟩ := r
  refine SCalls.enterI (c := _) Tryz.func61 rfl (by kernel_rfl) (by simp) ?_
  unfold recE
  obtain ⟨H, hH⟩ : ∃ y, y = h.push (.cells [.int .i64 rk, .int .i64 rv, .int .i64 rt] 38 none) := ⟨_, rfl⟩
  have k0 : Keep h H none_ := by rw [hH]; exact Keep.push _ _ _
  have n0 : H.n = h.n + 1 := by rw [hH]; rfl
  simp only [wpA_region, wpA_seq, wpA_cond, wpA_block, condI_true, condI_false, seqQ_normal, goI_out, goI_ops, opsA_nil, opsA_cons, stepA_move, stepA_assign, stepA_box, stepA_load, stepA_fieldAddr, stepA_typeAssert, stepA_extract, stepA_call, thenV_some, thenH_some, extV_zero, extV_succ, eval_tmp, eval_const, put_some, enterF_zero, enterF_succ, absV_int, absV_snil, cells_agg, aField_eq, fieldGo_ptr, aLoad_eq, loadGo_one, aPlace_ptr, dropC_cells, aBox_eq, get_push_new, Nat.reduceEqDiff, Nat.reduceAdd, Nat.reduceLeDiff, reduceCtorEq, List.map_cons, List.map_nil, Option.map_some, Nat.add_zero, Nat.zero_add, Nat.zero_le, List.length_cons, List.length_nil, List.drop_zero, List.drop_succ_cons, if_true, if_false, ft_38_0, ft_38_2, lt_2, asrKS, asrWS, asrSS]
  rw [← hH]
  clear hH
  refine callI_of cal121 (sesPut H i v 1024 g rk rt n l hmt (hl.imp id fun q => by omega) hl (k.keep k0 (by simp [none_]) (by simp [none_]))) fun q h1 ⟨v', e1, k1, p1, d1⟩ => ?_
  subst e1
  have hfl := found_le g l rk rt
  have hkl := k.len
  have hpl : (putC g l rk rt n).length = ((found g l rk rt).filter (otherS (mkS g l rk rt n))).length + 1 := by simp [putC]
  have hfl2 := List.length_filter_le (otherS (mkS g l rk rt n)) (found g l rk rt)
  have hlast : (putC g l rk rt n)[(putC g l rk rt n).length - 1]'(by omega) = mkS g l rk rt n := by
    simp [putC]
  have hwr : IntKind.i64.wrap (((putC g l rk rt n).length : Int) - 1) = (((putC g l rk rt n).length - 1 : Nat) : Int) := by rw [Go.IntWalk.i64_in _ (by omega)]; omega
  obtain ⟨rr, x1⟩ := chg_ixJ (l := putC g l rk rt n) (k := (putC g l rk rt n).length - 1) (kk := .i64) (by omega)
  rw [hlast] at x1
  clear hlast hpl hfl2 hfl
  have hxe : chgE (mkS g l rk rt n) = [.int .i64 (mkS g l rk rt n).key, .int .i64 (mkS g l rk rt n).fr, .int .i64 (mkS g l rk rt n).to, .int .i64 (mkS g l rk rt n).val, .bool (mkS g l rk rt n).del] := rfl
  rw [hxe] at x1
  simp only [List.cons_append, List.nil_append] at x1
  generalize hcs : putC g l rk rt n = cs at *
  simp only [wpA_skip, wpA_region, wpA_seq, wpA_cond, wpA_draw, condI_false, seqQ_normal, goI_out, goI_ops, opsA_nil, opsA_cons, stepA_move, stepA_assign, stepA_binOp, stepA_extract, thenV_some, extV_zero, extV_succ, eval_tmp, eval_const, put_some, enterF_succ, aBin_neq, absV_int, bne_self_eq_false, Nat.reduceEqDiff, if_true, if_false]
  refine SWp.drawnS none_ [] (.q 0 (.q 1 (.q 2 (.q 3 (.q 4 (.q 5 (.q 6 (.q 7 (.q 8 (.q 9 (.q 10 .done))))))))))) (by kernel_rfl) (by kernel_rfl) (by kernel_rfl) ?_
  simp only [siI_done, siI_q, sqI_some, mOk_none', implies_true, qI_nil, qI_cons, thenQ_some, q_move, q_assign, q_load, q_binOp, q_fieldAddr, q_indexAddr, q_len, wpA_ret, seqQ_normal, seqQ_ret, blkQ_ret, endI_mk, goI_out, goI_mk, eval_tmp, eval_const, put_some, enterF_succ, aBin_sub, absV_int, aField_eq, fieldGo_at, aLoad_eq, loadGo_one, aPlace_at, aLen_imm, List.getElem?_cons_zero, List.getElem?_cons_succ, Nat.reduceEqDiff, Nat.reduceLeDiff, List.length_cons, List.drop_zero, List.drop_succ_cons, true_and, if_true, if_false, ft_40_1, kt_35, lt_2, hwr, x1, retA_ret, Tryz.results61, resultsA_3]
  exact hid_mk ⟨v', rfl, k1, (k0.up).trans' p1, NewOr.later d1 (by omega)⟩
end Go.Proofs.YtedkjhifbibpmaaGreatDoor.Pk
namespace Go.Proofs.YtedkjhifbibpmaaGreatDoor.Pk
open Go Go.Proofs Go.Proofs.YtedkjhifbibpmaaGreatDoor.Ab
set_option linter.unusedVariables false
set_option linter.unusedSimpArgs false
set_option maxRecDepth 10000
theorem mayTa_iff {t : Int} : mayTa t = true ↔ 0 ≤ t ∧ t ≤ 1099511627776 := by simp [mayTa]
end Go.Proofs.YtedkjhifbibpmaaGreatDoor.Pk
