/-
  What functions of the program do, told of abstract states. Conditions: as each theorem says.
-/
import Derived.Test.YtpmmbcifhallbaaDoorTpF
import Derived.Test.YtpmmbcifhallbaaDoorAbD
namespace Go.Proofs.YtpmmbcifhallbaaDoor.Pk
open Go Go.Proofs Go.Proofs.YtpmmbcifhallbaaDoor.Ab
set_option linter.unusedVariables false
set_option linter.unusedSimpArgs false

set_option maxHeartbeats 1000000 in
set_option maxRecDepth 10000 in
theorem pCheckO (F cap : Nat) (z : List V) (ex : Option Nat) (l : List Vx) (p : Int) (hok : OkT l) (h : AHeap) (hg : TG h) (hF : F < h.n) (gF : h.get F = .cells (l.flatMap encX ++ z) 47 ex) : Pure Tryd.prog 16 [.agg [.sl F 0 l.length cap, .int .i64 p]] h (chkA (chkT p l)) := by
  have hclo : Clo (chkA (chkT p l)) := Clo.tuple (CloL.cons (Clo.int _ _) (CloL.cons (Clo.int _ _) CloL.nil))
  refine Pure.val hclo ?_
  have hc : (V.agg [.sl F 0 l.length cap, .int .i64 p]).cells = some [.sl F 0 l.length cap, .int .i64 p] := rfl
  obtain ⟨H, hH⟩ : ∃ x, x = h.push (.cells [.sl F 0 l.length cap, .int .i64 p] 24 none) := ⟨_, rfl⟩
  have gt : H.get h.n = .cells [.sl F 0 l.length cap, .int .i64 p] 24 none := by rw [hH]; exact get_push_new
  have kH : Keep h H none_ := by rw [hH]; exact Keep.push _ _ _
  have nH : H.n = h.n + 1 := by rw [hH]; rfl
  refine SCalls.enterI (c := _) Tryd.func16 rfl (by kernel_rfl) (by simp) ?_
  by_cases h1 : p < 1
  · have c1 : decide (p < 1) = true := by simpa using h1
    have hG : chkT p l = (-1, 2) := if_pos (.inl h1)
    simp only [wpA_region, wpA_seq, wpA_cond, wpA_ret, condI_true, seqQ_normal, seqQ_ret, endI_mk, goI_out, goI_ops, opsA_nil, opsA_cons, opsA_guardS, gvI_tf, slotAt_zero, slotAt_succ, stepA_move, stepA_assign, stepA_pick, stepA_box, stepA_load, stepA_binOp, stepA_fieldAddr, thenV_some, thenH_some, pickV_true, eval_tmp, eval_const, put_some, enterF_zero, enterF_succ, aBin_lss, absV_int, absV_bool, aField_eq, fieldGo_ptr, aLoad_eq, loadGo_one, aPlace_ptr, dropC_cells, aBox_eq, Int.reduceNeg, Nat.reduceEqDiff, Nat.reduceAdd, Nat.reduceLeDiff, Option.map_some, Nat.zero_add, List.length_cons, List.length_nil, List.drop_zero, List.drop_succ_cons, if_true, if_false, ft_24_1, lt_3, hc, ← hH, gt, c1, retA_ret, Tryd.results16, resultsA_2]
    exact hid_mk ⟨by rw [hG]; rfl, kH⟩
  have c1 : decide (p < 1) = false := by simpa using h1
  by_cases h2 : 8 < p
  · have c2 : decide (8 < p) = true := by simpa using h2
    have hG : chkT p l = (-1, 2) := if_pos (.inr (.inl h2))
    simp only [wpA_region, wpA_seq, wpA_cond, wpA_ret, condI_true, seqQ_normal, seqQ_ret, endI_mk, goI_out, goI_ops, opsA_nil, opsA_cons, opsA_guardS, gvI_same, gvI_tf, slotAt_zero, slotAt_succ, stepA_move, stepA_assign, stepA_pick, stepA_box, stepA_load, stepA_binOp, stepA_fieldAddr, thenV_some, thenH_some, pickV_true, pickV_false, eval_tmp, eval_const, put_some, enterF_zero, enterF_succ, aBin_lss, aBin_gtr, absV_int, absV_bool, aField_eq, fieldGo_ptr, aLoad_eq, loadGo_one, aPlace_ptr, dropC_cells, aBox_eq, Int.reduceNeg, Nat.reduceEqDiff, Nat.reduceAdd, Nat.reduceLeDiff, Option.map_some, Nat.zero_add, List.length_cons, List.length_nil, List.drop_zero, List.drop_succ_cons, if_true, if_false, ft_24_1, lt_3, hc, ← hH, gt, c1, c2, retA_ret, Tryd.results16, resultsA_2]
    exact hid_mk ⟨by rw [hG]; rfl, kH⟩
  have c2 : decide (8 < p) = false := by simpa using h2
  by_cases h3 : l.length = 0
  · have c3 : (((l.length : Nat) : Int) == 0) = true := by simp [h3]
    have hG : chkT p l = (-1, 2) := if_pos (.inr (.inr (.inl h3)))
    simp only [wpA_region, wpA_seq, wpA_cond, wpA_ret, condI_true, seqQ_normal, seqQ_ret, endI_mk, goI_out, goI_ops, opsA_nil, opsA_cons, opsA_guardS, gvI_same, gvI_tf, slotAt_zero, slotAt_succ, stepA_move, stepA_assign, stepA_pick, stepA_box, stepA_load, stepA_binOp, stepA_fieldAddr, stepA_len, thenV_some, thenH_some, pickV_true, pickV_false, eval_tmp, eval_const, put_some, enterF_zero, enterF_succ, aBin_eql, aBin_lss, aBin_gtr, absV_int, absV_bool, aField_eq, fieldGo_ptr, aLoad_eq, loadGo_one, aPlace_ptr, dropC_cells, aBox_eq, aLen_sl, Int.reduceNeg, Nat.reduceEqDiff, Nat.reduceAdd, Nat.reduceLeDiff, Option.map_some, Nat.add_zero, Nat.zero_add, Nat.zero_le, List.length_cons, List.length_nil, List.drop_zero, List.drop_succ_cons, if_true, if_false, ft_24_0, ft_24_1, kt_22, lt_22, lt_3, hc, ← hH, gt, c1, c2, c3, retA_ret, Tryd.results16, resultsA_2]
    exact hid_mk ⟨by rw [hG]; rfl, kH⟩
  have c3 : (((l.length : Nat) : Int) == 0) = false := by simp only [beq_eq_false_iff_ne, ne_eq]; omega
  by_cases h4 : 24 < l.length
  · have c4 : decide ((24 : Int) < ((l.length : Nat) : Int)) = true := by simp only [decide_eq_true_eq]; omega
    have hG : chkT p l = (-1, 2) := if_pos (.inr (.inr (.inr h4)))
    simp only [wpA_region, wpA_seq, wpA_cond, wpA_ret, condI_true, seqQ_normal, seqQ_ret, endI_mk, goI_out, goI_ops, opsA_nil, opsA_cons, opsA_guardS, gvI_same, slotAt_zero, slotAt_succ, stepA_move, stepA_assign, stepA_pick, stepA_box, stepA_load, stepA_binOp, stepA_fieldAddr, stepA_len, thenV_some, thenH_some, pickV_false, eval_tmp, eval_const, put_some, enterF_zero, enterF_succ, aBin_eql, aBin_lss, aBin_gtr, absV_int, absV_bool, aField_eq, fieldGo_ptr, aLoad_eq, loadGo_one, aPlace_ptr, dropC_cells, aBox_eq, aLen_sl, Int.reduceNeg, Nat.reduceEqDiff, Nat.reduceAdd, Nat.reduceLeDiff, Option.map_some, Nat.add_zero, Nat.zero_add, Nat.zero_le, List.length_cons, List.length_nil, List.drop_zero, List.drop_succ_cons, if_true, if_false, ft_24_0, ft_24_1, kt_22, lt_22, lt_3, hc, ← hH, gt, c1, c2, c3, c4, retA_ret, Tryd.results16, resultsA_2]
    exact hid_mk ⟨by rw [hG]; rfl, kH⟩
  have c4 : decide ((24 : Int) < ((l.length : Nat) : Int)) = false := by simp only [decide_eq_false_iff_not]; omega
  have hG : chkT p l = chkF l 0 l := if_neg (by omega)
  obtain ⟨HM, hHM⟩ : ∃ x, x = H.push (.map [] 0) := ⟨_, rfl⟩
  have gtm : HM.get h.n = .cells [.sl F 0 l.length cap, .int .i64 p] 24 none := by rw [hHM]; exact (get_push_lt (by omega)).trans gt
  have kM : Keep h HM none_ := by rw [hHM]; exact kH.then_push _
  have gm0 : HM.get H.n = .map (wT []) 0 := by rw [hHM]; exact get_push_new
  have nM : HM.n = H.n + 1 := by rw [hHM]; rfl
  simp only [wpA_skip, wpA_region, wpA_seq, wpA_cond, wpA_block, wpA_loop, condI_false, seqQ_normal, goI_out, goI_ops, opsA_nil, opsA_cons, opsA_guardS, gvI_same, slotAt_zero, slotAt_succ, stepA_move, stepA_assign, stepA_pick, stepA_box, stepA_load, stepA_binOp, stepA_makeMap, stepA_fieldAddr, stepA_len, thenV_some, thenH_some, pickV_false, eval_tmp, eval_const, put_some, enterF_zero, enterF_succ, aBin_eql, aBin_lss, aBin_gtr, absV_int, absV_bool, aField_eq, fieldGo_ptr, aLoad_eq, loadGo_one, aPlace_ptr, dropC_cells, aBox_eq, aLen_sl, makeMap_nil, Int.reduceNeg, Nat.reduceEqDiff, Nat.reduceAdd, Nat.reduceLeDiff, Option.map_some, Option.map_none, Nat.add_zero, Nat.zero_add, Nat.zero_le, List.length_cons, List.length_nil, List.drop_zero, List.drop_succ_cons, if_true, if_false, ft_24_0, ft_24_1, kt_22, lt_22, lt_3, hc, ← hH, gt, c1, c2, c3, c4, ← hHM, gtm]
  refine SWp.loopG (α := Nat × EntT × Nat) (fun x f h' => f 1 = .ptr h.n 0 ∧ f 4 = .map H.n ∧ f 30 = .int .i64 ((l.length : Nat) : Int) ∧ f 31 = .int .i64 (x.1 : Nat) ∧ x.1 ≤ l.length ∧ Keep h h' none_ ∧ H.n < h'.n ∧ h'.get h.n = .cells [.sl F 0 l.length cap, .int .i64 p] 24 none ∧ h'.get H.n = .map (wT x.2.1) x.2.2 ∧ TK (l.take x.1) x.2.1 ∧ chkF l 0 l = chkF l x.1 (l.drop x.1)) (fun x => l.length - x.1) (0, [], 0) ⟨rfl, rfl, rfl, rfl, Nat.zero_le _, kM, by omega, gtm, gm0, TK.nil, rfl⟩ ?_
  rintro ⟨i, es, cl⟩ f h1 ⟨f1, f4, f30, f31, hi, k1, n1, g1, gm, hT, hE⟩
  simp only at f31 hi gm hT hE
  refine wpI_sound (by kernel_rfl) ?_
  by_cases hlt : i < l.length
  · have c5 : decide ((i : Int) < ((l.length : Nat) : Int)) = true := by simp only [decide_eq_true_eq]; omega
    rw [List.drop_eq_getElem_cons hlt] at hE
    obtain ⟨ok1, ok2, _⟩ := hok.2 _ (List.getElem_mem hlt)
    have w2 : IntKind.i64.wrap (((i : Nat) : Int) + 1) = ((i + 1 : Nat) : Int) := by rw [Go.IntWalk.i64_in _ (by omega)]; omega
    simp only [wpA_skip, wpA_region, wpA_seq, wpA_cond, wpA_block, condI_true, seqQ_normal, goI_out, goI_ops, opsA_nil, opsA_cons, stepA_move, stepA_assign, stepA_load, stepA_binOp, stepA_fieldAddr, stepA_call, thenV_some, eval_tmp, put_some, aBin_lss, aField_eq, fieldGo_ptr, aLoad_eq, loadGo_one, aPlace_ptr, dropC_cells, Nat.reduceEqDiff, Nat.reduceAdd, List.map_cons, List.map_nil, Nat.add_zero, Nat.zero_add, Nat.zero_le, List.length_cons, List.length_nil, List.drop_zero, if_true, if_false, ft_24_0, lt_22, f1, f4, f30, f31, c5, g1]
    refine callI_of cal40 (pCheck1O F cap z ex l i H.n cl es hlt (by omega) _ rfl ok1 ok2 h1 (hg.keep k1) (by omega) ((k1.get F hF (by simp [none_])).trans gF) (by omega) n1 gm hT) fun r h2 ⟨e1, k2, hfin⟩ => ?_
    subst e1
    have k3 : Keep h h2 none_ := k1.trans k2 fun k hk hkk => by omega
    have hn2 := k2.n
    have g2 := (k2.get h.n (by omega) (by omega)).trans g1
    replace hE : chkF l 0 l = if chkV l i l[i] = 0 then chkF l (i + 1) (l.drop (i + 1)) else ((i : Int), chkV l i l[i]) := hE
    by_cases h0 : chkV l i l[i] = 0
    · have c6 : (chkV l i l[i] != 0) = false := by simp [h0]
      obtain ⟨es', cl', q1, q2⟩ := hfin h0
      rw [if_pos h0] at hE
      simp only [wpA_skip, wpA_region, wpA_seq, wpA_cond, condI_false, seqQ_normal, blkQ_normal, endI_mk, andThen_normal, goI_out, goI_ops, opsA_nil, opsA_cons, stepA_move, stepA_assign, stepA_binOp, thenV_some, eval_tmp, eval_const, put_some, aBin_add, aBin_neq, absV_int, Int.reduceNeg, Nat.reduceEqDiff, if_true, if_false, f31, c6, w2]
      exact hid_mk ⟨(i + 1, es', cl'), ⟨f1, f4, f30, rfl, by simp only; omega, k3, by omega, g2, q1, q2, hE⟩, by simp only; omega⟩
    · have c6 : (chkV l i l[i] != 0) = true := by simp [h0]
      rw [if_neg h0] at hE
      simp only [wpA_region, wpA_seq, wpA_cond, wpA_ret, condI_true, seqQ_normal, seqQ_ret, blkQ_ret, endI_mk, goE, andThen_ret, goI_out, goI_ops, opsA_nil, opsA_cons, stepA_move, stepA_assign, stepA_binOp, thenV_some, eval_tmp, eval_const, put_some, aBin_neq, absV_int, Int.reduceNeg, Nat.reduceEqDiff, if_true, if_false, c6, retA_ret, Tryd.results16, resultsA_2]
      exact hid_mk ⟨by rw [hG, hE]; rfl, k3⟩
  · have c5 : decide ((i : Int) < ((l.length : Nat) : Int)) = false := by simp only [decide_eq_false_iff_not]; omega
    rw [List.drop_of_length_le (by omega)] at hE
    simp only [wpA_region, wpA_seq, wpA_cond, wpA_exit, wpA_ret, condI_false, seqQ_normal, seqQ_exit, blkQ_exit, endI_mk, goE, andThen_exit, goI_out, goI_ops, opsA_nil, opsA_cons, stepA_assign, stepA_binOp, thenV_some, eval_tmp, eval_const, put_some, aBin_lss, absV_int, Int.reduceNeg, Nat.reduceEqDiff, if_true, if_false, f30, f31, c5, retA_ret, Tryd.results16, resultsA_2]
    exact hid_mk ⟨by rw [hG, hE]; rfl, k1⟩


theorem litE2b (h : AHeap) (o1 n1 o2 n2 : Int) : aBuildSlice Tryd.prog 43 2 [(0, .agg [.int .i64 o1, .int .i64 n1, .snil]), (1, .agg [.int .i64 o2, .int .i64 n2, .snil])] h = some (.sl h.n 0 2 2, h.push (.cells [.int .i64 o1, .int .i64 n1, .snil, .int .i64 o2, .int .i64 n2, .snil] 45 none)) := by rw [buildSlice_go sl_43]; rfl
theorem litV3 (h : AHeap) (i j b : Nat) : aBuildSlice Tryd.prog 22 3 [(0, .agg [.int .i64 1, .snil, .int .i64 0, .int .i64 0, .snil, .int .i64 0]), (1, .agg [.int .i64 6, .sl i 0 1 1, .int .i64 6, .int .i64 0, .sl b 0 2 2, .int .i64 0]), (2, .agg [.int .i64 10, .sl j 0 1 1, .int .i64 0, .int .i64 0, .snil, .int .i64 0])] h = some (.sl h.n 0 3 3, h.push (.cells [.int .i64 1, .snil, .int .i64 0, .int .i64 0, .snil, .int .i64 0, .int .i64 6, .sl i 0 1 1, .int .i64 6, .int .i64 0, .sl b 0 2 2, .int .i64 0, .int .i64 10, .sl j 0 1 1, .int .i64 0, .int .i64 0, .snil, .int .i64 0] 47 none)) := by rw [buildSlice_go sl_22]; rfl
theorem litV1 (h : AHeap) (k m : Int) (x : Nat) : aBuildSlice Tryd.prog 22 1 [(0, .agg [.int .i64 k, .sl x 0 1 1, .int .i64 0, .int .i64 0, .snil, .int .i64 m])] h = some (.sl h.n 0 1 1, h.push (.cells [.int .i64 k, .sl x 0 1 1, .int .i64 0, .int .i64 0, .snil, .int .i64 m] 47 none)) := by rw [buildSlice_go sl_22]; rfl
def chE : Ex := .mk 6 0 [.mk 5 0 [], .mk 3 0 []]
def chain0 : List Vx := [⟨1, [], .mk 0 0 [], 0⟩, ⟨6, [0], chE, 0⟩, ⟨10, [1], .mk 0 0 [], 0⟩]
theorem ownL {h : AHeap} {i n : Nat} {cs : List V} {e : TypeId} {sz : Nat} (hi : i < h.n) (hg : h.get i = .cells cs e none) (hl : cs.length = n * sz) (hn : n < unk) : Own h e sz (.sl i 0 n n) cs :=
  .inr ⟨i, n, n, cs, none, rfl, hi, hg, hl, by rw [← hl]; exact List.take_length, .inl ⟨hn, by omega, Nat.le_refl _⟩⟩
theorem push6 (h : AHeap) (a b c d e f : AObj) : let H := (((((h.push a).push b).push c).push d).push e).push f
    H.n = h.n + 6 ∧ H.get h.n = a ∧ H.get (h.n + 1) = b ∧ H.get (h.n + 3) = d ∧ H.get (h.n + 4) = e ∧ H.get (h.n + 5) = f ∧ Keep h H none_ := by
  intro H
  refine ⟨rfl, ?_, ?_, ?_, ?_, ?_, (((((Keep.push _ _ _).then_push _).then_push _).then_push _).then_push _).then_push _⟩ <;> simp only [H, AHeap.push] <;> repeat first | rfl | rw [if_pos trivial] | rw [if_pos rfl] | rw [if_neg (by omega)]
set_option maxHeartbeats 1000000 in
set_option maxRecDepth 10000 in
theorem pChain (h : AHeap) : SCalls Tryd.prog 39 [] h (fun r h' => ∃ F, r = .agg [.sl F 0 3 3, .int .i64 2] ∧ h.n ≤ F ∧ F < h'.n ∧ h'.get F = .cells (chain0.flatMap encX) 47 none ∧ Keep h h' none_) := by
  refine SCalls.cast ?_
  refine SCalls.enterI (c := _) Tryd.func39 rfl (by kernel_rfl) (by simp) ?_
  obtain ⟨n6, ga, gb, gd, ge, gf, k6⟩ := push6 h (.cells [.snil, .int .i64 0] 24 none) (.cells [.int .i64 5, .int .i64 0, .snil, .int .i64 3, .int .i64 0, .snil] 45 none) (.cells [.int .i64 6, .int .i64 0, .sl (h.n + 1) 0 2 2] 45 none) (.cells [.int .i64 0] 3 none) (.cells [.int .i64 1] 3 none) (.cells [.int .i64 1, .snil, .int .i64 0, .int .i64 0, .snil, .int .i64 0, .int .i64 6, .sl (h.n + 1 + 1 + 1) 0 1 1, .int .i64 6, .int .i64 0, .sl (h.n + 1) 0 2 2, .int .i64 0, .int .i64 10, .sl (h.n + 1 + 1 + 1 + 1) 0 1 1, .int .i64 0, .int .i64 0, .snil, .int .i64 0] 47 none)
  simp only [wpA_region, wpA_seq, seqQ_normal, goI_out, goI_ops, opsA_nil, opsA_cons, stepA_alloc, stepA_build, stepA_buildSlice, stepA_load, stepA_store, thenV_some, thenH_some, thenS_some, eval_tmp, eval_const, put_some, put_none, absV_int, cells_int, cells_sl, cells_agg, one_int, one_sl, all_nil, all_cons, aLoad_eq, loadGo_row, aPlace_ptr, dropC_cells, aStore_eq, storeGo_ptr, setC_row, setAll_nil, setAll_cons, aAlloc_eq, aBuild_go, aFill_nil, aFill_cons, fillGo_some, buildGo_struct, push_n, get_push3c, get_push4c, set_push3c, List.getElem?_cons_zero, List.getElem?_cons_succ, Nat.reduceEqDiff, Nat.reduceAdd, Nat.reduceLeDiff, reduceCtorEq, List.map_cons, List.map_nil, Option.map_some, Nat.zero_add, Nat.zero_le, List.length_cons, List.length_nil, List.drop_zero, List.take_succ_cons, List.take_nil, List.set_cons_zero, List.set_cons_succ, and_self, if_true, if_false, Bool.and_self, Nat.le_refl, lt_45, pl_24, pl_45, pl_47, zc_24, zc_45, zc_47, zt_24, zt_45, litE2b, litI1, litV3]
  generalize (((((h.push (.cells [.snil, .int .i64 0] 24 none)).push (.cells [.int .i64 5, .int .i64 0, .snil, .int .i64 3, .int .i64 0, .snil] 45 none)).push (.cells [.int .i64 6, .int .i64 0, .sl (h.n + 1) 0 2 2] 45 none)).push (.cells [.int .i64 0] 3 none)).push (.cells [.int .i64 1] 3 none)).push (.cells [.int .i64 1, .snil, .int .i64 0, .int .i64 0, .snil, .int .i64 0, .int .i64 6, .sl (h.n + 1 + 1 + 1) 0 1 1, .int .i64 6, .int .i64 0, .sl (h.n + 1) 0 2 2, .int .i64 0, .int .i64 10, .sl (h.n + 1 + 1 + 1 + 1) 0 1 1, .int .i64 0, .int .i64 0, .snil, .int .i64 0] 47 none) = H at n6 ga gb gd ge gf k6 ⊢
  simp only [wpA_ret, seqQ_normal, endI_mk, goI_out, goI_ops, opsA_nil, thenS_some, put_some, put_none, one_int, one_sl, all_nil, all_cons, aLoad_eq, loadGo_row, aPlace_ptr, dropC_cells, setC_row, setAll_nil, setAll_cons, get_set_same, Nat.reduceAdd, reduceCtorEq, Option.map_some, Nat.zero_add, Nat.zero_le, List.length_cons, List.length_nil, List.drop_zero, List.take_succ_cons, List.take_nil, List.set_cons_zero, List.set_cons_succ, if_true, if_false, Bool.and_self, Nat.le_refl, lt_24, ga, get_set_same, resultsC_1, retA_ret, Tryd.results39, resultsC_1, resultA_cell]
  obtain ⟨H7, hH7⟩ : ∃ x, x = H.set h.n (.cells [.sl (h.n + 1 + 1 + 1 + 1 + 1) 0 3 3, .int .i64 2] 24 none) := ⟨_, rfl⟩
  have k7 : Keep H H7 (· = h.n) := by rw [hH7]; exact Keep.set _ _ _
  have n7 : H7.n = h.n + 6 := by rw [hH7]; exact n6
  have gb7 := (k7.get (h.n + 1) (by omega) (by omega)).trans gb
  have gd7 := (k7.get (h.n + 3) (by omega) (by omega)).trans gd
  have ge7 := (k7.get (h.n + 4) (by omega) (by omega)).trans ge
  have gf7 := (k7.get (h.n + 5) (by omega) (by omega)).trans gf
  obtain ⟨h2, c2, q2⟩ := Cast.own (ownL (e := 3) (sz := 1) (n := 1) (by omega) gd7 rfl (by simp [unk])) (n := 1) rfl (by decide)
  have n2 := q2.n
  have gb2 := (q2.get (h.n + 1) (by omega) (by simp [isId, idOf])).trans gb7
  obtain ⟨h3, c3, q3⟩ := Cast.rowC (es := [Ex.mk 5 0 [], Ex.mk 3 0 []].flatMap encE) (ownL (h := h2) (e := 45) (sz := 3) (n := 2) (by omega) gb2 rfl (by simp [unk])) (CastL.cons (Cast.refl _ _) (CastL.cons (Cast.refl _ _) (CastL.cons (Cast.snil0 _) (CastL.cons (Cast.refl _ _) (CastL.cons (Cast.refl _ _) (CastL.cons (Cast.snil0 _) (CastL.refl _ _))))))) (Keep.refl _ none_) (fun h => h) rfl
  have n3 := q3.n
  have ge3 := (q3.get (h.n + 4) (by omega) (by omega)).trans ((q2.get (h.n + 4) (by omega) (by simp [isId, idOf])).trans ge7)
  obtain ⟨h4, c4, q4⟩ := Cast.own (ownL (h := h3) (e := 3) (sz := 1) (n := 1) (by omega) ge3 rfl (by simp [unk])) (n := 1) rfl (by decide)
  have n4 := q4.n
  have gf4 := (q4.get (h.n + 5) (by omega) (by simp [isId, idOf])).trans ((q3.get (h.n + 5) (by omega) (by omega)).trans ((q2.get (h.n + 5) (by omega) (by simp [isId, idOf])).trans gf7))
  have hch : chain0.flatMap encX = [.int .i64 1, .imm 0 [], .int .i64 0, .int .i64 0, .imm 0 [], .int .i64 0, .int .i64 6, .imm 1 [.int .i64 0], .int .i64 6, .int .i64 0, .imm 2 ([Ex.mk 5 0 [], Ex.mk 3 0 []].flatMap encE), .int .i64 0, .int .i64 10, .imm 1 [.int .i64 1], .int .i64 0, .int .i64 0, .imm 0 [], .int .i64 0] := by
    simp [chain0, chE, encX, encE_eq, i64V]
  have hcl : CastL [.int .i64 1, .snil, .int .i64 0, .int .i64 0, .snil, .int .i64 0, .int .i64 6, .sl (h.n + 3) 0 1 1, .int .i64 6, .int .i64 0, .sl (h.n + 1) 0 2 2, .int .i64 0, .int .i64 10, .sl (h.n + 4) 0 1 1, .int .i64 0, .int .i64 0, .snil, .int .i64 0] H7 (chain0.flatMap encX) h4 := by
    rw [hch]
    exact CastL.cons (Cast.refl (.int .i64 1) _) (CastL.cons (Cast.snil0 _) (CastL.cons (Cast.refl (.int .i64 0) _) (CastL.cons (Cast.refl (.int .i64 0) _) (CastL.cons (Cast.snil0 _) (CastL.cons (Cast.refl (.int .i64 0) _) (CastL.cons (Cast.refl (.int .i64 6) _) (CastL.cons c2 (CastL.cons (Cast.refl (.int .i64 6) _) (CastL.cons (Cast.refl (.int .i64 0) _) (CastL.cons c3 (CastL.cons (Cast.refl (.int .i64 0) _) (CastL.cons (Cast.refl (.int .i64 10) _) (CastL.cons c4 (CastL.cons (Cast.refl (.int .i64 0) _) (CastL.cons (Cast.refl (.int .i64 0) _) (CastL.cons (Cast.snil0 _) (CastL.cons (Cast.refl (.int .i64 0) _) (CastL.refl [] _))))))))))))))))))
  have kE : Keep h (h4.set (h.n + 5) (.cells (chain0.flatMap encX) 47 none)) none_ := by
    refine Keep.setNew (Keep.trans (Keep.trans (Keep.trans (Keep.trans k6 k7 fun q hq e => by omega) q2 fun q hq e => ?_) q3 fun q hq e => by omega) q4 fun q hq e => ?_) (by omega) _
    · simp [isId, idOf] at e; omega
    · simp [isId, idOf] at e; omega
  have hcc := Cast.cellC gf7 hcl gf4 (by rw [hch]; rfl) (.agg [.sl (h.n + 5) 0 3 3, .int .i64 2])
  rw [hH7] at hcc
  refine hid_mk ⟨_, _, hcc, h.n + 5, rfl, by omega, by show h.n + 5 < h4.n; omega, get_set_same, kE⟩

def chain1 : List Vx := chain0 ++ [⟨10, [2], .mk 0 0 [], 1⟩]
theorem okE0 (o n : Int) (ho : -2 ^ 63 ≤ o ∧ o < 2 ^ 63) (hn : -2 ^ 63 ≤ n ∧ n < 2 ^ 63) : OkE (.mk o n []) := .mk o n [] (by simp) (by simp) ho hn
theorem okCh : OkE chE := .mk 6 0 _ (by simp) (by
  intro k hk
  simp at hk
  rcases hk with rfl | rfl
  · exact okE0 5 0 (by omega) (by omega)
  · exact okE0 3 0 (by omega) (by omega)) (by omega) (by omega)
theorem okChain1 : OkT chain1 := by
  refine ⟨by decide, ?_⟩
  intro v hv
  simp only [chain1, chain0, List.cons_append, List.nil_append, List.mem_cons, List.not_mem_nil, or_false] at hv
  rcases hv with rfl | rfl | rfl | rfl
  · exact ⟨okE0 0 0 (by omega) (by omega), by decide, by unfold inR; decide, by unfold inR; decide, by intro f hf; simp at hf <;> (subst hf; unfold inR; omega)⟩
  · exact ⟨okCh, by decide, by unfold inR; decide, by unfold inR; decide, by intro f hf; simp at hf <;> (subst hf; unfold inR; omega)⟩
  · exact ⟨okE0 0 0 (by omega) (by omega), by decide, by unfold inR; decide, by unfold inR; decide, by intro f hf; simp at hf <;> (subst hf; unfold inR; omega)⟩
  · exact ⟨okE0 0 0 (by omega) (by omega), by decide, by unfold inR; decide, by unfold inR; decide, by intro f hf; simp at hf <;> (subst hf; unfold inR; omega)⟩
theorem okChain0 : OkT chain0 := ⟨by decide, fun v hv => okChain1.2 v (by simp only [chain1]; exact List.mem_append_left _ hv)⟩
theorem chk0 : chkT 2 chain0 = (-1, 0) := by decide
theorem chk1 : chkT 2 chain1 = (3, 5) := by decide
theorem us1 : usF 1 0 chain1 = [2] := by decide
end Go.Proofs.YtpmmbcifhallbaaDoor.Pk
