/-
  What functions of the program do, told of abstract states. Conditions: as each theorem says.
-/
import Derived.Test.YtpmmbcifhallbaaDoorTpH
namespace Go.Proofs.YtpmmbcifhallbaaDoor.Pk
open Go Go.Proofs Go.Proofs.YtpmmbcifhallbaaDoor.Ab
set_option linter.unusedVariables false
set_option linter.unusedSimpArgs false

theorem chkV_zero {l : List Vx} {i : Nat} {v : Vx} (h : chkV l i v = 0) : (1 ≤ v.kind ∧ v.kind ≤ 10) ∧ (∀ f ∈ v.frm, 0 ≤ f ∧ f < i) ∧ hasX v = true ∧ takenX l i v = false ∧ (∀ f ∈ v.frm, kindAt l f ≠ 10) := by
  unfold chkV at h
  split at h
  · cases h
  rename_i h1
  split at h
  · cases h
  rename_i h2
  split at h
  · cases h
  rename_i h3
  split at h
  · cases h
  rename_i h4
  split at h
  · cases h
  rename_i h5
  refine ⟨by omega, fun f hf => ?_, by simpa using h3, by simpa using h4, fun f hf hk => ?_⟩
  · have h2' : (v.frm.any fun f => decide (f < 0 ∨ (i : Int) ≤ f)) = false := by simpa using h2
    rw [List.any_eq_false] at h2'
    have := h2' f hf
    simp only [decide_eq_true_eq] at this
    omega
  · exact h5 (List.any_eq_true.2 ⟨f, hf, by simp [hk]⟩)
theorem has_frm {v : Vx} (h1 : 1 ≤ v.kind) (h2 : v.kind ≤ 10) (h : hasX v = true) : (v.kind == 1) = (((v.frm.length : Nat) : Int) == 0) := by
  obtain ⟨k, hk⟩ : ∃ k : Nat, v.kind = (k : Int) := ⟨v.kind.toNat, by omega⟩
  unfold hasX meetsX at h
  rw [hk, Int.toNat_natCast] at h
  simp only [Bool.and_eq_true, decide_eq_true_eq] at h
  have hn := h.1
  have : ∀ k : Nat, k < 11 → 1 ≤ k → ((needsR.getD k (0, 0, 0, 0)).1 == 0) = ((k : Int) == 1) := by decide
  have := this k (by omega) (by omega)
  rw [hk, ← this, hn]
theorem chk_ok {p : Int} {l : List Vx} (h : (chkT p l).2 = 0) : chkT p l = (-1, 0) ∧ (1 ≤ p ∧ p ≤ 8) ∧ 1 ≤ l.length ∧ l.length ≤ 24 ∧ chkF l 0 l = (-1, 0) ∧ ∀ k v, l[k]? = some v → chkV l k v = 0 := by
  unfold chkT at h ⊢
  split at h
  · cases h
  rename_i hn
  rw [if_neg hn]
  obtain ⟨a, b⟩ := chkF_ok h
  exact ⟨a, by omega, by omega, by omega, a, fun k v hk => by simpa using b k v hk⟩

set_option maxHeartbeats 2000000 in
set_option maxRecDepth 10000 in
theorem topoRings (l : List Vx) (p : Int) (hok : OkT l) (h : AHeap) (hg : TG h) : SCalls Tryd.prog 5 [.agg (topE l p)] h (fun r h' => r = .bool true) := by
  have hc : (V.agg (topE l p)).cells = some [.imm l.length (l.flatMap encX), .int .i64 p] := rfl
  obtain ⟨H, hH⟩ : ∃ x, x = h.push (.cells [.imm l.length (l.flatMap encX), .int .i64 p] 24 none) := ⟨_, rfl⟩
  have gt : H.get h.n = .cells [.imm l.length (l.flatMap encX), .int .i64 p] 24 none := by rw [hH]; exact get_push_new
  have kH : Keep h H none_ := by rw [hH]; exact Keep.push _ _ _
  have nH : H.n = h.n + 1 := by rw [hH]; rfl
  have tH := hg.keep kH
  have hag : V.agg [.imm l.length (l.flatMap encX), .int .i64 p] = .agg (topE l p) := rfl
  refine SCalls.enterI (c := _) Tryd.func5 rfl (by kernel_rfl) (by simp) ?_
  simp only [wpA_region, wpA_seq, seqQ_normal, goI_out, goI_ops, opsA_nil, opsA_cons, stepA_assign, stepA_box, stepA_call, thenH_some, eval_tmp, eval_const, enterF_zero, absV_bool, aBox_eq, List.map_nil, Option.map_some, hc, ← hH]
  refine callI_pure cal14 (pShown5 H tH) ?_
  simp only [wpA_region, wpA_seq, seqQ_normal, goI_out, goI_ops, opsA_nil, opsA_cons, stepA_assign, stepA_load, stepA_call, thenV_some, eval_tmp, put_some, enterF_succ, aLoad_eq, loadGo_row, aPlace_ptr, dropC_cells, Nat.reduceEqDiff, Nat.reduceAdd, List.map_cons, List.map_nil, Nat.zero_add, Nat.zero_le, List.length_cons, List.length_nil, List.drop_zero, List.take_succ_cons, List.take_nil, if_true, if_false, Nat.le_refl, lt_24, gt]
  refine callI_pure cal15 (pSmallT l p hok H) ?_
  cases c1 : decide (smF 0 l ≤ 5000)
  · simp only [wpA_region, wpA_seq, wpA_cond, wpA_ret, condI_true, seqQ_normal, seqQ_ret, endI_mk, goI_out, goI_ops, opsA_nil, opsA_cons, stepA_move, stepA_assign, stepA_unOp, thenV_some, eval_tmp, put_some, enterF_succ, aUn_not, Nat.reduceEqDiff, if_true, if_false, Bool.not_false, retA_ret, Tryd.results5, resultsA_1]
    exact hid_mk rfl
  simp only [wpA_skip, wpA_region, wpA_seq, wpA_cond, condI_false, seqQ_normal, goI_out, goI_ops, opsA_nil, opsA_cons, stepA_load, stepA_unOp, stepA_call, thenV_some, eval_tmp, put_some, enterF_succ, aUn_not, aLoad_eq, loadGo_row, aPlace_ptr, dropC_cells, Nat.reduceEqDiff, Nat.reduceAdd, List.map_cons, List.map_nil, Nat.zero_add, Nat.zero_le, List.length_cons, List.length_nil, List.drop_zero, List.take_succ_cons, List.take_nil, if_true, if_false, Bool.not_true, Nat.le_refl, lt_24, gt]
  refine callI_pure cal16 (pCheck l p hok H tH) ?_
  by_cases h0 : (chkT p l).2 = 0
  rotate_left
  · have c2 : ((chkT p l).2 != 0) = true := by simp [h0]
    simp only [wpA_region, wpA_seq, wpA_cond, wpA_ret, condI_true, seqQ_normal, seqQ_ret, endI_mk, goI_out, goI_ops, opsA_nil, opsA_cons, stepA_move, stepA_assign, stepA_binOp, stepA_extract, thenV_some, extV_zero, extV_succ, eval_tmp, eval_const, put_some, enterF_succ, aBin_neq, absV_int, Nat.reduceEqDiff, if_true, if_false, chkA, c2, retA_ret, Tryd.results5, resultsA_1]
    exact hid_mk rfl
  have c2 : ((chkT p l).2 != 0) = false := by simp [h0]
  obtain ⟨_, _, l1, l24, _, hall⟩ := chk_ok h0
  simp only [wpA_skip, wpA_region, wpA_seq, wpA_cond, wpA_block, wpA_loop, condI_false, seqQ_normal, goI_out, goI_ops, opsA_nil, opsA_cons, stepA_move, stepA_assign, stepA_binOp, stepA_extract, thenV_some, extV_zero, extV_succ, eval_tmp, eval_const, put_some, enterF_succ, aBin_neq, absV_int, Nat.reduceEqDiff, if_true, if_false, chkA, c2]
  refine SWp.loopG (α := Nat) (fun i f h' => f 1 = .ptr h.n 0 ∧ f 3 = .bool true ∧ f 6 = .int .i64 (i : Nat) ∧ i ≤ l.length ∧ Keep H h' none_) (fun i => l.length - i) 0 ⟨rfl, rfl, rfl, Nat.zero_le _, Keep.refl _ _⟩ ?_
  rintro i f h1 ⟨f1, f3, f6, hi, k1⟩
  have g1 := (k1.get h.n (by omega) (by simp [none_])).trans gt
  refine wpI_sound (by kernel_rfl) ?_
  by_cases hlt : i < l.length
  rotate_left
  · have c3 : decide ((i : Int) < ((l.length : Nat) : Int)) = false := by simp only [decide_eq_false_iff_not]; omega
    simp only [wpA_region, wpA_seq, wpA_cond, wpA_exit, wpA_ret, condI_false, seqQ_normal, seqQ_exit, blkQ_exit, endI_mk, goE, andThen_exit, goI_out, goI_ops, opsA_nil, opsA_cons, stepA_move, stepA_assign, stepA_load, stepA_binOp, stepA_fieldAddr, stepA_len, thenV_some, eval_tmp, put_some, aBin_lss, aField_eq, fieldGo_ptr, aLoad_eq, loadGo_one, aPlace_ptr, dropC_cells, aLen_imm, Nat.reduceEqDiff, Nat.reduceAdd, Nat.add_zero, Nat.zero_add, Nat.zero_le, List.length_cons, List.length_nil, List.drop_zero, if_true, if_false, ft_24_0, kt_22, lt_22, f1, f3, f6, g1, c3, retA_ret, Tryd.results5, resultsA_1]
    exact hid_mk rfl
  have c3 : decide ((i : Int) < ((l.length : Nat) : Int)) = true := by simp only [decide_eq_true_eq]; omega
  have x0 := rows_ix (kk := .i64) (P := Tryd.prog) encX_len hlt ss_22
  have hv0 := hall i _ (List.getElem?_eq_getElem hlt)
  obtain ⟨vk, vf, vh, _, vs⟩ := chkV_zero hv0
  have hfr := has_frm vk.1 vk.2 vh
  have hki : kindAt l (i : Int) = l[i].kind := (kind_ix hlt).2.2
  generalize hA : l[i] = A at *
  have hX := encX_eq A
  have lr : ∀ (q : List V), loadGo (some (some 6)) (some (encX A ++ q)) = some (.agg (encX A)) := fun q => load_row (encX_len A)
  have hone : (V.agg (encX A)).cells = some (encX A) := rfl
  have hset : setC (some 6) (AObj.cells [.int .i64 0, .snil, .int .i64 0, .int .i64 0, .snil, .int .i64 0] 47 none) 0 (encX A) = some (.cells (encX A) 47 none) := by
    rw [setC_row (n := 6) (encX_len A) (encX_one A), if_pos (by decide), hX]; rfl
  have hl0 : loadGo (some none) (some (encX A)) = some (.int .i64 A.kind) := by rw [hX]; rfl
  have hd0 : dropC (AObj.cells (encX A) 47 none) 0 = some (encX A) := by rw [hX]; rfl
  have hd1 : dropC (AObj.cells (encX A) 47 none) 1 = some [.imm A.frm.length (i64V A.frm), .int .i64 A.e.op, .int .i64 A.e.num, .imm A.e.ks.length (A.e.ks.flatMap encE), .int .i64 A.n] := by rw [hX]; rfl
  obtain ⟨HA, hHA⟩ : ∃ x, x = h1.push (.cells (encX A) 47 none) := ⟨_, rfl⟩
  have gA : HA.get h1.n = .cells (encX A) 47 none := by rw [hHA]; exact get_push_new
  have kA : Keep h1 HA none_ := by rw [hHA]; exact Keep.push _ _ _
  have n1 := k1.n
  have gt2 := (kA.get h.n (by omega) (by simp [none_])).trans g1
  have kAll : Keep H HA none_ := k1.trans' kA
  have w2 : IntKind.i64.wrap (((i : Nat) : Int) + 1) = ((i + 1 : Nat) : Int) := by rw [Go.IntWalk.i64_in _ (by omega)]; omega
  simp only [wpA_skip, wpA_region, wpA_seq, wpA_cond, wpA_block, condI_true, seqQ_normal, goI_out, goI_ops, opsA_nil, opsA_cons, stepA_move, stepA_alloc, stepA_load, stepA_store, stepA_binOp, stepA_fieldAddr, stepA_indexAddr, stepA_len, stepA_call, thenV_some, thenH_some, thenS_some, eval_tmp, put_some, put_none, aBin_lss, aField_eq, fieldGo_ptr, aLoad_eq, loadGo_one, loadGo_row, aPlace_ptr, aPlace_at, dropC_cells, aStore_eq, storeGo_ptr, aAlloc_eq, aLen_imm, get_push_new, set_push, Nat.reduceEqDiff, Nat.reduceAdd, List.map_cons, List.map_nil, Option.map_some, Nat.add_zero, Nat.zero_add, Nat.zero_le, List.length_cons, List.length_nil, List.drop_zero, List.take_succ_cons, List.take_nil, if_true, if_false, Nat.le_refl, ft_24_0, kt_22, lt_22, lt_24, lt_47, zc_47, zt_47, f1, f6, g1, c3, x0, lr, hone, hset, ← hHA, gt2]
  refine callI_pure cal19 (pUsers l p (i : Nat) hok (by omega) HA) ?_
  have hus : ∀ m ∈ usF (i : Nat) 0 l, ∃ (q : Nat) (u : Vx), m = (q : Int) ∧ l[q]? = some u ∧ ((i : Nat) : Int) ∈ u.frm ∧ i < q := by
    intro m hm
    obtain ⟨q, u, e1, e2, e3⟩ := usF_mem.1 hm
    obtain ⟨_, uf, _⟩ := chkV_zero (hall q u e2)
    have := uf _ e3
    exact ⟨q, u, by omega, e2, e3, by omega⟩
  have hsink : A.kind = 10 → usF (i : Nat) 0 l = [] := by
    intro h10
    cases hU : usF (i : Nat) 0 l with
    | nil => rfl
    | cons m r =>
      obtain ⟨q, u, e1, e2, e3, e4⟩ := hus m (by rw [hU]; simp)
      obtain ⟨_, _, _, _, us⟩ := chkV_zero (hall q u e2)
      exact absurd (by rw [hki, h10]) (us _ e3)
  have hul : (usF (i : Nat) 0 l).length ≤ 24 := by have := usF_len (v := (i : Nat)) (l := l) (j := 0); omega
  generalize usF (i : Nat) 0 l = U at hus hsink hul ⊢
  have c4 : ((A.kind == 1) != (((A.frm.length : Nat) : Int) == 0)) = false := by rw [hfr]; simp
  by_cases h10 : A.kind = 10
  · have c5 : (A.kind == 10) = true := by simp [h10]
    have c6 : (((U.length : Nat) : Int) != 0) = false := by rw [hsink h10]; rfl
    simp only [wpA_skip, wpA_region, wpA_seq, wpA_cond, wpA_block, wpA_loop, condI_false, seqQ_normal, goI_out, goI_ops, opsA_nil, opsA_cons, opsA_guardS, gvI_same, slotAt_zero, slotAt_succ, stepA_move, stepA_assign, stepA_pick, stepA_load, stepA_binOp, stepA_fieldAddr, stepA_len, thenV_some, pickV_true, pickV_false, eval_tmp, eval_const, put_some, put_none, aBin_eql, aBin_neq, aBin_bool_neq, absV_int, absV_bool, aField_eq, fieldGo_ptr, aLoad_eq, loadGo_one, aPlace_ptr, aLen_imm, Nat.reduceEqDiff, Nat.add_zero, Nat.zero_add, if_true, if_false, bt_4, ft_47_0, ft_47_1, kt_33, lt_3, lt_33, gA, hl0, hd0, hd1, c4, c5, c6]
    refine SWp.loopG (α := Nat) (fun j f h' => f 1 = .ptr h.n 0 ∧ f 3 = .bool true ∧ f 6 = .int .i64 (i : Nat) ∧ f 8 = .imm U.length (i64V U) ∧ f 9 = .int .i64 (j : Nat) ∧ j ≤ U.length ∧ h' = HA) (fun j => U.length - j) 0 ⟨f1, f3, f6, rfl, rfl, Nat.zero_le _, rfl⟩ ?_
    rintro j f2 h2 ⟨b1, b3, b6, b8, b9, hj, rfl⟩
    refine wpI_sound (by kernel_rfl) ?_
    by_cases hjl : j < U.length
    rotate_left
    · have c7 : decide ((j : Int) < ((U.length : Nat) : Int)) = false := by simp only [decide_eq_false_iff_not]; omega
      simp only [wpA_region, wpA_seq, wpA_cond, wpA_exit, wpA_ret, condI_false, seqQ_normal, seqQ_exit, blkQ_normal, blkQ_exit, endI_mk, goE, andThen_normal, andThen_exit, goI_out, goI_ops, opsA_nil, opsA_cons, stepA_move, stepA_assign, stepA_binOp, stepA_len, thenV_some, eval_tmp, eval_const, put_some, aBin_add, aBin_lss, absV_int, aLen_imm, Nat.reduceEqDiff, reduceCtorEq, if_true, if_false, kt_33, b3, b6, b8, b9, c7, w2]
      exact hid_mk ⟨i + 1, ⟨b1, b3, rfl, by omega, kAll⟩, by omega⟩
    have c7 : decide ((j : Int) < ((U.length : Nat) : Int)) = true := by simp only [decide_eq_true_eq]; omega
    obtain ⟨q, u, e1, e2, e3, e4⟩ := hus U[j] (List.getElem_mem hjl)
    have x1 := i64V_ix' (P := Tryd.prog) (kk := .i64) hjl ss_33
    rw [e1] at x1
    obtain ⟨hq, e2'⟩ := List.getElem?_eq_some_iff.1 e2
    have x2 := rows_ix (kk := .i64) (P := Tryd.prog) encX_len hq ss_22
    rw [e2'] at x2
    obtain ⟨_, ok2, _⟩ := hok.2 u (by rw [← e2']; exact List.getElem_mem hq)
    have hdu : (if 1 ≤ (encX u ++ (l.drop (q + 1)).flatMap encX).length then some (V.at ((encX u ++ (l.drop (q + 1)).flatMap encX).drop 1)) else none) = some (V.at (.imm u.frm.length (i64V u.frm) :: ([.int .i64 u.e.op, .int .i64 u.e.num, .imm u.e.ks.length (u.e.ks.flatMap encE), .int .i64 u.n] ++ (l.drop (q + 1)).flatMap encX))) := by
      rw [if_pos (by rw [List.length_append, encX_len]; omega), encX_eq]
      rfl
    have w3 : IntKind.i64.wrap (((j : Nat) : Int) + 1) = ((j + 1 : Nat) : Int) := by rw [Go.IntWalk.i64_in _ (by omega)]; omega
    simp only [wpA_skip, wpA_region, wpA_seq, wpA_cond, wpA_block, wpA_loop, condI_true, seqQ_normal, goI_out, goI_ops, opsA_nil, opsA_cons, stepA_move, stepA_assign, stepA_binOp, stepA_len, thenV_some, eval_tmp, eval_const, put_some, aBin_lss, absV_int, absV_bool, aLen_imm, Nat.reduceEqDiff, if_true, if_false, kt_33, b8, b9, c7]
    refine SWp.loopG (α := Nat) (fun m f h' => f 1 = .ptr h.n 0 ∧ f 3 = .bool true ∧ f 6 = .int .i64 (i : Nat) ∧ f 8 = .imm U.length (i64V U) ∧ f 9 = .int .i64 (j : Nat) ∧ f 10 = .bool ((u.frm.take m).any fun x => x == (i : Int)) ∧ f 11 = .int .i64 (m : Nat) ∧ m ≤ u.frm.length ∧ h' = h2) (fun m => u.frm.length - m) 0 ⟨b1, b3, b6, b8, b9, rfl, rfl, Nat.zero_le _, rfl⟩ ?_
    rintro m f3' h3 ⟨d1, d3, d6, d8, d9, d10, d11, hm, rfl⟩
    refine wpI_sound (by kernel_rfl) ?_
    simp only [wpA_seq, wpA_draw]
    refine SWp.drawnS none_ [] (.q 0 (.q 1 (.q 2 (.q 3 (.q 4 (.q 5 (.q 6 (.q 7 (.q 8 (.q 9 (.q 10 (.q 11 .done)))))))))))) (by kernel_rfl) (by kernel_rfl) (by kernel_rfl) ?_
    by_cases hml : m < u.frm.length
    rotate_left
    · have c8 : decide ((m : Int) < ((u.frm.length : Nat) : Int)) = false := by simp only [decide_eq_false_iff_not]; omega
      rw [List.take_of_length_le (by omega)] at d10
      have hfd : (u.frm.any fun x => x == (i : Int)) = true := List.any_eq_true.2 ⟨_, e3, by simp⟩
      rw [hfd] at d10
      have c9 : decide ((q : Int) ≤ (i : Int)) = false := by simp only [decide_eq_false_iff_not]; omega
      simp only [siI_done, siI_q, sqI_some, mOk_none', implies_true, qI_nil, qI_cons, thenQ_some, q_move, q_load, q_binOp, q_fieldAddr, q_indexAddr, q_len, wpA_region, wpA_seq, wpA_cond, wpA_exit, wpA_ret, condI_false, seqQ_normal, seqQ_exit, blkQ_normal, blkQ_exit, endI_mk, goE, andThen_normal, andThen_exit, goI_out, goI_ops, goI_mk, opsA_nil, opsA_cons, opsA_guardS, slotAt_zero, slotAt_succ, stepA_move, stepA_assign, stepA_load, stepA_binOp, stepA_indexAddr, thenV_some, eval_tmp, eval_const, put_some, aBin_add, aBin_lss, aBin_leq, absV_int, aField_eq, fieldGo_ptr, fieldGo_at, aLoad_eq, loadGo_one, aPlace_ptr, aPlace_at, dropC_cells, aLen_imm, List.getElem?_cons_zero, List.getElem?_cons_succ, Nat.reduceEqDiff, Nat.reduceAdd, reduceCtorEq, Nat.add_zero, Nat.zero_add, Nat.zero_le, List.length_cons, List.length_nil, List.drop_zero, List.nil_append, List.cons_append, true_and, if_true, if_false, ft_24_0, ft_47_1, kt_33, lt_22, lt_3, lt_33, d1, d3, d6, d8, d9, d11, gt2, x1, x2, hdu, c8]
      simp only [wpA_skip, wpA_region, wpA_cond, condI_false, seqQ_normal, blkQ_normal, endI_mk, andThen_normal, goI_out, goI_ops, opsA_nil, opsA_cons, opsA_guardS, gvI_same, slotAt_zero, slotAt_succ, stepA_move, stepA_assign, stepA_pick, stepA_binOp, stepA_unOp, thenV_some, pickV_false, eval_tmp, eval_const, put_some, aBin_add, aUn_not, absV_int, absV_bool, Nat.reduceEqDiff, if_true, if_false, Bool.not_true, d9, d10, c9, w3]
      exact hid_mk ⟨j + 1, ⟨d1, d3, d6, d8, rfl, by omega, rfl⟩, by omega⟩
    have c8 : decide ((m : Int) < ((u.frm.length : Nat) : Int)) = true := by simp only [decide_eq_true_eq]; omega
    have x3 := i64V_ix' (P := Tryd.prog) (kk := .i64) hml ss_33
    have hsn := any_take_succ (fun x => x == (i : Int)) hml
    have w4 : IntKind.i64.wrap (((m : Nat) : Int) + 1) = ((m + 1 : Nat) : Int) := by rw [Go.IntWalk.i64_in _ (by omega)]; omega
    generalize u.frm[m] = B at x3 hsn
    simp only [siI_done, siI_q, sqI_some, mOk_none', implies_true, qI_nil, qI_cons, thenQ_some, q_move, q_load, q_binOp, q_fieldAddr, q_indexAddr, q_len, wpA_skip, wpA_seq, wpA_cond, wpA_block, wpA_draw, condI_true, seqQ_normal, goI_out, goI_mk, eval_tmp, put_some, aBin_lss, aField_eq, fieldGo_ptr, fieldGo_at, aLoad_eq, loadGo_one, aPlace_ptr, aPlace_at, dropC_cells, aLen_imm, List.getElem?_cons_zero, List.getElem?_cons_succ, Nat.reduceEqDiff, Nat.reduceAdd, Nat.add_zero, Nat.zero_add, Nat.zero_le, List.length_cons, List.length_nil, List.drop_zero, List.nil_append, List.cons_append, true_and, if_true, if_false, ft_24_0, ft_47_1, kt_33, lt_22, lt_3, lt_33, d1, d8, d9, d11, gt2, x1, x2, hdu, c8]
    cases cb : (u.frm.take m).any fun x => x == (i : Int)
    · rw [cb] at d10 hsn
      rw [Bool.false_or] at hsn
      refine SWp.drawnS none_ [] (.q 0 (.q 1 (.q 2 (.q 3 (.q 4 (.q 5 (.q 6 (.q 7 (.q 8 (.q 9 (.q 10 (.q 11 (.q 12 (.q 13 (.q 14 (.q 15 (.q 16 (.q 17 .done)))))))))))))))))) (by kernel_rfl) (by kernel_rfl) (by kernel_rfl) ?_
      simp only [siI_done, siI_q, sqI_some, mOk_none', implies_true, qI_nil, qI_cons, qI_guard, qgI_same, thenQ_some, q_move, q_assign, q_pick, q_load, q_binOp, q_fieldAddr, q_indexAddr, wpA_region, seqQ_normal, blkQ_normal, endI_mk, andThen_normal, goI_out, goI_ops, goI_mk, opsA_nil, opsA_cons, slotAt_zero, slotAt_succ, stepA_move, stepA_assign, stepA_binOp, thenV_some, pickV_false, eval_tmp, eval_const, put_some, aBin_add, aBin_eql, absV_int, absV_bool, aField_eq, fieldGo_ptr, fieldGo_at, aLoad_eq, loadGo_one, aPlace_ptr, aPlace_at, dropC_cells, List.getElem?_cons_zero, List.getElem?_cons_succ, Nat.reduceEqDiff, Nat.reduceAdd, Nat.add_zero, Nat.zero_add, Nat.zero_le, List.length_cons, List.length_nil, List.drop_zero, List.nil_append, List.cons_append, true_and, if_true, if_false, ft_24_0, ft_47_1, lt_22, lt_3, lt_33, d1, d6, d8, d9, d10, d11, gt2, x1, x2, hdu, x3, w4]
      exact hid_mk ⟨m + 1, ⟨d1, d3, d6, d8, d9, by rw [hsn]; rfl, rfl, by omega, rfl⟩, by omega⟩
    · rw [cb] at d10 hsn
      rw [Bool.true_or] at hsn
      refine SWp.drawnS none_ [] (.q 0 (.q 1 (.q 2 (.q 3 (.q 4 (.q 5 (.q 6 (.q 7 (.q 8 (.q 9 (.q 10 (.q 11 (.q 12 (.q 13 (.q 14 (.q 15 (.q 16 (.q 17 .done)))))))))))))))))) (by kernel_rfl) (by kernel_rfl) (by kernel_rfl) ?_
      simp only [siI_done, siI_q, sqI_some, mOk_none', implies_true, qI_nil, qI_cons, qI_guard, qgI_tf, thenQ_some, q_move, q_assign, q_pick, wpA_region, seqQ_normal, blkQ_normal, endI_mk, andThen_normal, goI_out, goI_ops, goI_mk, opsA_nil, opsA_cons, slotAt_zero, slotAt_succ, stepA_move, stepA_assign, stepA_binOp, thenV_some, pickV_true, eval_tmp, eval_const, put_some, aBin_add, absV_int, absV_bool, List.getElem?_cons_zero, List.getElem?_cons_succ, Nat.reduceEqDiff, true_and, if_true, if_false, d10, d11, w4]
      exact hid_mk ⟨m + 1, ⟨d1, d3, d6, d8, d9, by rw [hsn]; rfl, rfl, by omega, rfl⟩, by omega⟩
  · have c5 : (A.kind == 10) = false := by simp [h10]
    simp only [wpA_skip, wpA_region, wpA_seq, wpA_cond, wpA_block, wpA_loop, condI_false, seqQ_normal, goI_out, goI_ops, opsA_nil, opsA_cons, opsA_guardS, gvI_same, gvI_ft, slotAt_zero, slotAt_succ, stepA_move, stepA_assign, stepA_pick, stepA_load, stepA_binOp, stepA_fieldAddr, stepA_len, thenV_some, pickV_false, eval_tmp, eval_const, put_some, put_none, aBin_eql, aBin_bool_neq, absV_int, absV_bool, aField_eq, fieldGo_ptr, aLoad_eq, loadGo_one, aPlace_ptr, aLen_imm, Nat.reduceEqDiff, Nat.add_zero, Nat.zero_add, if_true, if_false, bt_4, ft_47_0, ft_47_1, kt_33, lt_3, lt_33, gA, hl0, hd0, hd1, c4, c5]
    refine SWp.loopG (α := Nat) (fun j f h' => f 1 = .ptr h.n 0 ∧ f 3 = .bool true ∧ f 6 = .int .i64 (i : Nat) ∧ f 8 = .imm U.length (i64V U) ∧ f 9 = .int .i64 (j : Nat) ∧ j ≤ U.length ∧ h' = HA) (fun j => U.length - j) 0 ⟨f1, f3, f6, rfl, rfl, Nat.zero_le _, rfl⟩ ?_
    rintro j f2 h2 ⟨b1, b3, b6, b8, b9, hj, rfl⟩
    refine wpI_sound (by kernel_rfl) ?_
    by_cases hjl : j < U.length
    rotate_left
    · have c7 : decide ((j : Int) < ((U.length : Nat) : Int)) = false := by simp only [decide_eq_false_iff_not]; omega
      simp only [wpA_region, wpA_seq, wpA_cond, wpA_exit, wpA_ret, condI_false, seqQ_normal, seqQ_exit, blkQ_normal, blkQ_exit, endI_mk, goE, andThen_normal, andThen_exit, goI_out, goI_ops, opsA_nil, opsA_cons, stepA_move, stepA_assign, stepA_binOp, stepA_len, thenV_some, eval_tmp, eval_const, put_some, aBin_add, aBin_lss, absV_int, aLen_imm, Nat.reduceEqDiff, reduceCtorEq, if_true, if_false, kt_33, b3, b6, b8, b9, c7, w2]
      exact hid_mk ⟨i + 1, ⟨b1, b3, rfl, by omega, kAll⟩, by omega⟩
    have c7 : decide ((j : Int) < ((U.length : Nat) : Int)) = true := by simp only [decide_eq_true_eq]; omega
    obtain ⟨q, u, e1, e2, e3, e4⟩ := hus U[j] (List.getElem_mem hjl)
    have x1 := i64V_ix' (P := Tryd.prog) (kk := .i64) hjl ss_33
    rw [e1] at x1
    obtain ⟨hq, e2'⟩ := List.getElem?_eq_some_iff.1 e2
    have x2 := rows_ix (kk := .i64) (P := Tryd.prog) encX_len hq ss_22
    rw [e2'] at x2
    obtain ⟨_, ok2, _⟩ := hok.2 u (by rw [← e2']; exact List.getElem_mem hq)
    have hdu : (if 1 ≤ (encX u ++ (l.drop (q + 1)).flatMap encX).length then some (V.at ((encX u ++ (l.drop (q + 1)).flatMap encX).drop 1)) else none) = some (V.at (.imm u.frm.length (i64V u.frm) :: ([.int .i64 u.e.op, .int .i64 u.e.num, .imm u.e.ks.length (u.e.ks.flatMap encE), .int .i64 u.n] ++ (l.drop (q + 1)).flatMap encX))) := by
      rw [if_pos (by rw [List.length_append, encX_len]; omega), encX_eq]
      rfl
    have w3 : IntKind.i64.wrap (((j : Nat) : Int) + 1) = ((j + 1 : Nat) : Int) := by rw [Go.IntWalk.i64_in _ (by omega)]; omega
    simp only [wpA_skip, wpA_region, wpA_seq, wpA_cond, wpA_block, wpA_loop, condI_true, seqQ_normal, goI_out, goI_ops, opsA_nil, opsA_cons, stepA_move, stepA_assign, stepA_binOp, stepA_len, thenV_some, eval_tmp, eval_const, put_some, aBin_lss, absV_int, absV_bool, aLen_imm, Nat.reduceEqDiff, if_true, if_false, kt_33, b8, b9, c7]
    refine SWp.loopG (α := Nat) (fun m f h' => f 1 = .ptr h.n 0 ∧ f 3 = .bool true ∧ f 6 = .int .i64 (i : Nat) ∧ f 8 = .imm U.length (i64V U) ∧ f 9 = .int .i64 (j : Nat) ∧ f 10 = .bool ((u.frm.take m).any fun x => x == (i : Int)) ∧ f 11 = .int .i64 (m : Nat) ∧ m ≤ u.frm.length ∧ h' = h2) (fun m => u.frm.length - m) 0 ⟨b1, b3, b6, b8, b9, rfl, rfl, Nat.zero_le _, rfl⟩ ?_
    rintro m f3' h3 ⟨d1, d3, d6, d8, d9, d10, d11, hm, rfl⟩
    refine wpI_sound (by kernel_rfl) ?_
    simp only [wpA_seq, wpA_draw]
    refine SWp.drawnS none_ [] (.q 0 (.q 1 (.q 2 (.q 3 (.q 4 (.q 5 (.q 6 (.q 7 (.q 8 (.q 9 (.q 10 (.q 11 .done)))))))))))) (by kernel_rfl) (by kernel_rfl) (by kernel_rfl) ?_
    by_cases hml : m < u.frm.length
    rotate_left
    · have c8 : decide ((m : Int) < ((u.frm.length : Nat) : Int)) = false := by simp only [decide_eq_false_iff_not]; omega
      rw [List.take_of_length_le (by omega)] at d10
      have hfd : (u.frm.any fun x => x == (i : Int)) = true := List.any_eq_true.2 ⟨_, e3, by simp⟩
      rw [hfd] at d10
      have c9 : decide ((q : Int) ≤ (i : Int)) = false := by simp only [decide_eq_false_iff_not]; omega
      simp only [siI_done, siI_q, sqI_some, mOk_none', implies_true, qI_nil, qI_cons, thenQ_some, q_move, q_load, q_binOp, q_fieldAddr, q_indexAddr, q_len, wpA_region, wpA_seq, wpA_cond, wpA_exit, wpA_ret, condI_false, seqQ_normal, seqQ_exit, blkQ_normal, blkQ_exit, endI_mk, goE, andThen_normal, andThen_exit, goI_out, goI_ops, goI_mk, opsA_nil, opsA_cons, opsA_guardS, slotAt_zero, slotAt_succ, stepA_move, stepA_assign, stepA_load, stepA_binOp, stepA_indexAddr, thenV_some, eval_tmp, eval_const, put_some, aBin_add, aBin_lss, aBin_leq, absV_int, aField_eq, fieldGo_ptr, fieldGo_at, aLoad_eq, loadGo_one, aPlace_ptr, aPlace_at, dropC_cells, aLen_imm, List.getElem?_cons_zero, List.getElem?_cons_succ, Nat.reduceEqDiff, Nat.reduceAdd, reduceCtorEq, Nat.add_zero, Nat.zero_add, Nat.zero_le, List.length_cons, List.length_nil, List.drop_zero, List.nil_append, List.cons_append, true_and, if_true, if_false, ft_24_0, ft_47_1, kt_33, lt_22, lt_3, lt_33, d1, d3, d6, d8, d9, d11, gt2, x1, x2, hdu, c8]
      simp only [wpA_skip, wpA_region, wpA_cond, condI_false, seqQ_normal, blkQ_normal, endI_mk, andThen_normal, goI_out, goI_ops, opsA_nil, opsA_cons, opsA_guardS, gvI_same, slotAt_zero, slotAt_succ, stepA_move, stepA_assign, stepA_pick, stepA_binOp, stepA_unOp, thenV_some, pickV_false, eval_tmp, eval_const, put_some, aBin_add, aUn_not, absV_int, absV_bool, Nat.reduceEqDiff, if_true, if_false, Bool.not_true, d9, d10, c9, w3]
      exact hid_mk ⟨j + 1, ⟨d1, d3, d6, d8, rfl, by omega, rfl⟩, by omega⟩
    have c8 : decide ((m : Int) < ((u.frm.length : Nat) : Int)) = true := by simp only [decide_eq_true_eq]; omega
    have x3 := i64V_ix' (P := Tryd.prog) (kk := .i64) hml ss_33
    have hsn := any_take_succ (fun x => x == (i : Int)) hml
    have w4 : IntKind.i64.wrap (((m : Nat) : Int) + 1) = ((m + 1 : Nat) : Int) := by rw [Go.IntWalk.i64_in _ (by omega)]; omega
    generalize u.frm[m] = B at x3 hsn
    simp only [siI_done, siI_q, sqI_some, mOk_none', implies_true, qI_nil, qI_cons, thenQ_some, q_move, q_load, q_binOp, q_fieldAddr, q_indexAddr, q_len, wpA_skip, wpA_seq, wpA_cond, wpA_block, wpA_draw, condI_true, seqQ_normal, goI_out, goI_mk, eval_tmp, put_some, aBin_lss, aField_eq, fieldGo_ptr, fieldGo_at, aLoad_eq, loadGo_one, aPlace_ptr, aPlace_at, dropC_cells, aLen_imm, List.getElem?_cons_zero, List.getElem?_cons_succ, Nat.reduceEqDiff, Nat.reduceAdd, Nat.add_zero, Nat.zero_add, Nat.zero_le, List.length_cons, List.length_nil, List.drop_zero, List.nil_append, List.cons_append, true_and, if_true, if_false, ft_24_0, ft_47_1, kt_33, lt_22, lt_3, lt_33, d1, d8, d9, d11, gt2, x1, x2, hdu, c8]
    cases cb : (u.frm.take m).any fun x => x == (i : Int)
    · rw [cb] at d10 hsn
      rw [Bool.false_or] at hsn
      refine SWp.drawnS none_ [] (.q 0 (.q 1 (.q 2 (.q 3 (.q 4 (.q 5 (.q 6 (.q 7 (.q 8 (.q 9 (.q 10 (.q 11 (.q 12 (.q 13 (.q 14 (.q 15 (.q 16 (.q 17 .done)))))))))))))))))) (by kernel_rfl) (by kernel_rfl) (by kernel_rfl) ?_
      simp only [siI_done, siI_q, sqI_some, mOk_none', implies_true, qI_nil, qI_cons, qI_guard, qgI_same, thenQ_some, q_move, q_assign, q_pick, q_load, q_binOp, q_fieldAddr, q_indexAddr, wpA_region, seqQ_normal, blkQ_normal, endI_mk, andThen_normal, goI_out, goI_ops, goI_mk, opsA_nil, opsA_cons, slotAt_zero, slotAt_succ, stepA_move, stepA_assign, stepA_binOp, thenV_some, pickV_false, eval_tmp, eval_const, put_some, aBin_add, aBin_eql, absV_int, absV_bool, aField_eq, fieldGo_ptr, fieldGo_at, aLoad_eq, loadGo_one, aPlace_ptr, aPlace_at, dropC_cells, List.getElem?_cons_zero, List.getElem?_cons_succ, Nat.reduceEqDiff, Nat.reduceAdd, Nat.add_zero, Nat.zero_add, Nat.zero_le, List.length_cons, List.length_nil, List.drop_zero, List.nil_append, List.cons_append, true_and, if_true, if_false, ft_24_0, ft_47_1, lt_22, lt_3, lt_33, d1, d6, d8, d9, d10, d11, gt2, x1, x2, hdu, x3, w4]
      exact hid_mk ⟨m + 1, ⟨d1, d3, d6, d8, d9, by rw [hsn]; rfl, rfl, by omega, rfl⟩, by omega⟩
    · rw [cb] at d10 hsn
      rw [Bool.true_or] at hsn
      refine SWp.drawnS none_ [] (.q 0 (.q 1 (.q 2 (.q 3 (.q 4 (.q 5 (.q 6 (.q 7 (.q 8 (.q 9 (.q 10 (.q 11 (.q 12 (.q 13 (.q 14 (.q 15 (.q 16 (.q 17 .done)))))))))))))))))) (by kernel_rfl) (by kernel_rfl) (by kernel_rfl) ?_
      simp only [siI_done, siI_q, sqI_some, mOk_none', implies_true, qI_nil, qI_cons, qI_guard, qgI_tf, thenQ_some, q_move, q_assign, q_pick, wpA_region, seqQ_normal, blkQ_normal, endI_mk, andThen_normal, goI_out, goI_ops, goI_mk, opsA_nil, opsA_cons, slotAt_zero, slotAt_succ, stepA_move, stepA_assign, stepA_binOp, thenV_some, pickV_true, eval_tmp, eval_const, put_some, aBin_add, absV_int, absV_bool, List.getElem?_cons_zero, List.getElem?_cons_succ, Nat.reduceEqDiff, true_and, if_true, if_false, d10, d11, w4]
      exact hid_mk ⟨m + 1, ⟨d1, d3, d6, d8, d9, by rw [hsn]; rfl, rfl, by omega, rfl⟩, by omega⟩
end Go.Proofs.YtpmmbcifhallbaaDoor.Pk
