/-
  What functions of the program do, told of abstract states. Conditions: as each theorem says.
-/
import Derived.Test.YtpobgoeeljknpaaDoorExO
namespace Go.Proofs.YtpobgoeeljknpaaDoor.Pk
open Go Go.Proofs Go.Proofs.YtpobgoeeljknpaaDoor.Ab
set_option linter.unusedVariables false
set_option linter.unusedSimpArgs false

theorem useL_snoc {op : Int} : ∀ {l : List Ex} {i : Nat}, (hi : i < l.length) → useL op (l.take (i + 1)) = (useL op (l.take i) || useX op l[i])
  | [], i, hi => by simp at hi
  | a :: r, 0, hi => by simp [useL]
  | a :: r, i + 1, hi => by
    simp only [List.take_succ_cons, useL, List.getElem_cons_succ]
    rw [useL_snoc (by simpa using hi), Bool.or_assoc]
set_option maxRecDepth 10000 in
theorem pUsesR (op : Int) : ∀ (s : Nat) (e : Ex) (h : AHeap), szE e = s → OkE e → Pure Tryd.prog 25 [.agg (encE e), .int .i64 op] h (.bool (useX op e)) := by
  intro s
  induction s using Nat.strongRecOn with
  | _ s ih =>
  intro e h hs hok
  obtain ⟨o, n, ks⟩ := e
  refine Pure.val (Clo.bool _) ?_
  have hlen := hok.len
  simp only [Ex.ks] at hlen
  refine SCalls.enterI (c := _) Tryd.func25 rfl (by kernel_rfl) (by simp) ?_
  have hc : (V.agg (encE (.mk o n ks))).cells = some (encE (.mk o n ks)) := rfl
  have hd0 : dropC (AObj.cells (encE (.mk o n ks)) 25 none) 0 = some [.int .i64 o, .int .i64 n, .imm ks.length (ks.flatMap encE)] := by rw [encE_eq]; rfl
  have hd2 : dropC (AObj.cells (encE (.mk o n ks)) 25 none) 2 = some [.imm ks.length (ks.flatMap encE)] := by rw [encE_eq]; rfl
  simp only [wpA_region, wpA_seq, wpA_block, wpA_loop, seqQ_normal, goI_out, goI_ops, opsA_nil, opsA_cons, stepA_move, stepA_assign, stepA_box, stepA_load, stepA_binOp, stepA_fieldAddr, thenV_some, thenH_some, eval_tmp, eval_const, put_some, enterF_zero, enterF_succ, aBin_eql, absV_int, absV_bool, aField_eq, fieldGo_ptr, aLoad_eq, loadGo_one, aPlace_ptr, aBox_eq, get_push_new, Nat.reduceEqDiff, Option.map_some, Nat.add_zero, if_true, if_false, ft_25_0, lt_3, hc, hd0]
  refine SWp.loopG (α := Nat) (fun i f h' => f 1 = .int .i64 op ∧ f 2 = .ptr h.n 0 ∧ f 6 = .int .i64 (i : Nat) ∧ f 5 = .bool (o == op || useL op (ks.take i)) ∧ i ≤ ks.length ∧ h' = h.push (.cells (encE (.mk o n ks)) 25 none)) (fun i => ks.length - i) 0 ⟨rfl, rfl, rfl, (show V.bool _ = _ by simp [useL]), Nat.zero_le _, rfl⟩ ?_
  rintro i f h' ⟨f1, f2, f6, f5, hi, rfl⟩
  refine wpI_sound (by kernel_rfl) ?_
  by_cases hlt : i < ks.length
  rotate_left
  · have c3 : decide ((i : Int) < ((ks.length : Nat) : Int)) = false := by simp only [decide_eq_false_iff_not]; omega
    rw [List.take_of_length_le (by omega)] at f5
    simp only [wpA_region, wpA_seq, wpA_cond, wpA_exit, wpA_ret, condI_false, seqQ_normal, seqQ_exit, blkQ_exit, endI_mk, goE, andThen_exit, goI_out, goI_ops, opsA_nil, opsA_cons, stepA_move, stepA_assign, stepA_load, stepA_binOp, stepA_fieldAddr, stepA_len, thenV_some, eval_tmp, put_some, aBin_lss, aField_eq, fieldGo_ptr, aLoad_eq, loadGo_one, aPlace_ptr, aLen_imm, get_push_new, Nat.reduceEqDiff, Nat.zero_add, if_true, if_false, ft_25_2, kt_23, lt_23, f2, f6, f5, hd2, c3, retA_ret, Tryd.results25, resultsA_1]
    exact hid_mk ⟨by simp [useX], Keep.push _ _ _⟩
  · have c3 : decide ((i : Int) < ((ks.length : Nat) : Int)) = true := by simp only [decide_eq_true_eq]; omega
    have x0 := ex_ix (kk := .i64) hlt
    have hsn := useL_snoc (op := op) hlt
    have hkid : ks[i] ∈ (Ex.mk o n ks).ks := List.getElem_mem hlt
    have hlt2 := szE_kid _ hkid
    have hok2 := hok.kid _ hkid
    generalize ks[i] = A at *
    have lr : ∀ (q : List V), loadGo (some (some 3)) (some (encE A ++ q)) = some (.agg (encE A)) := fun q => load_row (encE_len A)
    have w2 : IntKind.i64.wrap (((i : Nat) : Int) + 1) = ((i + 1 : Nat) : Int) := by rw [Go.IntWalk.i64_in _ (by omega)]; omega
    simp only [wpA_skip, wpA_region, wpA_seq, wpA_cond, wpA_block, condI_true, seqQ_normal, goI_out, goI_ops, opsA_nil, opsA_cons, stepA_move, stepA_load, stepA_binOp, stepA_fieldAddr, stepA_indexAddr, stepA_len, stepA_call, thenV_some, eval_tmp, put_some, aBin_lss, aField_eq, fieldGo_ptr, aLoad_eq, loadGo_one, aPlace_ptr, aPlace_at, aLen_imm, get_push_new, Nat.reduceEqDiff, List.map_cons, List.map_nil, Nat.zero_add, if_true, if_false, ft_25_2, kt_23, lt_23, lt_25, f1, f2, f6, hd2, c3, x0, lr]
    refine callI_pure cal25 (ih (szE A) (by omega) A _ rfl hok2) ?_
    cases hb : (o == op || useL op (ks.take i)) with
    | true =>
      rw [hb] at f5
      simp only [wpA_region, seqQ_normal, blkQ_normal, endI_mk, andThen_normal, goI_out, goI_ops, opsA_nil, opsA_cons, opsA_guardS, gvI_tf, slotAt_zero, slotAt_succ, stepA_move, stepA_assign, stepA_pick, stepA_binOp, thenV_some, pickV_true, eval_tmp, eval_const, put_some, aBin_add, absV_int, absV_bool, Nat.reduceEqDiff, if_true, if_false, f6, f5, w2]
      exact hid_mk ⟨i + 1, ⟨f1, f2, rfl, (show V.bool true = _ by rw [hsn, ← Bool.or_assoc, hb]; rfl), by omega, rfl⟩, by omega⟩
    | false =>
      rw [hb] at f5
      cases hu : useX op A <;>
      · simp only [wpA_region, seqQ_normal, blkQ_normal, endI_mk, andThen_normal, goI_out, goI_ops, opsA_nil, opsA_cons, opsA_guardS, gvI_same, slotAt_zero, slotAt_succ, stepA_move, stepA_assign, stepA_pick, stepA_binOp, thenV_some, pickV_false, eval_tmp, eval_const, put_some, aBin_add, absV_int, absV_bool, Nat.reduceEqDiff, if_true, if_false, f6, f5, w2]
        exact hid_mk ⟨i + 1, ⟨f1, f2, rfl, (show V.bool _ = _ by rw [hsn, ← Bool.or_assoc, hb, hu]; rfl), by omega, rfl⟩, by omega⟩

theorem evR_two (rk rv rt acc : Int) (e : Ex) : ∃ x y, evR rk rv rt acc e = .tuple [.int .i64 x, .int .i64 y] := by
  unfold evR
  split
  · cases valF rk rv rt acc 16 e <;> exact ⟨_, _, rfl⟩
  · exact ⟨_, _, rfl⟩

set_option maxHeartbeats 1000000 in
set_option maxRecDepth 10000 in
theorem exprValues (e : Ex) (hok : OkE e) (rk rv rt acc op : Int) (i1 : inR rk) (i2 : inR rv) (i3 : inR rt) (i4 : inR acc) (h : AHeap) (hg : KG h) :
    SCalls Tryd.prog 7 [.agg (encE e), .agg [.int .i64 rk, .int .i64 rv, .int .i64 rt], .int .i64 acc, .int .i64 op] h (fun r h' => r = .bool true) := by
  refine SCalls.enterI (c := _) Tryd.func7 rfl (by kernel_rfl) (by simp) ?_
  have hc : (V.agg (encE e)).cells = some (encE e) := rfl
  have hdr : dropC (AObj.cells (encE e) 25 none) 0 = some (encE e) := by cases e; rfl
  have hld : loadGo (some (some 3)) (some (encE e)) = some (.agg (encE e)) := by cases e; rfl
  simp only [wpA_region, wpA_seq, seqQ_normal, goI_out, goI_ops, opsA_nil, opsA_cons, stepA_assign, stepA_box, stepA_call, thenH_some, eval_tmp, eval_const, put_some, enterF_zero, enterF_succ, absV_bool, cells_agg, aBox_eq, push_n, Nat.reduceEqDiff, List.map_nil, Option.map_some, if_false, hc]
  obtain ⟨H, hH⟩ : ∃ x, x = (h.push (.cells (encE e) 25 none)).push (.cells [.int .i64 rk, .int .i64 rv, .int .i64 rt] 32 none) := ⟨_, rfl⟩
  have g3 : H.get h.n = .cells (encE e) 25 none := by rw [hH]; exact get_push2'
  have g4 : H.get (h.n + 1) = .cells [.int .i64 rk, .int .i64 rv, .int .i64 rt] 32 none := by rw [hH]; exact get_push2
  have kH : Keep h H none_ := by rw [hH]; exact (Keep.push _ _ _).then_push _
  have gH : KG H := hg.keep kH
  rw [← hH]
  refine callI_pure cal15 (pShown4 H gH) ?_
  simp only [wpA_region, wpA_seq, seqQ_normal, goI_out, goI_ops, opsA_nil, opsA_cons, stepA_assign, stepA_load, stepA_call, thenV_some, eval_tmp, put_some, enterF_succ, aLoad_eq, aPlace_ptr, Nat.reduceEqDiff, List.map_cons, List.map_nil, if_true, if_false, lt_25, g3, hdr, hld]
  refine callI_pure cal19 (pSmall e H hok) ?_
  by_cases hs : IntKind.i64.wrap (szE e : Nat) ≤ 2000
  rotate_left
  · have c : decide (IntKind.i64.wrap (szE e : Nat) ≤ 2000) = false := by simpa using hs
    simp only [wpA_region, wpA_seq, wpA_cond, wpA_ret, condI_true, seqQ_normal, seqQ_ret, endI_mk, goI_out, goI_ops, opsA_nil, opsA_cons, stepA_move, stepA_assign, stepA_unOp, thenV_some, eval_tmp, put_some, enterF_succ, aUn_not, Nat.reduceEqDiff, if_true, if_false, Bool.not_false, c, retA_ret, Tryd.results7, resultsA_1]
    exact hid_mk rfl
  have c : decide (IntKind.i64.wrap (szE e : Nat) ≤ 2000) = true := by simpa using hs
  obtain ⟨x, y, hxy⟩ := evR_two rk rv rt acc e
  simp only [wpA_skip, wpA_region, wpA_seq, wpA_cond, condI_false, seqQ_normal, goI_out, goI_ops, opsA_nil, opsA_cons, stepA_move, stepA_load, stepA_unOp, stepA_call, thenV_some, eval_tmp, put_some, enterF_zero, enterF_succ, aUn_not, aLoad_eq, loadGo_row, aPlace_ptr, dropC_cells, Nat.reduceEqDiff, Nat.reduceAdd, List.map_cons, List.map_nil, Nat.zero_add, Nat.zero_le, List.length_cons, List.length_nil, List.drop_zero, List.take_succ_cons, List.take_nil, if_true, if_false, Bool.not_true, Nat.le_refl, lt_25, lt_32, c, g3, g4, hdr, hld]
  refine callI_pure cal18 (pEvalX e rk rv rt acc H gH) ?_
  simp only [wpA_region, wpA_seq, seqQ_normal, goI_out, goI_ops, opsA_nil, opsA_cons, stepA_move, stepA_assign, stepA_load, stepA_extract, stepA_call, thenV_some, extV_zero, extV_succ, eval_tmp, put_some, enterF_zero, enterF_succ, aLoad_eq, loadGo_row, aPlace_ptr, dropC_cells, Nat.reduceEqDiff, Nat.reduceAdd, List.map_cons, List.map_nil, Nat.zero_add, Nat.zero_le, List.length_cons, List.length_nil, List.drop_zero, List.take_succ_cons, List.take_nil, if_true, if_false, Nat.le_refl, lt_25, lt_32, hxy, g3, g4, hdr, hld]
  refine callI_pure cal24 (pEvalR e hok rk rv rt acc i1 i2 i3 i4 H) ?_
  have t1 : ∀ x : Int, (x == x) = true := fun x => by simp
  have t2 : ∀ x : Bool, (x == x) = true := fun x => by simp
  simp only [wpA_seq, wpA_draw, seqQ_normal, goI_out, goI_ops, opsA_nil, opsA_cons, stepA_move, stepA_assign, stepA_extract, thenV_some, extV_zero, extV_succ, eval_tmp, put_some, enterF_succ, Nat.reduceEqDiff, if_true, if_false, hxy]
  refine SWp.drawnS none_ [] (.q 0 (.q 1 (.q 2 (.q 3 (.q 4 (.q 5 (.q 6 (.q 7 (.q 8 (.q 9 (.q 10 (.q 11 (.q 12 (.c 13 (.q 14 (.c 15 (.q 16 (.q 17 (.q 18 (.q 19 (.q 20 (.c 21 (.q 22 (.q 23 (.c 24 (.q 25 (.q 26 (.q 27 .done)))))))))))))))))))))))))))) (by kernel_rfl) (by kernel_rfl) (by kernel_rfl) ?_
  simp only [siI_q, sqI_some, mOk_none', implies_true, qI_nil, qI_cons, qI_guard, qgI_same, thenQ_some, q_move, q_pick, q_load, q_binOp, goI_mk, slotAt_zero, slotAt_succ, pickV_true, eval_tmp, eval_const, put_some, enterF_succ, aBin_eql, absV_bool, aLoad_eq, aPlace_ptr, List.getElem?_cons_zero, List.getElem?_cons_succ, beq_self_eq_true, Nat.reduceEqDiff, true_and, if_true, if_false, lt_25, g3, hdr, hld]
  refine siI_c rfl rfl rfl (fun h' hk => pMay e h' (gH.or gH hk)) ?_
  simp only [siI_q, sqI_some, mOk_none', implies_true, qI_nil, qI_guard, qgI_same, thenQ_some, q_load, goI_mk, slotAt_zero, slotAt_succ, eval_tmp, put_some, enterF_succ, aLoad_eq, aPlace_ptr, List.getElem?_cons_zero, List.getElem?_cons_succ, Nat.reduceEqDiff, true_and, if_true, if_false, lt_25, g3, hdr, hld]
  refine siI_c rfl rfl rfl (fun h' hk => pMayR e hok h') ?_
  simp only [siI_q, sqI_some, mOk_none', implies_true, qI_nil, qI_cons, qI_guard, qgI_same, thenQ_some, q_move, q_pick, q_load, q_binOp, goI_mk, slotAt_zero, slotAt_succ, pickV_true, eval_tmp, eval_const, put_some, enterF_zero, enterF_succ, aBin_bool_eql, absV_bool, aLoad_eq, aPlace_ptr, List.getElem?_cons_zero, List.getElem?_cons_succ, beq_self_eq_true, Nat.reduceEqDiff, true_and, if_true, if_false, bt_4, lt_25, g3, hdr, hld]
  refine siI_c rfl rfl rfl (fun h' hk => pUses op _ e h' rfl hok) ?_
  simp only [siI_q, sqI_some, mOk_none', implies_true, qI_nil, qI_guard, qgI_same, thenQ_some, q_move, q_load, goI_mk, slotAt_zero, slotAt_succ, eval_tmp, put_some, enterF_zero, enterF_succ, aLoad_eq, aPlace_ptr, List.getElem?_cons_zero, List.getElem?_cons_succ, Nat.reduceEqDiff, true_and, if_true, if_false, lt_25, g3, hdr, hld]
  refine siI_c rfl rfl rfl (fun h' hk => pUsesR op _ e h' rfl hok) ?_
  simp only [siI_done, siI_q, sqI_some, mOk_none', implies_true, qI_nil, qI_cons, qI_guard, qgI_same, thenQ_some, q_assign, q_pick, q_binOp, wpA_ret, seqQ_normal, endI_mk, goI_out, goI_mk, slotAt_zero, slotAt_succ, pickV_true, eval_tmp, eval_const, put_some, enterF_succ, aBin_bool_eql, absV_bool, List.getElem?_cons_zero, List.getElem?_cons_succ, beq_self_eq_true, Nat.reduceEqDiff, true_and, if_true, if_false, bt_4, retA_ret, Tryd.results7, resultsA_1]
  exact hid_mk rfl
end Go.Proofs.YtpobgoeeljknpaaDoor.Pk
