/-
  What functions of the program do, told of abstract states. Conditions: as each theorem says.
-/
import Derived.Test.YtpobgoeeljknpaaDoorExW
namespace Go.Proofs.YtpobgoeeljknpaaDoor.Pk
open Go Go.Proofs Go.Proofs.YtpobgoeeljknpaaDoor.Ab
set_option linter.unusedVariables false
set_option linter.unusedSimpArgs false
def strB (l : List Nat) : ByteArray := strOfNums (l.map fun n : Nat => (n : Int))
theorem convB (l : List Nat) (h : AHeap) : aConv Tryd.prog 43 9 (.imm l.length (bytesV l)) h = some (.string (strB l)) := by
  have := conv_imm (P := Tryd.prog) (s := 43) (d := 9) (h := h) (n := l.length) (ns := l.map fun n : Nat => (n : Int)) (by kernel_rfl) st_9 (by simp)
  rw [List.map_map] at this
  exact this
set_option maxRecDepth 10000 in
theorem pOfR (bs : List Nat) (h : AHeap) (hb : ∀ b ∈ bs, b < 256) (hl : bs.length ≤ 2 ^ 47) : Pure Tryd.prog 29 [.imm bs.length (bytesV bs)] h (ofV bs) := by
  refine Pure.of (ofV_clo bs) ?_
  refine SCalls.enterI (c := _) Tryd.func29 rfl (by kernel_rfl) (by simp) ?_
  obtain ⟨H0, hH0⟩ : ∃ y, y = h.push (.cells [.int .i64 0, .int .i64 0, .snil] 25 none) := ⟨_, rfl⟩
  have k0 : Keep h H0 none_ := by rw [hH0]; exact Keep.push _ _ _
  have g0 : H0.get h.n = .cells [.int .i64 0, .int .i64 0, .snil] 25 none := by rw [hH0]; exact get_push_new
  have n0 : H0.n = h.n + 1 := by rw [hH0]; rfl
  simp only [wpA_region, wpA_seq, seqQ_normal, goI_out, goI_ops, opsA_nil, opsA_cons, stepA_move, stepA_assign, stepA_alloc, stepA_call, thenH_some, eval_tmp, eval_const, put_some, enterF_zero, enterF_succ, absV_int, aAlloc_eq, Nat.reduceEqDiff, reduceCtorEq, List.map_cons, List.map_nil, Option.map_some, if_true, if_false, zc_25]
  rw [← hH0]
  clear hH0
  refine callI_pure cal48 (pGet 16 64 bs H0 (by decide) (by decide) hb hl) ?_
  cases hx : getX 16 64 bs with
  | error c =>
    have hc0 := getX_err _ _ _ _ hx
    have c1 : (((c : Nat) : Int) != 0) = true := by simp; omega
    have hE : ofX bs = .error c := by unfold ofX; rw [hx]
    have hV : ofV bs = .tuple [.agg (encE (.mk 0 0 [])), .int .i64 (c : Nat)] := by unfold ofV ofE ofC; rw [hE]
    rw [hV]
    simp only [gxC]
    have kZ : Keep H0 (H0.push (.cells [V.int .i64 0, V.int .i64 0, V.imm 0 [], V.imm 0 [], V.int .i64 0, V.int .i64 (c : Nat)] 84 none)) none_ := Keep.push _ _ _
    have g4Z := (kZ.get h.n (by omega) (by simp [none_])).trans g0
    have kFin : ∀ X, Keep h ((H0.push (.cells [V.int .i64 0, V.int .i64 0, V.imm 0 [], V.imm 0 [], V.int .i64 0, V.int .i64 (c : Nat)] 84 none)).set h.n X) none_ := fun X => ((k0.trans' kZ).trans (Keep.set _ h.n X) fun q hq hh => by have h1 : q = h.n := hh; have h2 : q < h.n := hq; omega)
    simp only [wpA_region, wpA_seq, wpA_cond, wpA_draw, condI_true, seqQ_normal, goI_out, goI_ops, opsA_nil, opsA_cons, stepA_alloc, stepA_load, stepA_store, stepA_binOp, stepA_fieldAddr, thenV_some, thenH_some, thenS_some, eval_tmp, eval_const, put_some, put_none, enterF_succ, aBin_neq, absV_int, cells_agg, one_int, one_imm, all_nil, all_cons, aField_eq, fieldGo_ptr, aLoad_eq, loadGo_one, aPlace_ptr, dropC_cells, aStore_eq, storeGo_ptr, setC_row, setAll_nil, setAll_cons, aAlloc_eq, get_push_new, set_push, Nat.reduceEqDiff, Nat.reduceAdd, Nat.reduceLeDiff, Option.map_some, Nat.zero_add, List.length_cons, List.length_nil, List.drop_zero, List.drop_succ_cons, List.set_cons_zero, List.set_cons_succ, if_true, if_false, Bool.and_self, Nat.le_refl, ft_84_3, lt_3, zc_84, zt_84, c1]
    have fne : (H0.n = h.n) = False := eq_false (by omega)
    refine SWp.drawnS (fun x => x = h.n) [3] (.q 0 (.q 1 (.q 2 (.e 3 (.q 4 .done) .stop)))) (by kernel_rfl) (by kernel_rfl) (by kernel_rfl) ?_
    simp only [keepS, mOk_assign, mOk_build, mOk_fieldAddr, mOk_load, mOkV_ptr, nne2, nne3, nne4, nne1', nne2', nne3', not_false_eq_true, siI_done, siI_stop, siI_q, siI_e, sqI_some, seI_some, implies_true, qI_nil, qI_cons, thenQ_some, q_assign, q_load, q_build, q_fieldAddr, wpA_ret, seqQ_normal, seqQ_ret, endI_mk, goI_out, goI_ops, goI_mk, opsA_nil, opsA_cons, stepA_store, thenS_some, eval_tmp, put_some, put_none, enterF_succ, cells_agg, one_int, one_snil, all_nil, all_cons, aField_eq, fieldGo_ptr, aLoad_eq, loadGo_one, loadGo_row, aPlace_ptr, dropC_cells, aStore_eq, storeGo_ptr, setC_row, setAll_nil, setAll_cons, aBuild_go, aFill_nil, buildGo_struct, get_push_new, get_set_same, List.getElem?_cons_zero, List.getElem?_cons_succ, Bool.false_eq_true, Nat.reduceEqDiff, Nat.reduceAdd, Nat.reduceLeDiff, List.map_nil, Option.map_some, Nat.zero_add, Nat.zero_le, List.length_cons, List.length_nil, List.drop_zero, List.drop_succ_cons, List.take_succ_cons, List.take_nil, List.set_cons_zero, List.set_cons_succ, and_true, true_and, if_true, if_false, Bool.and_self, Nat.le_refl, ft_84_3, lt_25, lt_3, pl_25, zc_25, zt_25, g4Z, fne, retA_ret, Tryd.results29, resultsC_2, resultA_tmp, resultA_cell, res2_some]
    exact hid_mk ⟨_, errC _ c, kFin _⟩
  | ok r =>
    obtain ⟨e, b', l'⟩ := r
    obtain ⟨o, n, ks⟩ := e
    have z0 : ((0 : Int) != 0) = false := rfl
    simp only [gxC]
    rw [encE_eq]
    have kZ : Keep H0 (H0.push (.cells [V.int .i64 o, V.int .i64 n, V.imm ks.length (ks.flatMap encE), V.imm b'.length (bytesV b'), V.int .i64 (l' : Nat), V.int .i64 0] 84 none)) none_ := Keep.push _ _ _
    have g4Z := (kZ.get h.n (by omega) (by simp [none_])).trans g0
    have kFin : ∀ X, Keep h ((H0.push (.cells [V.int .i64 o, V.int .i64 n, V.imm ks.length (ks.flatMap encE), V.imm b'.length (bytesV b'), V.int .i64 (l' : Nat), V.int .i64 0] 84 none)).set h.n X) none_ := fun X => ((k0.trans' kZ).trans (Keep.set _ h.n X) fun q hq hh => by have h1 : q = h.n := hh; have h2 : q < h.n := hq; omega)
    have stX : setC (some 3) (AObj.cells [V.int .i64 0, V.int .i64 0, V.snil] 25 none) 0 [V.int .i64 o, V.int .i64 n, V.imm ks.length (ks.flatMap encE)] = some (.cells [V.int .i64 o, V.int .i64 n, V.imm ks.length (ks.flatMap encE)] 25 none) := rfl
    by_cases hb0 : b'.length = 0
    · have c1 : (((b'.length : Nat) : Int) != 0) = false := by rw [hb0]; rfl
      have hE : ofX bs = .ok (.mk o n ks) := by unfold ofX; rw [hx]; simp only; rw [if_pos hb0]
      have hV : ofV bs = .tuple [.agg [V.int .i64 o, V.int .i64 n, V.imm ks.length (ks.flatMap encE)], .int .i64 0] := by unfold ofV ofE ofC; rw [hE]; simp only; rw [encE_eq]; rfl
      rw [hV]
      simp only [wpA_skip, wpA_region, wpA_seq, wpA_cond, wpA_ret, condI_false, seqQ_normal, endI_mk, goI_out, goI_ops, opsA_nil, opsA_cons, stepA_assign, stepA_alloc, stepA_load, stepA_store, stepA_binOp, stepA_fieldAddr, stepA_len, thenV_some, thenH_some, thenS_some, eval_tmp, eval_const, put_some, put_none, enterF_succ, aBin_neq, absV_int, cells_agg, one_int, one_imm, all_nil, all_cons, aField_eq, fieldGo_ptr, aLoad_eq, loadGo_one, loadGo_row, aPlace_ptr, dropC_cells, aStore_eq, storeGo_ptr, setC_row, setAll_nil, setAll_cons, aAlloc_eq, aLen_imm, get_push_new, get_set_same, set_push, bne_self_eq_false, Nat.reduceEqDiff, Nat.reduceAdd, Nat.reduceLeDiff, Option.map_some, Nat.add_zero, Nat.zero_add, Nat.zero_le, List.length_cons, List.length_nil, List.drop_zero, List.drop_succ_cons, List.take_succ_cons, List.take_zero, List.take_nil, List.set_cons_zero, List.set_cons_succ, List.nil_append, List.cons_append, if_true, if_false, Bool.and_self, Nat.le_refl, ft_84_0, ft_84_1, ft_84_3, kt_43, lt_25, lt_3, lt_43, zc_84, zt_25, zt_84, List.cons_append, List.nil_append, c1, g4Z, stX, retA_ret, Tryd.results29, resultsC_2, resultA_tmp, resultA_cell, res2_some]
      exact hid_mk ⟨_, Cast.refl _ _, kFin _⟩
    · have c1 : (((b'.length : Nat) : Int) != 0) = true := by simp only [bne_iff_ne, ne_eq]; omega
      have hE : ofX bs = .error 5 := by unfold ofX; rw [hx]; simp only; rw [if_neg hb0]
      have hV : ofV bs = .tuple [.agg (encE (.mk 0 0 [])), .int .i64 (5 : Nat)] := by unfold ofV ofE ofC; rw [hE]
      rw [hV]
      simp only [wpA_skip, wpA_region, wpA_seq, wpA_cond, wpA_ret, condI_true, condI_false, seqQ_normal, seqQ_ret, endI_mk, goI_out, goI_ops, opsA_nil, opsA_cons, stepA_assign, stepA_alloc, stepA_build, stepA_load, stepA_store, stepA_binOp, stepA_fieldAddr, stepA_len, thenV_some, thenH_some, thenS_some, eval_tmp, eval_const, put_some, put_none, enterF_succ, aBin_neq, absV_int, cells_agg, one_int, one_snil, one_imm, all_nil, all_cons, aField_eq, fieldGo_ptr, aLoad_eq, loadGo_one, loadGo_row, aPlace_ptr, dropC_cells, aStore_eq, storeGo_ptr, setC_row, setAll_nil, setAll_cons, aAlloc_eq, aLen_imm, aBuild_go, aFill_nil, buildGo_struct, get_push_new, get_set_same, set_push, bne_self_eq_false, Nat.reduceEqDiff, Nat.reduceAdd, Nat.reduceLeDiff, List.map_nil, Option.map_some, Nat.zero_add, Nat.zero_le, List.length_cons, List.length_nil, List.drop_zero, List.drop_succ_cons, List.take_succ_cons, List.take_nil, List.set_cons_zero, List.set_cons_succ, List.nil_append, List.cons_append, if_true, if_false, Bool.and_self, Nat.le_refl, ft_84_1, ft_84_3, kt_43, lt_25, lt_3, lt_43, pl_25, zc_25, zc_84, zt_25, zt_84, List.cons_append, List.nil_append, c1, g4Z, retA_ret, Tryd.results29, resultsC_2, resultA_tmp, resultA_cell, res2_some]
      exact hid_mk ⟨_, errC _ 5, kFin _⟩
set_option maxRecDepth 10000 in
theorem pSameE : ∀ (s : Nat) (e : Ex) (h : AHeap), szE e = s → OkE e → Pure Tryd.prog 30 [.agg (encE e), .agg (encE e)] h (.bool true) := by
  intro s
  induction s using Nat.strongRecOn with
  | _ s ih =>
  intro e h hs hok
  obtain ⟨o, n, ks⟩ := e
  refine Pure.val (Clo.bool _) ?_
  have hlen := hok.len
  simp only [Ex.ks] at hlen
  refine SCalls.enterI (c := _) Tryd.func30 rfl (by kernel_rfl) (by simp) ?_
  have hc := ex_cells (.mk o n ks)
  have hd0 := ex_d0 o n ks
  have hd1 := ex_d1 o n ks
  have hd2 := ex_d2 o n ks
  have e1 : (o != o) = false := by simp
  have e2 : (n != n) = false := by simp
  have e3 : (((ks.length : Nat) : Int) != ((ks.length : Nat) : Int)) = false := by simp
  obtain ⟨H, hH⟩ : ∃ y, y = (h.push (.cells (encE (.mk o n ks)) 25 none)).push (.cells (encE (.mk o n ks)) 25 none) := ⟨_, rfl⟩
  have gA : H.get h.n = .cells (encE (.mk o n ks)) 25 none := by rw [hH]; exact get_push2'
  have gB : H.get (h.n + 1) = .cells (encE (.mk o n ks)) 25 none := by rw [hH]; exact get_push2
  have kH : Keep h H none_ := by rw [hH]; exact (Keep.push _ _ _).then_push _
  simp only [wpA_skip, wpA_region, wpA_seq, wpA_cond, wpA_block, wpA_loop, condI_false, seqQ_normal, goI_out, goI_ops, opsA_nil, opsA_cons, opsA_guardS, gvI_same, slotAt_zero, slotAt_succ, stepA_move, stepA_assign, stepA_pick, stepA_box, stepA_load, stepA_binOp, stepA_fieldAddr, stepA_len, thenV_some, thenH_some, pickV_false, eval_tmp, eval_const, put_some, enterF_zero, enterF_succ, aBin_neq, absV_int, absV_bool, aField_eq, fieldGo_ptr, aLoad_eq, loadGo_one, aPlace_ptr, aBox_eq, aLen_imm, push_n, get_push2, get_push2', bne_self_eq_false, Nat.reduceEqDiff, Option.map_some, Nat.add_zero, Nat.zero_add, if_true, if_false, ft_25_0, ft_25_1, ft_25_2, kt_23, lt_2, lt_23, lt_3, hc, hd0, hd1, hd2]
  rw [← hH]
  clear hH
  refine SWp.loopG (α := Nat) (fun i f h' => f 2 = .ptr h.n 0 ∧ f 3 = .ptr (h.n + 1) 0 ∧ f 5 = .int .i64 (i : Nat) ∧ i ≤ ks.length ∧ h' = H) (fun i => ks.length - i) 0 ⟨rfl, rfl, rfl, Nat.zero_le _, rfl⟩ ?_
  rintro i f h' ⟨f2, f3, f5, hi, rfl⟩
  refine wpI_sound (by kernel_rfl) ?_
  by_cases hlt : i < ks.length
  rotate_left
  · have c3 : decide ((i : Int) < ((ks.length : Nat) : Int)) = false := decide_eq_false (by omega)
    simp only [wpA_region, wpA_seq, wpA_cond, wpA_exit, wpA_ret, condI_false, seqQ_normal, seqQ_exit, blkQ_exit, endI_mk, goE, andThen_exit, goI_out, goI_ops, opsA_nil, opsA_cons, stepA_move, stepA_assign, stepA_load, stepA_binOp, stepA_fieldAddr, stepA_len, thenV_some, eval_tmp, eval_const, put_some, aBin_lss, absV_bool, aField_eq, fieldGo_ptr, aLoad_eq, loadGo_one, aPlace_ptr, aLen_imm, Nat.reduceEqDiff, Nat.zero_add, if_true, if_false, ft_25_2, kt_23, lt_23, f2, f5, gA, hd2, c3, retA_ret, Tryd.results30, resultsA_1]
    exact hid_mk ⟨rfl, kH⟩
  · have c3 : decide ((i : Int) < ((ks.length : Nat) : Int)) = true := decide_eq_true (by omega)
    have x0 := ex_ix (kk := .i64) hlt
    have hkid : ks[i] ∈ (Ex.mk o n ks).ks := List.getElem_mem hlt
    have hlt2 := szE_kid _ hkid
    have hok2 := hok.kid _ hkid
    generalize ks[i] = A at *
    have lr := ex_lr A
    have w2 : IntKind.i64.wrap (((i : Nat) : Int) + 1) = ((i + 1 : Nat) : Int) := by rw [Go.IntWalk.i64_in _ (by omega)]; omega
    simp only [wpA_skip, wpA_region, wpA_seq, wpA_cond, wpA_block, wpA_draw, condI_true, seqQ_normal, goI_out, goI_ops, opsA_nil, opsA_cons, stepA_move, stepA_load, stepA_binOp, stepA_fieldAddr, stepA_len, thenV_some, eval_tmp, put_some, aBin_lss, aField_eq, fieldGo_ptr, aLoad_eq, loadGo_one, aPlace_ptr, aLen_imm, Nat.reduceEqDiff, Nat.zero_add, if_true, if_false, ft_25_2, kt_23, lt_23, f2, f5, gA, hd2, c3]
    refine SWp.drawnS none_ [] (.q 0 (.q 1 (.q 2 (.q 3 (.q 4 (.q 5 (.q 6 (.q 7 (.q 8 (.q 9 (.c 10 (.q 11 .done)))))))))))) (by kernel_rfl) (by kernel_rfl) (by kernel_rfl) ?_
    simp only [siI_q, sqI_some, mOk_none', implies_true, qI_nil, qI_cons, thenQ_some, q_move, q_load, q_fieldAddr, q_indexAddr, goI_mk, eval_tmp, put_some, aField_eq, fieldGo_ptr, aLoad_eq, loadGo_one, aPlace_ptr, aPlace_at, List.getElem?_cons_zero, List.getElem?_cons_succ, Nat.reduceEqDiff, Nat.zero_add, true_and, if_true, if_false, ft_25_2, lt_23, lt_25, f2, f3, f5, gA, gB, hd2, x0, lr]
    refine siI_c rfl rfl rfl (fun h' _ => ih (szE A) (by omega) A h' rfl hok2) ?_
    simp only [siI_done, siI_q, sqI_some, mOk_none', implies_true, qI_nil, qI_cons, thenQ_some, q_unOp, wpA_skip, wpA_region, wpA_cond, condI_false, seqQ_normal, blkQ_normal, endI_mk, andThen_normal, goI_out, goI_ops, goI_mk, opsA_nil, opsA_cons, stepA_move, stepA_assign, stepA_binOp, thenV_some, eval_tmp, eval_const, put_some, aBin_add, aUn_not, absV_int, List.getElem?_cons_zero, List.getElem?_cons_succ, Nat.reduceEqDiff, true_and, if_true, if_false, Bool.not_true, f5, w2]
    exact hid_mk ⟨i + 1, ⟨f2, f3, rfl, hlt, rfl⟩, by omega⟩
theorem encX_lt : ∀ (s : Nat) (e : Ex), szE e = s → ∀ b ∈ encX e, b < 256 := by
  intro s
  induction s using Nat.strongRecOn with
  | _ s ih =>
  intro e hs b hb
  have hk : ∀ k ∈ e.ks, ∀ b ∈ encX k, b < 256 := fun k hk => ih (szE k) (by have := szE_kid k hk; omega) k rfl
  obtain ⟨o, n, l⟩ := e
  rw [encX_eq, List.mem_append, List.mem_append] at hb
  rcases hb with (hb | hb) | hb
  · exact enc_lt _ _ (Nat.le_refl _) b hb
  · split at hb
    · exact enc_lt _ _ (Nat.le_refl _) b hb
    · cases hb
  · obtain ⟨k, hk1, hk2⟩ := List.mem_flatMap.1 hb
    exact hk k hk1 b hk2
theorem OkE.zero : OkE (.mk 0 0 []) := .mk 0 0 [] (by simp) (by simp) (by omega) (by omega)
theorem ofE_ok {bs : List Nat} (hb : ∀ b ∈ bs, b < 256) : OkE (ofE bs) := by
  unfold ofE
  cases h : ofX bs with
  | error c => exact OkE.zero
  | ok e => exact (ofX_ok hb h).2.2
set_option maxHeartbeats 2000000 in
set_option maxRecDepth 10000 in
theorem exprBytes (e : Ex) (hok : OkE e) (bs : List Nat) (hb : ∀ b ∈ bs, b < 256) (hl : bs.length ≤ 2 ^ 47) (h : AHeap) (hg : KG h) :
    SCalls Tryd.prog 8 [.agg (encE e), .imm bs.length (bytesV bs)] h (fun r h' => r = .bool true) := by
  refine SCalls.enterI (c := _) Tryd.func8 rfl (by kernel_rfl) (by simp) ?_
  have hc := ex_cells e
  have hdr : ∀ e, dropC (AObj.cells (encE e) 25 none) 0 = some (encE e) := fun e => by cases e; rfl
  have hld : ∀ e, loadGo (some (some 3)) (some (encE e)) = some (.agg (encE e)) := fun e => by cases e; rfl
  obtain ⟨H, hH⟩ : ∃ x, x = h.push (.cells (encE e) 25 none) := ⟨_, rfl⟩
  have g3 : H.get h.n = .cells (encE e) 25 none := by rw [hH]; exact get_push_new
  have kH : Keep h H none_ := by rw [hH]; exact Keep.push _ _ _
  have nH : H.n = h.n + 1 := by rw [hH]; rfl
  have gH : KG H := hg.keep kH
  simp only [wpA_region, wpA_seq, seqQ_normal, goI_out, goI_ops, opsA_nil, opsA_cons, stepA_assign, stepA_box, stepA_call, thenH_some, eval_tmp, eval_const, enterF_zero, absV_bool, aBox_eq, List.map_nil, Option.map_some, hc]
  rw [← hH]
  clear hH
  refine callI_pure cal15 (pShown4 H gH) ?_
  simp only [wpA_region, wpA_seq, seqQ_normal, goI_out, goI_ops, opsA_nil, opsA_cons, stepA_assign, stepA_load, stepA_call, thenV_some, eval_tmp, put_some, enterF_succ, aLoad_eq, aPlace_ptr, Nat.reduceEqDiff, List.map_cons, List.map_nil, if_true, if_false, lt_25, g3, hdr, hld]
  refine callI_pure cal19 (pSmall e H hok) ?_
  by_cases hs : IntKind.i64.wrap (szE e : Nat) ≤ 2000
  rotate_left
  · have c : decide (IntKind.i64.wrap (szE e : Nat) ≤ 2000) = false := by simpa using hs
    simp only [wpA_region, wpA_seq, wpA_cond, wpA_ret, condI_true, seqQ_normal, seqQ_ret, endI_mk, goI_out, goI_ops, opsA_nil, opsA_cons, stepA_move, stepA_assign, stepA_unOp, thenV_some, eval_tmp, put_some, enterF_succ, aUn_not, Nat.reduceEqDiff, if_true, if_false, Bool.not_false, c, retA_ret, Tryd.results8, resultsA_1]
    exact hid_mk rfl
  have c : decide (IntKind.i64.wrap (szE e : Nat) ≤ 2000) = true := by simpa using hs
  simp only [wpA_skip, wpA_region, wpA_seq, wpA_cond, condI_false, seqQ_normal, goI_out, goI_ops, opsA_nil, opsA_cons, stepA_load, stepA_unOp, stepA_call, thenV_some, eval_tmp, put_some, enterF_succ, aUn_not, aLoad_eq, aPlace_ptr, Nat.reduceEqDiff, List.map_cons, List.map_nil, if_true, if_false, Bool.not_true, lt_25, c, g3, hdr, hld]
  refine callI_pure cal26 (pBytesX e hok H gH) ?_
  unfold bytV
  simp only [wpA_region, wpA_seq, seqQ_normal, goI_out, goI_ops, opsA_nil, opsA_cons, stepA_move, stepA_assign, stepA_load, stepA_extract, stepA_call, thenV_some, extV_zero, extV_succ, eval_tmp, put_some, enterF_succ, aLoad_eq, aPlace_ptr, Nat.reduceEqDiff, List.map_cons, List.map_nil, if_true, if_false, lt_25, g3, hdr, hld]
  refine callI_pure cal27 (pBytesR e hok H) ?_
  unfold bytV
  simp only [wpA_region, wpA_seq, seqQ_normal, goI_out, goI_ops, opsA_nil, opsA_cons, stepA_move, stepA_assign, stepA_extract, stepA_call, thenV_some, extV_zero, extV_succ, eval_tmp, put_some, enterF_zero, enterF_succ, Nat.reduceEqDiff, List.map_cons, List.map_nil, if_true, if_false]
  refine callI_pure cal28 (pOf _ bs H gH (Rd.imm _ _) hb hl) ?_
  have cz := ex_cells (ofE bs)
  have sz := ex_st (ofE bs)
  unfold ofV
  obtain ⟨H2, hH2⟩ : ∃ x, x = H.push (.cells (encE (ofE bs)) 25 none) := ⟨_, rfl⟩
  have g4 : H2.get H.n = .cells (encE (ofE bs)) 25 none := by rw [hH2]; exact get_push_new
  have k2 : Keep H H2 none_ := by rw [hH2]; exact Keep.push _ _ _
  have n2 : H2.n = H.n + 1 := by rw [hH2]; rfl
  simp only [wpA_region, wpA_seq, seqQ_normal, goI_out, goI_ops, opsA_nil, opsA_cons, stepA_move, stepA_assign, stepA_alloc, stepA_store, stepA_extract, stepA_call, thenV_some, thenH_some, thenS_some, extV_zero, extV_succ, eval_tmp, put_some, put_none, enterF_zero, enterF_succ, aStore_eq, storeGo_ptr, aAlloc_eq, get_push_new, set_push, Nat.reduceEqDiff, List.map_cons, List.map_nil, Option.map_some, if_true, if_false, zc_25, zt_25, cz, sz]
  rw [← hH2]
  clear hH2
  refine callI_pure cal29 (pOfR bs H2 hb hl) ?_
  unfold ofV
  have g4p : ∀ X, (H2.push X).get H.n = .cells (encE (ofE bs)) 25 none := fun X => (get_push_lt (by omega)).trans g4
  simp only [wpA_region, wpA_seq, seqQ_normal, goI_out, goI_ops, opsA_nil, opsA_cons, stepA_move, stepA_assign, stepA_alloc, stepA_load, stepA_store, stepA_extract, stepA_call, thenV_some, thenH_some, thenS_some, extV_zero, extV_succ, eval_tmp, put_some, put_none, enterF_succ, aLoad_eq, aPlace_ptr, aStore_eq, storeGo_ptr, aAlloc_eq, get_push_new, set_push, Nat.reduceEqDiff, List.map_cons, List.map_nil, Option.map_some, if_true, if_false, lt_25, zc_25, zt_25, cz, sz, g4p, hdr, hld]
  refine callI_pure cal30 (pSameE _ _ _ rfl (ofE_ok hb)) ?_
  have e1 : ((strB (bytX e)).toList == (strB (bytX e)).toList) = true := by simp
  have e2 : ∀ x : Int, (x == x) = true := fun x => by simp
  simp only [wpA_region, wpA_seq, wpA_ret, seqQ_normal, endI_mk, goI_out, goI_ops, opsA_nil, opsA_cons, opsA_guardS, gvI_same, slotAt_zero, slotAt_succ, stepA_move, stepA_assign, stepA_pick, stepA_binOp, stepA_convert, thenV_some, thenC_some, pickV_true, eval_tmp, eval_const, put_some, put_none, enterF_succ, aBin_eql, aBin_str_eql, absV_bool, beq_self_eq_true, Nat.reduceEqDiff, if_true, if_false, convB, retA_ret, Tryd.results8, resultsA_1]
  exact hid_mk rfl
end Go.Proofs.YtpobgoeeljknpaaDoor.Pk
