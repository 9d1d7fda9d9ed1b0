/-
  What functions of the program do, told of abstract states. Conditions: as each theorem says.
-/
import Derived.Test.YtcdpepdjeneelaaDoorVtH
namespace Go.Proofs.YtcdpepdjeneelaaDoor.Pk
open Go Go.Proofs Go.Proofs.YtcdpepdjeneelaaDoor.Ab Go.Proofs.Vw
set_option linter.unusedVariables false
set_option linter.unusedSimpArgs false
/-! ### ViewGrows -/
theorem grow_log {l m : List Ent} {p : Int × List LR} (hp : p ∈ logsOf l) : ∃ k, logAt (logsOf (l ++ m)) p.1 = p.2 ++ k := by
  rw [logAt_told, logs_mem hp]
  unfold stOf
  rw [List.map_append]
  exact (grows _ _).1 p.1
theorem grow_task {l m : List Ent} {x : TV} (hx : x ∈ tasksOf l) : x.ep ≤ (taskAt (tasksOf (l ++ m)) x.t).ep ∧ x.tx ≤ (taskAt (tasksOf (l ++ m)) x.t).tx ∧ x.ord.length ≤ (taskAt (tasksOf (l ++ m)) x.t).ord.length := by
  have hg := (grows (l.map enOf) (m.map enOf)).2.1 x.t
  rw [← List.map_append] at hg
  change JLe (jobOf (stOf l) x.t) (jobOf (stOf (l ++ m)) x.t) at hg
  obtain ⟨h1, h2, k, h3⟩ := hg
  rw [taskAt_told]
  have e := tasks_mem hx
  have e1 : x.ep = (jobOf (stOf l) x.t).ep := congrArg TV.ep e
  have e2 : x.tx = (jobOf (stOf l) x.t).tx := congrArg TV.tx e
  have e3 : x.ord = (jobOf (stOf l) x.t).ord := congrArg TV.ord e
  rw [e1, e2, e3]
  refine ⟨h1, h2, ?_⟩
  show _ ≤ (jobOf (stOf (l ++ m)) x.t).ord.length
  rw [h3, List.length_append]
  omega
set_option maxHeartbeats 8000000 in
set_option maxRecDepth 20000 in
theorem viewGrows (l0 m0 : List Ent) (hl0 : l0.length ≤ 2 ^ 47) (hm0 : m0.length ≤ 2 ^ 47) (he0 : ∀ x ∈ l0, eLen x) (hf0 : ∀ x ∈ m0, eLen x) (h : AHeap) (hu : KU h) :
    SCalls Tryd.prog 4 [.imm l0.length (l0.flatMap entE), .imm m0.length (m0.flatMap entE)] h (fun r _ => r = .bool true) := by
  refine SCalls.enterI (c := _) Tryd.func4 rfl (by kernel_rfl) (by simp) ?_
  simp only [wpA_region, wpA_seq, seqQ_normal, goI_out, goI_ops, opsA_nil, opsA_cons, stepA_assign, stepA_call, eval_const, absV_bool, List.map_nil]
  refine callI_pure cal9 (pShown h hu) ?_
  simp only [wpA_region, wpA_seq, seqQ_normal, goI_out, goI_ops, opsA_nil, opsA_cons, stepA_move, stepA_assign, stepA_call, eval_tmp, put_some, enterF_zero, enterF_succ, Nat.reduceEqDiff, reduceCtorEq, List.map_cons, List.map_nil, if_true, if_false]
  refine callI_pure cal10 (pFew l0 hl0 h) ?_
  have hl : (l0.take 200).length ≤ 200 := by rw [List.length_take]; omega
  have he : ∀ x ∈ l0.take 200, eLen x := fun x hx => he0 x (List.mem_of_mem_take hx)
  generalize l0.take 200 = l at hl he ⊢
  simp only [wpA_region, wpA_seq, seqQ_normal, goI_out, goI_ops, opsA_nil, opsA_cons, stepA_move, stepA_assign, stepA_call, eval_tmp, put_some, enterF_zero, enterF_succ, Nat.reduceEqDiff, reduceCtorEq, List.map_cons, List.map_nil, if_true, if_false]
  refine callI_pure cal10 (pFew m0 hm0 h) ?_
  have hm : (m0.take 200).length ≤ 200 := by rw [List.length_take]; omega
  have hf : ∀ x ∈ m0.take 200, eLen x := fun x hx => hf0 x (List.mem_of_mem_take hx)
  generalize m0.take 200 = m at hm hf ⊢
  simp only [wpA_region, wpA_seq, seqQ_normal, goI_out, goI_ops, opsA_nil, opsA_cons, stepA_move, stepA_assign, stepA_call, eval_tmp, put_some, enterF_zero, enterF_succ, Nat.reduceEqDiff, reduceCtorEq, List.map_cons, List.map_nil, if_true, if_false]
  refine callI_pure cal12 (pRead l (by omega) he h hu) ?_
  have cT : ∀ t : TD, (V.agg (tdC t)).cells = some (tdC t) := fun _ => rfl
  have sT : ∀ t : TD, setC (some 3) (AObj.cells [V.snil, .snil, .int .i64 0] 29 none) 0 (tdC t) = some (.cells (tdC t) 29 none) := fun _ => rfl
  obtain ⟨H, hH⟩ : ∃ y, y = h.push (.cells (tdC (toldOf l)) 29 none) := ⟨_, rfl⟩
  have kH : Keep h H none_ := by rw [hH]; exact Keep.push _ _ _
  have nH : H.n = h.n + 1 := by rw [hH]; rfl
  have gA : H.get h.n = .cells (tdC (toldOf l)) 29 none := by rw [hH]; exact get_push_new
  have b0 := lit0e H
  obtain ⟨v1, h1, e1, a1⟩ := accE l (acc0e H) (by simp; omega)
  obtain ⟨v2, h2, e2, a2⟩ := accE m a1 (by simp; omega)
  rw [List.nil_append] at a2
  simp only [wpA_region, wpA_seq, seqQ_normal, goI_out, goI_ops, opsA_nil, opsA_cons, stepA_alloc, stepA_buildSlice, stepA_store, thenH_some, thenS_some, eval_tmp, put_some, enterF_succ, aStore_eq, storeGo_ptr, aAlloc_eq, get_push_new, set_push, Nat.reduceEqDiff, reduceCtorEq, List.map_nil, Option.map_some, if_true, if_false, zc_29, zt_29, cT, sT]
  rw [← hH]
  clear hH
  simp only [goI_ops, opsA_cons, stepA_move, stepA_append, stepA_call, thenH_some, eval_tmp, put_some, put_none, enterF_zero, enterF_succ, Nat.reduceEqDiff, reduceCtorEq, List.map_cons, List.map_nil, if_true, if_false, b0, e1, e2]
  have k2 := a2.keep
  have hlm : (l ++ m).length ≤ 400 := by rw [List.length_append]; omega
  have helm : ∀ x ∈ l ++ m, eLen x := fun x hx => (List.mem_append.1 hx).elim (he x) (hf x)
  refine callI_pure cal12 (pReadO (l ++ m) (by omega) helm h2 (by unfold KU; rw [k2.glob, kH.glob]; exact hu) a2.own) ?_
  obtain ⟨H2, hH2⟩ : ∃ y, y = h2.push (.cells (tdC (toldOf (l ++ m))) 29 none) := ⟨_, rfl⟩
  have kH2 : Keep h2 H2 none_ := by rw [hH2]; exact Keep.push _ _ _
  have nH2 : H2.n = h2.n + 1 := by rw [hH2]; rfl
  have n2 := k2.n
  have gB2 : H2.get h2.n = .cells (tdC (toldOf (l ++ m))) 29 none := by rw [hH2]; exact get_push_new
  have gA2 : H2.get h.n = .cells (tdC (toldOf l)) 29 none := ((k2.trans' kH2).get h.n (by omega) (by simp [none_])).trans gA
  simp only [wpA_region, wpA_seq, wpA_block, wpA_loop, seqQ_normal, goI_out, goI_ops, opsA_nil, opsA_cons, stepA_assign, stepA_alloc, stepA_store, thenH_some, thenS_some, eval_tmp, eval_const, put_some, put_none, enterF_succ, absV_int, aStore_eq, storeGo_ptr, aAlloc_eq, get_push_new, set_push, Nat.reduceEqDiff, reduceCtorEq, Option.map_some, if_true, if_false, zc_29, zt_29, cT, sT]
  rw [← hH2]
  clear hH2
  have okA := tdOk l (by omega)
  have okB := tdOk (l ++ m) (by omega)
  have d0 : ∀ t : TD, dropC (AObj.cells (tdC t) 29 none) 0 = some (tdC t) := fun _ => rfl
  have d1 : ∀ t : TD, dropC (AObj.cells (tdC t) 29 none) 1 = some ((tdC t).drop 1) := fun _ => rfl
  have l0' : ∀ t : TD, loadGo (some none) (some (tdC t)) = some (.imm t.logs.length (t.logs.flatMap logC)) := fun _ => rfl
  have l1' : ∀ t : TD, loadGo (some none) (some ((tdC t).drop 1)) = some (.imm t.tasks.length (t.tasks.flatMap tvC)) := fun _ => rfl
  have tk : ∀ t : TD, (tdC t).take 3 = tdC t := fun _ => rfl
  have tl : ∀ t : TD, (tdC t).length = 3 := fun _ => rfl
  have lgA : (toldOf l).logs = logsOf l := rfl
  have tkA : (toldOf l).tasks = tasksOf l := rfl
  refine SWp.loopG (α := Nat) (fun i f h' => f 6 = .ptr h.n 0 ∧ f 7 = .ptr h2.n 0 ∧ f 5 = .bool true ∧ f 8 = .int .i64 (i : Nat) ∧ i ≤ (logsOf l).length ∧ h' = H2) (fun i => (logsOf l).length - i) 0
    ⟨rfl, rfl, rfl, rfl, Nat.zero_le _, rfl⟩ ?_
  rintro i f h3 ⟨f6, f7, f5, f8, hi, rfl⟩
  refine wpI_sound (by kernel_rfl) ?_
  by_cases hlt : i < (logsOf l).length
  · have c1 : decide ((i : Int) < (((logsOf l).length : Nat) : Int)) = true := decide_eq_true (by omega)
    have hLL := okA.1
    have hw : IntKind.i64.wrap ((i : Int) + 1) = ((i + 1 : Nat) : Int) := by rw [Go.IntWalk.i64_in _ (by rw [lgA] at hLL; omega)]; omega
    have x1 := lv_ix (l := logsOf l) (kk := .i64) hlt
    have hmem := List.getElem_mem hlt
    obtain ⟨kx, hk⟩ := grow_log (m := m) hmem
    have hlen := okA.2.2.1 _ hmem
    generalize (logsOf l)[i] = p at x1 hk hlen
    obtain ⟨n, x⟩ := p
    have hlen : x.length ≤ 2 ^ 30 := hlen
    have hk : logAt (logsOf (l ++ m)) n = x ++ kx := hk
    have ex : logC (n, x) = [.int .i64 n, .imm x.length (recL x), .imm x.length (delL x)] := rfl
    rw [ex] at x1
    simp only [wpA_skip, wpA_region, wpA_seq, wpA_cond, wpA_block, wpA_draw, condI_true, seqQ_normal, goI_out, goI_ops, opsA_nil, opsA_cons, stepA_move, stepA_assign, stepA_load, stepA_binOp, stepA_fieldAddr, stepA_indexAddr, stepA_len, thenV_some, eval_tmp, put_some, aBin_lss, aField_eq, fieldGo_ptr, fieldGo_at, aLoad_eq, loadGo_one, aPlace_ptr, aPlace_at, aLen_imm, Nat.reduceEqDiff, Nat.reduceLeDiff, Nat.add_zero, List.length_cons, List.drop_zero, List.drop_succ_cons, List.nil_append, List.cons_append, if_true, if_false, ft_29_0, ft_36_1, kt_26, lt_26, lt_33, f6, f8, gA2, d0, l0', lgA, c1, x1]
    refine SWp.drawnS none_ [] (.q 0 (.q 1 (.q 2 (.q 3 (.q 4 (.q 5 (.q 6 (.c 7 (.q 8 (.q 9 .done)))))))))) (by kernel_rfl) (by kernel_rfl) (by kernel_rfl) ?_
    simp only [siI_q, sqI_some, mOk_none', implies_true, qI_nil, qI_cons, thenQ_some, q_move, q_load, q_fieldAddr, q_indexAddr, goI_mk, eval_tmp, put_some, aField_eq, fieldGo_ptr, fieldGo_at, aLoad_eq, loadGo_one, loadGo_row, aPlace_ptr, aPlace_at, List.getElem?_cons_zero, List.getElem?_cons_succ, Nat.reduceEqDiff, Nat.add_zero, Nat.zero_le, List.length_cons, List.drop_zero, List.nil_append, List.cons_append, true_and, if_true, if_false, Nat.le_refl, ft_29_0, ft_36_0, lt_26, lt_29, lt_3, f6, f7, f8, gA2, gB2, d0, l0', lgA, x1, tk, tl]
    refine siI_c rfl rfl rfl (fun h' _ => pViewLog (toldOf (l ++ m)) okB n h') ?_
    have eL : logC (n, logAt (toldOf (l ++ m)).logs n) = [.int .i64 n, .imm (x ++ kx).length (recL (x ++ kx)), .imm (x ++ kx).length (delL (x ++ kx))] := by
      show logC (n, logAt (logsOf (l ++ m)) n) = _
      rw [hk]; rfl
    have c2 : decide ((((x ++ kx).length : Nat) : Int) < ((x.length : Nat) : Int)) = false := decide_eq_false (by rw [List.length_append]; omega)
    have s1 : aSlice Tryd.prog 33 (.imm (x ++ kx).length (recL (x ++ kx))) none (some (.int .i64 ((x.length : Nat) : Int))) none = some (.imm x.length (recL x)) := by
      rw [slice_imm_hi ss_33 (by omega) (by rw [List.length_append]; omega) (recL_len _), Int.toNat_natCast]
      unfold recL
      rw [rows_take (enc := fun p : LR => rcdE p.1) (sz := 3) (fun _ => rfl), List.take_left]
    rw [eL]
    simp only [siI_done, siI_q, sqI_some, mOk_none', implies_true, qI_nil, qI_cons, thenQ_some, q_assign, q_field, wpA_region, wpA_seq, seqQ_normal, goI_out, goI_ops, goI_mk, opsA_cons, opsA_guardS, gvI_same, slotAt_zero, slotAt_succ, stepA_move, stepA_binOp, stepA_slice, stepA_len, stepA_call, thenV_some, eval_tmp, put_some, aBin_lss, aLen_imm, aFieldOf_eq, partGo_one, List.getElem?_cons_zero, List.getElem?_cons_succ, Nat.reduceEqDiff, List.map_cons, List.map_nil, Option.map_some, Option.map_none, true_and, if_true, if_false, kt_33, pt_36_1, c2, s1]
    refine callI_pure cal17 (pRecsS x (by omega) _) ?_
    simp only [wpA_skip, wpA_region, wpA_cond, condI_false, seqQ_normal, blkQ_normal, endI_mk, andThen_normal, goI_out, goI_ops, opsA_nil, opsA_cons, opsA_guardS, gvI_same, slotAt_zero, slotAt_succ, stepA_move, stepA_assign, stepA_pick, stepA_binOp, stepA_unOp, thenV_some, pickV_false, eval_tmp, eval_const, put_some, aBin_add, aUn_not, absV_int, absV_bool, Nat.reduceEqDiff, if_true, if_false, Bool.not_true, f8, hw]
    exact hid_mk ⟨i + 1, ⟨f6, f7, f5, rfl, hlt, rfl⟩, by omega⟩
  · have c1 : decide ((i : Int) < (((logsOf l).length : Nat) : Int)) = false := decide_eq_false (by omega)
    simp only [wpA_region, wpA_seq, wpA_cond, wpA_block, wpA_exit, wpA_loop, condI_false, seqQ_normal, seqQ_exit, blkQ_exit, endI_mk, goE, andThen_exit, goI_out, goI_ops, opsA_nil, opsA_cons, stepA_move, stepA_assign, stepA_load, stepA_binOp, stepA_fieldAddr, stepA_len, thenV_some, eval_tmp, eval_const, put_some, aBin_lss, absV_int, aField_eq, fieldGo_ptr, aLoad_eq, aPlace_ptr, aLen_imm, Nat.reduceEqDiff, Nat.add_zero, if_true, if_false, ft_29_0, kt_26, lt_26, f6, f8, gA2, d0, l0', lgA, c1]
    refine SWp.loopG (α := Nat) (fun i f h' => f 6 = .ptr h.n 0 ∧ f 7 = .ptr h2.n 0 ∧ f 5 = .bool true ∧ f 11 = .int .i64 (i : Nat) ∧ i ≤ (tasksOf l).length ∧ Keep h3 h' none_) (fun i => (tasksOf l).length - i) 0
      ⟨f6, f7, f5, rfl, Nat.zero_le _, Keep.refl _ _⟩ ?_
    clear f6 f7 f5 f8 c1 hlt
    rintro i f h4 ⟨f6, f7, f5, f11, hi, k4⟩
    have gA4 := (k4.get h.n (by omega) (by simp [none_])).trans gA2
    have gB4 := (k4.get h2.n (by omega) (by simp [none_])).trans gB2
    refine wpI_sound (by kernel_rfl) ?_
    by_cases hlt : i < (tasksOf l).length
    · have c1 : decide ((i : Int) < (((tasksOf l).length : Nat) : Int)) = true := decide_eq_true (by omega)
      have hLL := okA.2.1
      have hw : IntKind.i64.wrap ((i : Int) + 1) = ((i + 1 : Nat) : Int) := by rw [Go.IntWalk.i64_in _ (by rw [tkA] at hLL; omega)]; omega
      have x1 := tv_ix (l := tasksOf l) (kk := .i64) hlt
      have hmem := List.getElem_mem hlt
      obtain ⟨q1, q2, q3⟩ := grow_task (m := m) hmem
      generalize (tasksOf l)[i] = p at x1 q1 q2 q3
      obtain ⟨t, ep, tx, offs, ord, opn⟩ := p
      simp only at q1 q2 q3
      have ex : tvC ⟨t, ep, tx, offs, ord, opn⟩ = [.int .i64 t, .int .i64 ep, .int .i64 tx, .imm offs.length (i64V offs), .imm ord.length (i64V ord), .int .i64 (opn : Nat)] := rfl
      rw [ex] at x1
      have tkT : taskAt (toldOf (l ++ m)).tasks t = taskAt (tasksOf (l ++ m)) t := rfl
      simp only [wpA_skip, wpA_region, wpA_seq, wpA_cond, wpA_block, wpA_draw, condI_true, seqQ_normal, goI_out, goI_ops, opsA_nil, opsA_cons, stepA_move, stepA_load, stepA_binOp, stepA_fieldAddr, stepA_len, thenV_some, eval_tmp, put_some, aBin_lss, aField_eq, fieldGo_ptr, aLoad_eq, aPlace_ptr, aLen_imm, Nat.reduceEqDiff, Nat.zero_add, if_true, if_false, ft_29_1, kt_27, lt_27, f6, f11, gA4, d1, l1', tkA, c1]
      refine SWp.drawnS none_ [8, 9] (.q 0 (.q 1 (.q 2 (.q 3 (.q 4 (.q 5 (.q 6 (.c 7 (.e 8 (.a 9 .done) .stop))))))))) (by kernel_rfl) (by kernel_rfl) (by kernel_rfl) ?_
      simp only [siI_q, sqI_some, mOk_none', implies_true, qI_nil, qI_cons, thenQ_some, q_move, q_load, q_fieldAddr, q_indexAddr, goI_mk, eval_tmp, put_some, aField_eq, fieldGo_ptr, fieldGo_at, aLoad_eq, loadGo_one, loadGo_row, aPlace_ptr, aPlace_at, List.getElem?_cons_zero, List.getElem?_cons_succ, Nat.reduceEqDiff, Nat.zero_add, Nat.zero_le, List.length_cons, List.drop_zero, List.nil_append, List.cons_append, true_and, if_true, if_false, Nat.le_refl, ft_29_1, ft_41_0, lt_27, lt_29, lt_3, f6, f7, f11, gA4, gB4, d0, d1, l1', tkA, x1, tk, tl]
      refine siI_c rfl rfl rfl (fun h' _ => pViewTask (toldOf (l ++ m)) okB t h') ?_
      rw [tkT]
      generalize taskAt (tasksOf (l ++ m)) t = y at q1 q2 q3
      obtain ⟨t', ep', tx', offs', ord', opn'⟩ := y
      simp only at q1 q2 q3
      have ey : tvC ⟨t', ep', tx', offs', ord', opn'⟩ = [.int .i64 t', .int .i64 ep', .int .i64 tx', .imm offs'.length (i64V offs'), .imm ord'.length (i64V ord'), .int .i64 (opn' : Nat)] := rfl
      rw [ey]
      have z1 : decide (ep' < ep) = false := decide_eq_false (by omega)
      have z2 : decide (tx' < tx) = false := decide_eq_false (by omega)
      have z3 : decide (((ord'.length : Nat) : Int) < ((ord.length : Nat) : Int)) = false := decide_eq_false (by omega)
      simp only [siI_done, siI_stop, siI_a, siI_e, saI_some, seI_some, keepT1, wpA_seq, wpA_draw, seqQ_normal, goI_out, goI_ops, goI_mk, opsA_nil, opsA_cons, stepA_alloc, stepA_store, thenH_some, thenS_some, eval_tmp, put_some, cells_agg, one_int, one_imm, all_nil, all_cons, aStore_eq, storeGo_ptr, setC_row, setAll_nil, setAll_cons, aAlloc_eq, get_push_new, set_push, List.getElem?_cons_zero, List.getElem?_cons_succ, Nat.reduceEqDiff, Nat.reduceAdd, Option.map_some, Nat.zero_add, List.length_cons, List.length_nil, List.set_cons_zero, List.set_cons_succ, and_true, true_and, if_true, if_false, Bool.and_self, Nat.le_refl, zc_41, zt_41]
      have n4 := k4.n
      have gA5 : ∀ o, (h4.push o).get h.n = .cells (tdC (toldOf l)) 29 none := fun o => (get_push_lt (by omega)).trans gA4
      refine SWp.drawnS none_ [] (.q 0 (.q 1 (.q 2 (.q 3 (.q 4 (.q 5 (.q 6 (.q 7 (.q 8 (.q 9 (.q 10 (.q 11 (.q 12 (.q 13 (.q 14 (.q 15 (.q 16 (.q 17 (.q 18 (.q 19 (.q 20 (.q 21 (.q 22 (.q 23 (.q 24 (.q 25 (.q 26 (.q 27 (.q 28 (.q 29 (.q 30 (.q 31 (.q 32 .done))))))))))))))))))))))))))))))))) (by kernel_rfl) (by kernel_rfl) (by kernel_rfl) ?_
      simp only [siI_done, siI_q, sqI_some, mOk_none', implies_true, qI_nil, qI_cons, qI_guard, qgI_same, thenQ_some, q_move, q_pick, q_load, q_binOp, q_fieldAddr, q_indexAddr, q_len, wpA_skip, wpA_region, wpA_cond, condI_false, seqQ_normal, blkQ_normal, endI_mk, andThen_normal, goI_out, goI_ops, goI_mk, opsA_nil, opsA_cons, slotAt_zero, slotAt_succ, stepA_move, stepA_assign, stepA_binOp, thenV_some, pickV_false, eval_tmp, eval_const, put_some, put_none, aBin_add, aBin_lss, absV_int, absV_bool, aField_eq, fieldGo_ptr, fieldGo_at, aLoad_eq, loadGo_one, aPlace_ptr, aPlace_at, dropC_cells, aLen_imm, get_push_new, List.getElem?_cons_zero, List.getElem?_cons_succ, Nat.reduceEqDiff, Nat.reduceAdd, Nat.reduceLeDiff, Nat.zero_add, List.length_cons, List.length_nil, List.drop_zero, List.drop_succ_cons, List.nil_append, List.cons_append, true_and, if_true, if_false, ft_29_1, ft_41_1, ft_41_2, ft_41_4, kt_39, lt_27, lt_3, lt_39, f6, f11, gA5, d1, l1', tkA, x1, z1, z2, z3, hw]
      exact hid_mk ⟨i + 1, ⟨f6, f7, f5, rfl, hlt, k4.then_push _⟩, by omega⟩
    · have c1 : decide ((i : Int) < (((tasksOf l).length : Nat) : Int)) = false := decide_eq_false (by omega)
      simp only [wpA_region, wpA_seq, wpA_cond, wpA_exit, wpA_ret, condI_false, seqQ_normal, seqQ_exit, blkQ_exit, endI_mk, goE, andThen_exit, goI_out, goI_ops, opsA_nil, opsA_cons, stepA_move, stepA_assign, stepA_load, stepA_binOp, stepA_fieldAddr, stepA_len, thenV_some, eval_tmp, put_some, aBin_lss, aField_eq, fieldGo_ptr, aLoad_eq, aPlace_ptr, aLen_imm, Nat.reduceEqDiff, Nat.zero_add, if_true, if_false, ft_29_1, kt_27, lt_27, f6, f5, f11, gA4, d1, l1', tkA, c1, retA_ret, Tryd.results4, resultsA_1]
      exact hid_mk rfl
end Go.Proofs.YtcdpepdjeneelaaDoor.Pk
