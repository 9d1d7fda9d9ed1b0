/-
  What functions of the program do, told of abstract states. Conditions: as each theorem says.
-/
import Derived.Test.YtecabknnggamhaaKvJ
namespace Go.Proofs.Ytecabknnggamhaa.Pk
open Go Go.Proofs Go.Proofs.Ytecabknnggamhaa.Ab
set_option linter.unusedVariables false
set_option linter.unusedSimpArgs false

theorem put_front {p : Pr} {r : List Pr} (hs : Srt (p :: r)) : put r p.1 p.2 = p :: r := by
  have h := List.pairwise_cons.1 hs
  cases r with
  | nil => rfl
  | cons q s =>
    have := h.1 q (by simp)
    rw [put, if_neg (by omega), if_neg (by omega)]
theorem doPut (room : Int) (l : List Pr) (k v : Int) : doL room l ⟨k, 0, 0, v, false⟩ = putL room l k v ∧ doE room l ⟨k, 0, 0, v, false⟩ = putE room l k := ⟨rfl, rfl⟩
theorem doDel (room : Int) (l : List Pr) (k : Int) : doL room l ⟨k, 0, 0, 0, true⟩ = rm l k ∧ doE room l ⟨k, 0, 0, 0, true⟩ = delE l k := ⟨rfl, rfl⟩
theorem zz_neq {xo yo : Operand} : aBin Try.prog .neq 30 xo yo (.agg [.int .i64 0, .int .i64 0, .int .i64 0, .int .i64 0, .bool false]) (.agg [.int .i64 0, .int .i64 0, .int .i64 0, .int .i64 0, .bool false]) = some (.bool false) := by
  have := chg_neq zC zC (xo := xo) (yo := yo)
  rw [decide_eq_false (by simp)] at this
  exact this
set_option maxHeartbeats 4000000 in
set_option maxRecDepth 10000 in
theorem kvAgain (ds : List Deed) (hd : ds.length < 2 ^ 47) (h : AHeap) : SCalls Try.prog 4 [.imm ds.length (ds.flatMap dE)] h (fun r h' => r = .bool true) := by
  refine SCalls.enterI (c := _) Try.func4 rfl (by kernel_rfl) (by simp) ?_
  simp only [wpA_region, wpA_seq, seqQ_normal, goI_out, goI_ops, opsA_nil, opsA_cons, stepA_assign, stepA_call, eval_const, absV_bool, List.map_nil]
  refine callI_pure cal15 (pShown12 h) ?_
  simp only [wpA_region, wpA_seq, seqQ_normal, goI_out, goI_ops, opsA_nil, opsA_cons, stepA_assign, stepA_call, eval_tmp, eval_const, put_some, enterF_succ, absV_int, Nat.reduceEqDiff, List.map_cons, List.map_nil, if_true, if_false]
  refine callI_of cal16 (kvNew h 1024 (by decide) (by decide)) fun r h1 ⟨e1, k1, p1⟩ => ?_
  subst e1
  simp only [wpA_region, wpA_seq, seqQ_normal, goI_out, goI_ops, opsA_nil, opsA_cons, stepA_move, stepA_assign, stepA_extract, stepA_call, thenV_some, extV_zero, extV_succ, eval_tmp, eval_const, put_some, enterF_succ, absV_int, Nat.reduceEqDiff, List.map_cons, List.map_nil, if_true, if_false]
  refine callI_of cal16 (kvNew h1 1024 (by decide) (by decide)) fun r h2 ⟨e2, k2, p2⟩ => ?_
  subst e2
  simp only [wpA_region, wpA_seq, seqQ_normal, goI_out, goI_ops, opsA_nil, opsA_cons, stepA_move, stepA_assign, stepA_extract, stepA_call, thenV_some, extV_zero, extV_succ, eval_tmp, eval_const, put_some, enterF_succ, absV_int, Nat.reduceEqDiff, List.map_cons, List.map_nil, if_true, if_false]
  refine callI_of cal16 (kvNew h2 1024 (by decide) (by decide)) fun r h3 ⟨e3, k3, p3⟩ => ?_
  subst e3
  have l1 := k1.lt
  have l2 := k2.lt
  have n2 := p2.n
  have k1' := (k1.keepN p2).keepN p3
  have k2' := k2.keepN p3
  have ap : Apart h.n .snil h1.n .snil := ⟨by omega, by simp [idOf], by simp [idOf], by simp [idOf]⟩
  have aq : Apart h.n .snil h2.n .snil := ⟨by omega, by simp [idOf], by simp [idOf], by simp [idOf]⟩
  have ar : Apart h1.n .snil h2.n .snil := ⟨by omega, by simp [idOf], by simp [idOf], by simp [idOf]⟩
  generalize h.n = i at k1' ap aq
  generalize h1.n = j at k2' ap ar
  generalize h2.n = q at k3 aq ar
  clear l1 l2 n2 k1 k2
  have cc := chg_cells
  have st := chg_store
  have zw : IntKind.i64.wrap (0 + 0) = 0 := by decide
  simp only [wpA_skip, wpA_region, wpA_seq, wpA_cond, wpA_block, wpA_loop, condI_false, seqQ_normal, goI_out, goI_ops, opsA_nil, opsA_cons, opsA_guardS, gvI_same, slotAt_zero, slotAt_succ, stepA_move, stepA_assign, stepA_pick, stepA_binOp, stepA_extract, thenV_some, pickV_false, extV_zero, extV_succ, eval_tmp, eval_const, put_some, enterF_succ, aBin_add, aBin_neq, ptr_nil_eql, absV_int, absV_bool, absV_pnil, bne_self_eq_false, Nat.reduceEqDiff, if_true, if_false, kt_24, zw]
  refine SWp.loopG (α := Nat × V × V × List Pr) (fun x f h' => f 0 = .imm ds.length (ds.flatMap dE) ∧ f 3 = .bool true ∧ f 4 = .ptr i 0 ∧ f 6 = .ptr j 0 ∧ f 8 = .ptr q 0 ∧ f 10 = .int .i64 (x.1 : Nat) ∧ x.1 ≤ 300 ∧
      IsKv h' i x.2.1 1024 x.2.2.2 ∧ IsKv h' j x.2.2.1 1024 x.2.2.2 ∧ IsKv h' q .snil 1024 [] ∧ Apart i x.2.1 j x.2.2.1 ∧ Apart i x.2.1 q .snil ∧ Apart j x.2.2.1 q .snil ∧ x.2.2.2.length ≤ x.1) (fun x => 300 - x.1) (0, .snil, .snil, [])
    ⟨rfl, rfl, rfl, rfl, rfl, rfl, Nat.zero_le _, k1', k2', k3, ap, aq, ar, Nat.zero_le _⟩ ?_
  rintro ⟨t, v, u, a⟩ f h' ⟨f0, f3, f4, f6, f8, f10, ht, ka, kb, kc, apt, aqt, art, la⟩
  simp only at f10 ht ka kb apt aqt art la
  refine wpI_sound (by kernel_rfl) ?_
  by_cases hlt : t < ds.length ∧ t < 300
  · have d1 : decide ((t : Int) < ((ds.length : Nat) : Int)) = true := decide_eq_true (by omega)
    have d2 : decide ((t : Int) < 300) = true := decide_eq_true (by omega)
    have hw := inc64 hlt.2 (by omega)
    obtain ⟨rr, x1⟩ := deed_ix hlt.1
    generalize ds[t] = d at x1
    have kA : Keep h' (h'.push (.cells [.int .i64 0, .int .i64 0, .int .i64 0, .int .i64 0, .bool false] 30 none)) none_ := Keep.push _ _ _
    have gA : (h'.push (.cells [.int .i64 0, .int .i64 0, .int .i64 0, .int .i64 0, .bool false] 30 none)).get h'.n = .cells [.int .i64 0, .int .i64 0, .int .i64 0, .int .i64 0, .bool false] 30 none := get_push_new
    have nA : (h'.push (.cells [.int .i64 0, .int .i64 0, .int .i64 0, .int .i64 0, .bool false] 30 none)).n = h'.n + 1 := rfl
    have kaA := ka.keepN kA
    have kbA := kb.keepN kA
    have kcA := kc.keepN kA
    have hvn : ¬ kvO i v h'.n := fun hh => by
      rcases hh with hh | hh
      · have := ka.lt; omega
      · have := ka.own.lt _ hh; omega
    -- the block of the change, behind a call of s
    have after : ∀ (h3 : AHeap) (c : Chg) (v2 : V) (a2 : List Pr), Keep (h'.push (.cells [.int .i64 0, .int .i64 0, .int .i64 0, .int .i64 0, .bool false] 30 none)) h3 (kvO i v) → IsKv h3 i v2 1024 a2 → NewOr (h'.push (.cells [.int .i64 0, .int .i64 0, .int .i64 0, .int .i64 0, .bool false] 30 none)) v v2 →
        h3.get h'.n = .cells [.int .i64 0, .int .i64 0, .int .i64 0, .int .i64 0, .bool false] 30 none ∧ IsKv (h3.set h'.n (.cells (chgE c) 30 none)) i v2 1024 a2 ∧ IsKv (h3.set h'.n (.cells (chgE c) 30 none)) j u 1024 a ∧ IsKv (h3.set h'.n (.cells (chgE c) 30 none)) q .snil 1024 [] ∧
          Apart i v2 j u ∧ Apart i v2 q .snil := fun h3 c v2 a2 kp k3 d3 => by
      have kS : Keep h3 (h3.set h'.n (.cells (chgE c) 30 none)) (fun q => q = h'.n) := Keep.set _ _ _
      have hv2 : ∀ q, idOf v2 = some q → q ≠ h'.n := fun q hq hh => by
        rcases d3 with d3 | d3
        · rw [d3] at hq; have := ka.own.lt q hq; omega
        · have := d3 q hq; omega
      exact ⟨(kp.get h'.n (by omega) hvn).trans gA, k3.keep kS (by have := ka.lt; omega) hv2, (apt.keep kbA kp).keep kS (by have := kb.lt; omega) (fun q hq hh => by have := kb.own.lt q hq; omega), (aqt.keep kcA kp).keep kS (by have := kc.lt; omega) (fun q hq hh => by cases hq), apt.step kbA d3, aqt.step kcA d3⟩
    have ldc : ∀ c : Chg, (if 5 ≤ (chgE c).length then some (V.agg (List.take 5 (chgE c))) else none) = some (.agg (chgE c)) := fun _ => rfl
    have drc : ∀ c : Chg, dropC (AObj.cells (chgE c) 30 none) 0 = some (chgE c) := fun _ => rfl
    generalize hhA : h'.push (.cells [.int .i64 0, .int .i64 0, .int .i64 0, .int .i64 0, .bool false] 30 none) = hA at kA gA nA kaA kbA kcA after
    by_cases hk : d.kind = 1
    · have b1 : (d.kind == 1) = true := by simp [hk]
      simp only [wpA_skip, wpA_region, wpA_seq, wpA_cond, wpA_block, condI_true, seqQ_normal, goI_out, goI_ops, opsA_nil, opsA_cons, opsA_guardS, gvI_same, slotAt_zero, slotAt_succ, stepA_move, stepA_assign, stepA_pick, stepA_alloc, stepA_build, stepA_load, stepA_store, stepA_binOp, stepA_fieldAddr, stepA_indexAddr, stepA_len, stepA_call, thenV_some, thenH_some, thenS_some, pickV_true, eval_tmp, eval_const, put_some, put_none, aBin_eql, aBin_lss, absV_int, absV_bool, cells_agg, one_int, one_bool, all_nil, all_cons, aField_eq, fieldGo_at, aLoad_eq, loadGo_one, aPlace_at, aStore_eq, storeGo_ptr, setC_row, setAll_nil, setAll_cons, aAlloc_eq, aLen_imm, aBuild_go, aFill_nil, buildGo_struct, get_push_new, set_push, Nat.reduceEqDiff, Nat.reduceAdd, reduceCtorEq, List.map_cons, List.map_nil, Option.map_some, Nat.zero_add, Nat.zero_le, List.length_cons, List.length_nil, List.drop_zero, List.set_cons_zero, List.set_cons_succ, if_true, if_false, Bool.and_self, Nat.le_refl, ft_39_0, ft_39_1, kt_37, lt_2, lt_3, pl_30, zc_30, zt_30, f0, f4, f10, d1, d2, x1, ldE0, fdE1, b1]
      rw [hhA]
      refine callI_of cal20 (kvDel hA i v _ d.key a kaA) fun r h3 ⟨v2, e3, k3, kp3, d3⟩ => ?_
      subst e3
      cases hh : has a d.key
      · have p3 : delE a d.key = 6 := by simp [delE, hh]
        have p4 : delX a d.key = zC := by simp [delX, hh]
        rw [rm_no ka.srt d.key hh] at k3
        rw [p3, p4]
        obtain ⟨g3, s3, t3, c3, apt2, aqt2⟩ := after h3 zC v2 _ kp3 k3 d3
        have zce : chgE zC = [.int .i64 0, .int .i64 0, .int .i64 0, .int .i64 0, .bool false] := rfl
        rw [zce] at s3 t3 c3
        simp only [wpA_skip, wpA_region, wpA_seq, wpA_cond, condI_false, seqQ_normal, blkQ_normal, endI_mk, andThen_normal, goI_out, goI_ops, opsA_nil, opsA_cons, opsA_guardS, gvI_same, gvI_ft, slotAt_zero, slotAt_succ, stepA_move, stepA_assign, stepA_pick, stepA_build, stepA_load, stepA_store, stepA_binOp, stepA_extract, thenV_some, thenS_some, pickV_true, pickV_false, extV_zero, extV_succ, eval_tmp, eval_const, put_some, put_none, aBin_add, aBin_eql, aBin_neq, absV_int, absV_bool, cells_agg, one_int, one_bool, all_nil, all_cons, aLoad_eq, loadGo_row, aPlace_ptr, dropC_cells, aStore_eq, storeGo_ptr, setC_row, setAll_nil, setAll_cons, aBuild_go, aFill_nil, buildGo_struct, get_set_same, Int.reduceBEq, Int.reduceBNe, Nat.reduceEqDiff, Nat.reduceAdd, List.map_nil, Option.map_some, Nat.zero_add, Nat.zero_le, List.length_cons, List.length_nil, List.drop_zero, List.take_succ_cons, List.take_nil, List.set_cons_zero, List.set_cons_succ, if_true, if_false, Bool.and_self, Nat.le_refl, lt_30, pl_30, zc_30, zt_30, f10, zce, g3, zz_neq, hw]
        exact hid_mk ⟨(t + 1, v2, u, a), ⟨f0, f3, f4, f6, f8, rfl, by simp only; omega, s3, t3, c3, apt2, aqt2, art, by simp only; omega⟩, by simp only; omega⟩
      · have p3 : delE a d.key = 0 := by simp [delE, hh]
        have p4 : delX a d.key = ⟨d.key, 0, 0, 0, true⟩ := by simp [delX, hh]
        rw [p3, p4]
        have hln := len_rm ka.srt d.key hh
        obtain ⟨g3, s3, t3, c3, apt2, aqt2⟩ := after h3 ⟨d.key, 0, 0, 0, true⟩ v2 _ kp3 k3 d3
        simp only [wpA_region, wpA_seq, seqQ_normal, goI_out, goI_ops, opsA_nil, opsA_cons, opsA_guardS, gvI_same, slotAt_zero, slotAt_succ, stepA_move, stepA_assign, stepA_load, stepA_store, stepA_binOp, stepA_extract, stepA_call, thenV_some, thenS_some, extV_zero, extV_succ, eval_tmp, eval_const, put_some, put_none, aBin_eql, absV_int, aLoad_eq, loadGo_row, aPlace_ptr, aStore_eq, storeGo_ptr, get_set_same, beq_self_eq_true, Nat.reduceEqDiff, List.map_cons, List.map_nil, Option.map_some, if_true, if_false, lt_30, zt_30, f6, cc, st, g3, ldc, drc]
        refine callI_of cal21 (kvDo _ j u _ ⟨d.key, 0, 0, 0, true⟩ a t3) fun r h4 ⟨u2, e4, k4, kp4, d4⟩ => ?_
        subst e4
        rw [(doDel _ _ _).1] at k4
        rw [(doDel _ _ _).2, p3]
        simp only [wpA_skip, wpA_region, wpA_cond, condI_false, seqQ_normal, blkQ_normal, endI_mk, andThen_normal, goI_out, goI_ops, opsA_nil, opsA_cons, opsA_guardS, gvI_same, gvI_ft, slotAt_zero, slotAt_succ, stepA_move, stepA_assign, stepA_pick, stepA_binOp, thenV_some, pickV_true, pickV_false, eval_tmp, eval_const, put_some, put_none, aBin_add, aBin_neq, absV_int, absV_bool, bne_self_eq_false, Nat.reduceEqDiff, if_true, if_false, f10, hw]
        exact hid_mk ⟨(t + 1, v2, u2, rm a d.key), ⟨f0, f3, f4, f6, f8, rfl, by simp only; omega, apt2.symm.keep s3 kp4, k4, art.keep c3 kp4, (apt2.symm.step s3 d4).symm, aqt2, art.step c3 d4, by simp only; omega⟩, by simp only; omega⟩
    · have b1 : (d.kind == 1) = false := by simp [hk]
      simp only [wpA_skip, wpA_region, wpA_seq, wpA_cond, wpA_block, wpA_draw, condI_true, condI_false, seqQ_normal, goI_out, goI_ops, opsA_nil, opsA_cons, opsA_guardS, gvI_same, slotAt_zero, slotAt_succ, stepA_move, stepA_assign, stepA_pick, stepA_alloc, stepA_build, stepA_load, stepA_store, stepA_binOp, stepA_fieldAddr, stepA_indexAddr, stepA_len, thenV_some, thenH_some, thenS_some, pickV_true, eval_tmp, eval_const, put_some, put_none, aBin_eql, aBin_lss, absV_int, absV_bool, cells_agg, one_int, one_bool, all_nil, all_cons, aField_eq, fieldGo_at, aLoad_eq, aPlace_at, aStore_eq, storeGo_ptr, setC_row, setAll_nil, setAll_cons, aAlloc_eq, aLen_imm, aBuild_go, aFill_nil, buildGo_struct, get_push_new, set_push, Nat.reduceEqDiff, Nat.reduceAdd, reduceCtorEq, List.map_nil, Option.map_some, Nat.zero_add, Nat.zero_le, List.length_cons, List.length_nil, List.drop_zero, List.set_cons_zero, List.set_cons_succ, if_true, if_false, Bool.and_self, Nat.le_refl, ft_39_0, kt_37, lt_3, pl_30, zc_30, zt_30, f0, f10, d1, d2, x1, ldE0, b1]
      rw [hhA]
      have la2 := len_put_le ka.srt d.key d.val
      obtain ⟨_, p2, p3, p4⟩ := putL_room (k := d.key) (show (a.length : Int) < 1024 by omega) d.val
      refine SWp.drawnS (fun q => q = h'.n ∨ kvO i v q) [11, 15] (.q 0 (.q 1 (.q 2 (.q 3 (.q 4 (.q 5 (.q 6 (.q 7 (.q 8 (.q 9 (.q 10 (.e 11 (.q 12 (.q 13 (.q 14 (.e 15 (.q 16 .done) .stop)))) .stop)))))))))))) (by kernel_rfl) (by kernel_rfl) (by kernel_rfl) ?_
      simp only [mOk_move, mOk_fieldAddr, mOk_indexAddr, mOk_load, mOkV_at, nne2, nne3, nne4, nne1', nne2', nne3', siI_stop, siI_q, siI_e, sqI_some, seI_some, implies_true, qI_nil, qI_cons, thenQ_some, q_move, q_load, q_fieldAddr, q_indexAddr, goI_mk, opsA_cons, stepA_call, eval_tmp, put_some, put_none, aField_eq, fieldGo_at, aLoad_eq, loadGo_one, aPlace_at, List.getElem?_cons_zero, List.getElem?_cons_succ, Nat.reduceEqDiff, reduceCtorEq, List.map_cons, List.map_nil, and_true, true_and, if_true, if_false, ft_39_1, ft_39_2, lt_2, f0, f4, f10, x1, fdE1, fdE2]
      refine callI_of cal17 (kvPut hA i v _ d.key d.val a kaA) fun r h3 ⟨v2, e3, k3, kp3, d3⟩ => ?_
      subst e3
      rw [p2] at k3
      rw [p3, p4]
      obtain ⟨g3, s3, t3, c3, apt2, aqt2⟩ := after h3 ⟨d.key, 0, 0, d.val, false⟩ v2 _ kp3 k3 d3
      have kpM : Keep hA h3 (fun q => q = h'.n ∨ kvO i v q) := kp3.mono fun _ h => .inr h
      have kpN : Keep hA (h3.set h'.n (.cells (chgE ⟨d.key, 0, 0, d.val, false⟩) 30 none)) (fun q => q = h'.n ∨ kvO i v q) := kpM.trans' ((Keep.set _ _ _).mono fun _ h => .inl h)
      simp only [mOk_move, mOk_assign, mOk_extract, nne2, nne3, nne4, nne1', nne2', nne3', siI_done, siI_stop, siI_q, siI_e, sqI_some, seI_some, implies_true, qI_nil, qI_cons, thenQ_some, q_move, q_assign, q_extract, wpA_region, wpA_seq, seqQ_normal, goI_out, goI_ops, goI_mk, opsA_nil, opsA_cons, opsA_guardS, gvI_same, slotAt_zero, slotAt_succ, stepA_move, stepA_load, stepA_store, stepA_binOp, stepA_call, thenV_some, thenS_some, extV_zero, extV_succ, eval_tmp, eval_const, put_some, put_none, aBin_eql, absV_int, aLoad_eq, loadGo_row, aPlace_ptr, aStore_eq, storeGo_ptr, get_set_same, List.getElem?_cons_zero, List.getElem?_cons_succ, beq_self_eq_true, Bool.false_eq_true, Nat.reduceEqDiff, List.map_cons, List.map_nil, Option.map_some, and_true, true_and, if_true, if_false, lt_30, zt_30, f6, cc, st, g3, ldc, drc, kpM, kpN]
      refine callI_of cal21 (kvDo _ j u _ ⟨d.key, 0, 0, d.val, false⟩ a t3) fun r h4 ⟨u2, e4, k4, kp4, d4⟩ => ?_
      subst e4
      rw [(doPut _ _ _ _).1, p2] at k4
      rw [(doPut _ _ _ _).2, p3]
      simp only [wpA_skip, wpA_region, wpA_cond, condI_false, seqQ_normal, blkQ_normal, endI_mk, andThen_normal, goI_out, goI_ops, opsA_nil, opsA_cons, opsA_guardS, gvI_same, gvI_ft, slotAt_zero, slotAt_succ, stepA_move, stepA_assign, stepA_pick, stepA_binOp, thenV_some, pickV_true, pickV_false, eval_tmp, eval_const, put_some, put_none, aBin_add, aBin_neq, absV_int, absV_bool, bne_self_eq_false, Nat.reduceEqDiff, if_true, if_false, f10, hw]
      exact hid_mk ⟨(t + 1, v2, u2, put a d.key d.val), ⟨f0, f3, f4, f6, f8, rfl, by simp only; omega, apt2.symm.keep s3 kp4, k4, art.keep c3 kp4, (apt2.symm.step s3 d4).symm, aqt2, art.step c3 d4, by simp only; omega⟩, by simp only; omega⟩
  have hend : ∀ b1 b2 : Bool, decide ((t : Int) < ((ds.length : Nat) : Int)) = b1 → decide ((t : Int) < 300) = b2 → (b1 && b2) = false := fun b1 b2 h1 h2 => by
    rw [← h1, ← h2, Bool.and_eq_false_iff]
    simp only [decide_eq_false_iff_not]
    omega
  generalize hb1 : decide ((t : Int) < ((ds.length : Nat) : Int)) = b1 at hend
  generalize hb2 : decide ((t : Int) < 300) = b2 at hend
  have hbb := hend b1 b2 rfl rfl
  have hor : b1 = false ∨ (b1 = true ∧ b2 = false) := by
    cases b1
    · exact .inl rfl
    · exact .inr ⟨rfl, by simpa using hbb⟩
  clear hend hbb
  have hll : (listC a).length = a.length := by simp [listC]
  rcases hor with rfl | ⟨rfl, rfl⟩
  all_goals
    simp only [wpA_region, wpA_seq, wpA_cond, wpA_exit, condI_false, seqQ_normal, seqQ_exit, blkQ_exit, endI_mk, goE, andThen_exit, goI_out, goI_ops, opsA_nil, opsA_cons, opsA_guardS, gvI_same, gvI_ft, slotAt_zero, slotAt_succ, stepA_move, stepA_pick, stepA_binOp, stepA_len, stepA_call, thenV_some, pickV_true, pickV_false, eval_tmp, eval_const, put_some, aBin_lss, absV_int, absV_bool, aLen_imm, Nat.reduceEqDiff, reduceCtorEq, List.map_cons, List.map_nil, if_true, if_false, kt_37, f0, f4, f10, hb1, hb2]
    refine callI_pureG (fun f => f 3 = .bool true ∧ f 4 = .ptr i 0 ∧ f 6 = .ptr j 0 ∧ f 8 = .ptr q 0 ∧ f 106 = .imm (listC a).length ((listC a).flatMap chgE)) cal19 (kvList h' i v _ a ka) ⟨f3, f4, f6, f8, rfl⟩ ?_
    clear f0 f3 f4 f6 f8 f10
    rintro f ⟨f3, f4, f6, f8, f106⟩
    have wl : IntKind.i64.wrap ((((listC a).length : Nat) : Int) - 1) = ((a.length : Nat) : Int) - 1 := by rw [hll, Go.IntWalk.i64_in _ (by omega)]
    simp only [wpA_region, wpA_seq, wpA_block, wpA_loop, seqQ_normal, goI_out, goI_ops, opsA_nil, opsA_cons, stepA_move, stepA_assign, stepA_binOp, stepA_len, thenV_some, eval_tmp, eval_const, put_some, aBin_sub, absV_int, aLen_imm, Nat.reduceEqDiff, if_true, if_false, kt_34, f106, wl]
    refine SWp.loopG (α := Nat × V) (fun x f h2 => f 3 = .bool true ∧ f 4 = .ptr i 0 ∧ f 6 = .ptr j 0 ∧ f 8 = .ptr q 0 ∧ f 13 = .imm (listC a).length ((listC a).flatMap chgE) ∧ f 14 = .int .i64 ((x.1 : Int) - 1) ∧ x.1 ≤ a.length ∧
        IsKv h2 i v 1024 a ∧ IsKv h2 j u 1024 a ∧ IsKv h2 q x.2 1024 (a.drop x.1) ∧ Apart i v q x.2 ∧ Apart j u q x.2) (fun x => x.1) (a.length, .snil)
      ⟨f3, f4, f6, f8, rfl, rfl, Nat.le_refl _, ka, kb, by rw [List.drop_length]; exact kc, aqt, art⟩ ?_
    clear f3 f4 f6 f8 f106
    rintro ⟨n, w⟩ f h2 ⟨f3, f4, f6, f8, f13, f14, hn, k2a, k2b, k2c, aq2, ar2⟩
    simp only at f14 hn k2c aq2 ar2
    refine wpI_sound (by kernel_rfl) ?_
    by_cases h0 : n = 0
    · subst h0
      have d3 : decide ((0 : Int) ≤ ((0 : Nat) : Int) - 1) = false := decide_eq_false (by omega)
      rw [List.drop_zero] at k2c
      simp only [wpA_region, wpA_seq, wpA_cond, wpA_exit, condI_false, seqQ_normal, seqQ_exit, blkQ_exit, endI_mk, goE, andThen_exit, goI_out, goI_ops, opsA_nil, opsA_cons, opsA_guardS, gvI_same, slotAt_zero, slotAt_succ, stepA_move, stepA_binOp, stepA_call, thenV_some, eval_tmp, eval_const, put_some, aBin_geq, absV_int, Nat.reduceEqDiff, List.map_cons, List.map_nil, if_true, if_false, f3, f6, f14, d3]
      refine callI_pure cal19 (kvList h2 j u _ a k2b) ?_
      simp only [goI_ops, opsA_guardS, gvI_same, slotAt_zero, slotAt_succ, stepA_move, stepA_call, eval_tmp, put_some, Nat.reduceEqDiff, List.map_cons, List.map_nil, if_true, if_false, f13]
      refine callI_pure cal18 (pChgsEq (listC a) (listC a) h2 (by rw [hll]; omega)) ?_
      simp only [goI_ops, opsA_cons, opsA_guardS, gvI_same, slotAt_zero, slotAt_succ, stepA_move, stepA_pick, stepA_call, thenV_some, pickV_true, eval_tmp, eval_const, put_some, absV_bool, decide_true, Nat.reduceEqDiff, List.map_cons, List.map_nil, if_true, if_false, f8, decide_true]
      refine callI_pure cal19 (kvList h2 q w _ a k2c) ?_
      simp only [goI_ops, opsA_guardS, gvI_same, slotAt_zero, slotAt_succ, stepA_move, stepA_call, eval_tmp, put_some, Nat.reduceEqDiff, List.map_cons, List.map_nil, if_true, if_false, f13]
      refine callI_pure cal18 (pChgsEq (listC a) (listC a) h2 (by rw [hll]; omega)) ?_
      simp only [wpA_ret, seqQ_normal, endI_mk, goI_out, goI_ops, opsA_nil, opsA_cons, stepA_assign, stepA_pick, thenV_some, pickV_true, eval_tmp, eval_const, put_some, absV_bool, decide_true, Nat.reduceEqDiff, if_true, if_false, decide_true, retA_ret, Try.results4, resultsA_1]
      exact hid_mk rfl
    · have d3 : decide ((0 : Int) ≤ ((n : Nat) : Int) - 1) = true := decide_eq_true (by omega)
      have hn1 : n - 1 < (listC a).length := by omega
      have x1 := chg_ix (kk := .i64) hn1
      have hix : (((n - 1 : Nat)) : Int) = (n : Int) - 1 := by omega
      rw [hix] at x1
      have hel : (listC a)[n - 1] = ⟨(a[n - 1]'(by omega)).1, 0, 0, (a[n - 1]'(by omega)).2, false⟩ := by simp [listC, chgOf]
      rw [hel] at x1
      have hdr : a.drop (n - 1) = (a[n - 1]'(by omega)) :: a.drop n := by rw [List.drop_eq_getElem_cons (by omega), show n - 1 + 1 = n by omega]
      have hsr : Srt (a.drop (n - 1)) := List.Pairwise.sublist (List.drop_sublist _ _) k2a.srt
      have wm : IntKind.i64.wrap ((n : Int) - 1 - 1) = ((n - 1 : Nat) : Int) - 1 := by rw [Go.IntWalk.i64_in _ (by omega)]; omega
      generalize (a[n - 1]'(by omega)) = p at x1 hdr
      rw [hdr] at hsr
      obtain ⟨_, p2, p3, p4⟩ := putL_room (k := p.1) (l := a.drop n) (room := 1024) (by rw [List.length_drop]; omega) p.2
      simp only [wpA_skip, wpA_region, wpA_seq, wpA_cond, wpA_block, condI_true, seqQ_normal, goI_out, goI_ops, opsA_nil, opsA_cons, stepA_move, stepA_load, stepA_binOp, stepA_indexAddr, stepA_call, thenV_some, eval_tmp, eval_const, put_some, aBin_geq, absV_int, aLoad_eq, loadGo_row, aPlace_at, Nat.reduceEqDiff, List.map_cons, List.map_nil, if_true, if_false, lt_30, f8, f13, f14, d3, x1, ldC]
      refine callI_of cal21 (kvDo h2 q w _ ⟨p.1, 0, 0, p.2, false⟩ _ k2c) fun r h4 ⟨w2, e4, k4, kp4, d4⟩ => ?_
      subst e4
      rw [(doPut _ _ _ _).1, p2, put_front hsr, ← hdr] at k4
      rw [(doPut _ _ _ _).2, p3]
      simp only [wpA_skip, wpA_region, wpA_cond, condI_false, seqQ_normal, blkQ_normal, endI_mk, andThen_normal, goI_out, goI_ops, opsA_nil, opsA_cons, stepA_move, stepA_assign, stepA_binOp, thenV_some, eval_tmp, eval_const, put_some, aBin_sub, aBin_neq, absV_int, bne_self_eq_false, Nat.reduceEqDiff, if_true, if_false, f14, wm]
      exact hid_mk ⟨(n - 1, w2), ⟨f3, f4, f6, f8, f13, rfl, by simp only; omega, aq2.symm.keep k2a kp4, ar2.symm.keep k2b kp4, k4, (aq2.symm.step k2a d4).symm, (ar2.symm.step k2b d4).symm⟩, by simp only; omega⟩
end Go.Proofs.Ytecabknnggamhaa.Pk
