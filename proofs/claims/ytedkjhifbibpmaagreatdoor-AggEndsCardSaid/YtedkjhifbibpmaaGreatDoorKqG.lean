/-
  What functions of the program do, told of abstract states. Conditions: as each theorem says.
-/
import Derived.Test.YtedkjhifbibpmaaGreatDoorKqE
namespace Go.Proofs.YtedkjhifbibpmaaGreatDoor.Pk
open Go Go.Proofs Go.Proofs.YtedkjhifbibpmaaGreatDoor.Ab
set_option linter.unusedVariables false
set_option linter.unusedSimpArgs false
set_option maxRecDepth 10000
theorem SWp.frG {P : Program} {n : Nat} {c : Code} {Q : AExit → AFrame → AHeap → Prop} {f : AFrame} {h : AHeap} (R : AFrame → Prop) (hR : R f) (hk : ∀ f', R f' → SWp P n c Q f' h) : SWp P n c Q f h := hk f hR
theorem frW_div {t g : Int} (h0 : 0 ≤ t) : frW g t = t.tdiv g * g := by
  unfold frW
  rw [Int.tmod_eq_emod_of_nonneg h0, Int.tdiv_eq_ediv_of_nonneg h0]
  have := Int.emod_add_mul_ediv t g
  rw [Int.mul_comm]
  omega
theorem expC_to {g m : Int} {l : List Chg} {x : Chg} (hx : x ∈ expC (.win g) m l) : x.to ≤ m - g := by
  have := (inK_perm (.win g) ((l.filter (goneK (.win g) m)).map goneS)).mem_iff.1 hx
  obtain ⟨y, hy, rfl⟩ := List.mem_map.1 this
  have := (List.mem_filter.1 hy).2
  simp only [goneK, Bool.and_eq_true, decide_eq_true_eq] at this
  exact this.2
set_option maxHeartbeats 4000000 in
theorem aggEnds (n : Nat) (rs : List Rec) (m : Nat) (r : Rec) (hn : n < 256) (hr : rs.length < 2 ^ 47) (hm : m < 65536) (h : AHeap) (hg : KG h) :
    SCalls Tryz.prog 4 [.int .u8 (n : Nat), .imm rs.length (rs.flatMap recE), .int .u16 (m : Nat), .agg (recE r)] h (fun r h' => r = .bool true) := by
  obtain ⟨rk, rv, rt⟩ := r
  refine SCalls.enterI (c := _) Tryz.func4 rfl (by kernel_rfl) (by simp) ?_
  unfold recE
  obtain ⟨H0, hH0⟩ : ∃ y, y = h.push (.cells [.int .i64 rk, .int .i64 rv, .int .i64 rt] 38 none) := ⟨_, rfl⟩
  have k00 : Keep h H0 none_ := by rw [hH0]; exact Keep.push _ _ _
  have g00 : H0.get h.n = .cells [.int .i64 rk, .int .i64 rv, .int .i64 rt] 38 none := by rw [hH0]; exact get_push_new
  have n00 : H0.n = h.n + 1 := by rw [hH0]; rfl
  simp only [wpA_region, wpA_seq, seqQ_normal, goI_out, goI_ops, opsA_nil, opsA_cons, stepA_assign, stepA_box, stepA_call, thenH_some, eval_tmp, eval_const, enterF_zero, enterF_succ, absV_bool, cells_agg, aBox_eq, List.map_nil, Option.map_some]
  rw [← hH0]
  clear hH0
  refine callI_pure cal15 (pShownK H0 (hg.keep k00)) ?_
  simp only [wpA_region, wpA_seq, seqQ_normal, goI_out, goI_ops, opsA_nil, opsA_cons, stepA_move, stepA_assign, stepA_call, eval_tmp, eval_const, put_some, enterF_zero, enterF_succ, absV_int, Nat.reduceEqDiff, reduceCtorEq, List.map_cons, List.map_nil, if_true, if_false]
  have hu := pUsual 1 n (by decide) hn H0
  rw [show ((1 : Nat) : Int) = 1 from rfl] at hu
  refine callI_pure cal16 hu ?_
  have hkO := kOf_usual 1 n hn
  obtain ⟨N, hN⟩ : ∃ N, N = 1 + (n : Int) := ⟨_, rfl⟩
  rw [← hN] at hkO ⊢
  have hkO : kOf 7 N = some (.win N) := hkO
  have eX : encX ⟨kindN 1, [], sumE, N⟩ = [.int .i64 7, .imm 0 [], .int .i64 6, .int .i64 0, .imm 2 (encE (.mk 5 0 []) ++ encE (.mk 3 0 [])), .int .i64 N] := by simp [encX, sumE, encE_eq, i64V, kindN]
  have hnew : ∀ H', KG H' → SCalls Tryz.prog 17 [.agg (encX ⟨kindN 1, [], sumE, N⟩)] H' (fun r h' => ∃ a O, r = .tuple [.ptr a 0, .int .i64 0] ∧ Keep H' h' none_ ∧ (∀ q ∈ O, H'.n ≤ q) ∧ IsA h' a O (.win N) sumE N []) := fun H' hg' =>
    agNewK ⟨7, [], sumE, N⟩ hkO sum_may sum_ok H' hg'
  rw [eX] at hnew ⊢
  generalize (encE (.mk 5 0 []) ++ encE (.mk 3 0 [])) = zz at hnew ⊢
  obtain ⟨H, hH⟩ : ∃ y, y = H0.push (.cells [.int .i64 7, .imm 0 [], .int .i64 6, .int .i64 0, .imm 2 zz, .int .i64 N] 29 none) := ⟨_, rfl⟩
  have k0 : Keep H0 H none_ := by rw [hH]; exact Keep.push _ _ _
  have g10 : H.get H0.n = .cells [.int .i64 7, .imm 0 [], .int .i64 6, .int .i64 0, .imm 2 zz, .int .i64 N] 29 none := by rw [hH]; exact get_push_new
  have n0 : H.n = h.n + 2 := by rw [hH]; show H0.n + 1 = _; omega
  have g7 := (k0.get h.n (by omega) (by simp [none_])).trans g00
  simp only [wpA_region, wpA_seq, seqQ_normal, goI_out, goI_ops, opsA_nil, opsA_cons, stepA_alloc, stepA_load, stepA_store, stepA_call, thenV_some, thenH_some, thenS_some, eval_tmp, put_some, put_none, enterF_succ, cells_agg, one_int, one_imm, all_nil, all_cons, aLoad_eq, loadGo_row, aPlace_ptr, dropC_cells, aStore_eq, storeGo_ptr, setC_row, setAll_nil, setAll_cons, aAlloc_eq, get_push_new, set_push, Nat.reduceEqDiff, Nat.reduceAdd, List.map_cons, List.map_nil, Option.map_some, Nat.zero_add, Nat.zero_le, List.length_cons, List.length_nil, List.drop_zero, List.take_succ_cons, List.take_nil, List.set_cons_zero, List.set_cons_succ, if_true, if_false, Bool.and_self, Nat.le_refl, lt_29, zc_29, zt_29]
  rw [← hH]
  clear hH
  refine callI_of cal17 (hnew H ((hg.keep k00).keep k0)) fun r h1 ⟨a, O, e1, k1, hO, s1⟩ => ?_
  subst e1
  have g7' := (k1.get h.n (by omega) (by simp [none_])).trans g7
  have g10' := (k1.get H0.n (by omega) (by simp [none_])).trans g10
  have hq : ∀ q ∈ O, q ≠ h.n ∧ q ≠ H0.n := fun q hq => by have := hO q hq; omega
  have hn1 := k1.n
  simp only [wpA_skip, wpA_region, wpA_seq, wpA_cond, wpA_block, wpA_loop, condI_false, seqQ_normal, goI_out, goI_ops, opsA_nil, opsA_cons, opsA_guardS, gvI_same, slotAt_zero, slotAt_succ, stepA_move, stepA_assign, stepA_pick, stepA_binOp, stepA_extract, thenV_some, pickV_false, extV_zero, extV_succ, eval_tmp, eval_const, put_some, put_none, enterF_succ, aBin_neq, ptr_nil_eql, absV_int, absV_bool, absV_pnil, bne_self_eq_false, Nat.reduceEqDiff, if_true, if_false, kt_31]
  refine SWp.loopG (α := Nat × List Nat × List Chg) (fun x f h' => f 1 = .imm rs.length (rs.flatMap recE) ∧ f 2 = .int .u16 (m : Nat) ∧ f 7 = .ptr h.n 0 ∧ f 9 = .bool true ∧ f 10 = .ptr H0.n 0 ∧ f 11 = .ptr a 0 ∧ f 13 = .int .i64 (x.1 : Nat) ∧ x.1 ≤ 100 ∧
      IsA h' a x.2.1 (.win N) sumE N x.2.2 ∧ h'.get h.n = .cells [.int .i64 rk, .int .i64 rv, .int .i64 rt] 38 none ∧ h'.get H0.n = .cells [.int .i64 7, .imm 0 [], .int .i64 6, .int .i64 0, .imm 2 zz, .int .i64 N] 29 none ∧ h.n + 2 ≤ h'.n ∧
      (∀ q ∈ x.2.1, q ≠ h.n ∧ q ≠ H0.n) ∧ KG h') (fun x => 100 - x.1) (0, O, [])
    ⟨rfl, rfl, rfl, rfl, rfl, rfl, rfl, Nat.zero_le _, s1, g7', g10', by omega, hq, ((hg.keep k00).keep k0).keep k1⟩ ?_
  rintro ⟨t, P, l⟩ f h' ⟨f1, f2, f7, f9, f10, f11, f13, ht, sa, g7, g10, hn', hq, hgh⟩
  simp only at f13 ht sa hq
  refine wpI_sound (by kernel_rfl) ?_
  by_cases hlt : t < rs.length ∧ t < 100
  · have d1 : decide ((t : Int) < ((rs.length : Nat) : Int)) = true := decide_eq_true (by omega)
    have d2 : decide ((t : Int) < 100) = true := decide_eq_true (by omega)
    have hw := inc64 hlt.2 (by omega)
    obtain ⟨rr, x1⟩ := rec_ixA (kk := .i64) hlt.1
    generalize rs[t] = d at x1
    obtain ⟨zk, zv, zt⟩ := d
    simp only [recE, List.cons_append, List.nil_append] at x1
    simp only [wpA_skip, wpA_region, wpA_seq, wpA_cond, wpA_block, condI_true, seqQ_normal, goI_out, goI_ops, opsA_nil, opsA_cons, opsA_guardS, gvI_same, slotAt_zero, slotAt_succ, stepA_move, stepA_pick, stepA_load, stepA_binOp, stepA_indexAddr, stepA_len, stepA_call, thenV_some, pickV_true, eval_tmp, eval_const, put_some, aBin_lss, absV_int, absV_bool, aLoad_eq, loadGo_row, aPlace_at, aLen_imm, Nat.reduceEqDiff, Nat.reduceLeDiff, List.map_cons, List.map_nil, List.length_cons, List.take_succ_cons, List.take_zero, if_true, if_false, kt_49, lt_38, f1, f11, f13, d1, d2, x1]
    refine callI_of cal19 (agApplyK sa sum_may hgh ⟨zk, zv, zt⟩) fun r5 h5 ⟨P5, e5, k5, nl5, s5⟩ => ?_
    clear e5
    simp only [wpA_region, seqQ_normal, blkQ_normal, endI_mk, andThen_normal, goI_out, goI_ops, opsA_nil, opsA_cons, stepA_move, stepA_assign, stepA_binOp, thenV_some, eval_tmp, eval_const, put_some, aBin_add, absV_int, Nat.reduceEqDiff, if_true, if_false, f13, hw]
    have hn5 := k5.n
    exact hid_mk ⟨(t + 1, P5, _), ⟨f1, f2, f7, f9, f10, f11, rfl, by simp only; omega, s5, (k5.get h.n (by omega) fun hh => (hq _ hh).1 rfl).trans g7, (k5.get H0.n (by omega) fun hh => (hq _ hh).2 rfl).trans g10, by omega, fun q hh => by
      rcases nl5 q hh with hh | hh
      · exact hq q hh
      · omega, hgh.keep k5⟩, by simp only; omega⟩
  · have hend : ∀ b1 b2 : Bool, decide ((t : Int) < ((rs.length : Nat) : Int)) = b1 → decide ((t : Int) < 100) = b2 → (b1 && b2) = false := fun b1 b2 h1 h2 => by
      rw [← h1, ← h2, Bool.and_eq_false_iff]
      simp only [decide_eq_false_iff_not]
      omega
    generalize hb1 : decide ((t : Int) < ((rs.length : Nat) : Int)) = b1 at hend
    generalize hb2 : decide ((t : Int) < 100) = b2 at hend
    have hbb := hend b1 b2 rfl rfl
    have hor : b1 = false ∨ (b1 = true ∧ b2 = false) := by
      cases b1
      · exact .inl rfl
      · exact .inr ⟨rfl, by simpa using hbb⟩
    clear hend hbb
    have hwm : IntKind.i64.wrap (m : Int) = (m : Int) := Go.IntWalk.i64_in _ (by omega)
    rcases hor with rfl | ⟨rfl, rfl⟩
    all_goals
      simp only [wpA_region, wpA_seq, wpA_cond, wpA_exit, condI_false, seqQ_normal, seqQ_exit, blkQ_exit, endI_mk, goE, andThen_exit, goI_out, goI_ops, opsA_nil, opsA_cons, opsA_guardS, gvI_same, gvI_ft, slotAt_zero, slotAt_succ, stepA_move, stepA_pick, stepA_binOp, stepA_convert, stepA_len, stepA_call, thenV_some, thenC_some, pickV_true, pickV_false, eval_tmp, eval_const, put_some, aBin_lss, absV_int, absV_bool, aLen_imm, Nat.reduceEqDiff, List.map_cons, List.map_nil, if_true, if_false, kt_49, f1, f2, f11, f13, hb1, hb2, aConv_int it_50 it_2, hwm]
      refine callI_of cal18 (agExpK sa (m : Int) (by omega)) fun rl h3 ⟨P3, o3, n3, k3, nl3, s3⟩ => ?_
      have g73 := (k3.get h.n (by omega) fun hh => (hq _ hh).1 rfl).trans g7
      have g103 := (k3.get H0.n (by omega) fun hh => (hq _ hh).2 rfl).trans g10
      have hn3 := k3.n
      have hla := agLateK s3 ⟨rk, rv, rt⟩ (m : Int)
      simp only [recE] at hla
      simp only [wpA_region, wpA_seq, seqQ_normal, goI_out, goI_ops, opsA_nil, opsA_cons, stepA_move, stepA_assign, stepA_load, stepA_convert, stepA_call, thenV_some, thenC_some, eval_tmp, put_some, aLoad_eq, loadGo_row, aPlace_ptr, dropC_cells, Nat.reduceEqDiff, Nat.reduceAdd, List.map_cons, List.map_nil, Nat.zero_add, Nat.zero_le, List.length_cons, List.length_nil, List.drop_zero, List.take_succ_cons, List.take_nil, if_true, if_false, Nat.le_refl, lt_38, f2, f7, f11, g73, aConv_int it_50 it_2, hwm]
      refine callI_pure cal23 hla ?_
      generalize hLt : lateR (.win N) ⟨rk, rv, rt⟩ (m : Int) = lt
      clear hla
      have hor2 : (decide (0 ≤ rt) = false ∧ mayTa rt = false) ∨ (decide (0 ≤ rt) = true ∧ decide (rt ≤ 1099511627776) = false ∧ mayTa rt = false) ∨ (decide (0 ≤ rt) = true ∧ decide (rt ≤ 1099511627776) = true ∧ mayTa rt = true) := by
        unfold mayTa
        by_cases q1 : 0 ≤ rt <;> by_cases q2 : rt ≤ 1099511627776 <;> simp [q1, q2]
      rcases hor2 with ⟨q1, q3⟩ | ⟨q1, q2, q3⟩ | ⟨q1, q2, q3⟩
      · simp only [wpA_region, wpA_seq, wpA_block, wpA_loop, seqQ_normal, goI_out, goI_ops, opsA_nil, opsA_cons, opsA_guardS, gvI_ft, slotAt_zero, slotAt_succ, stepA_move, stepA_assign, stepA_pick, stepA_load, stepA_binOp, stepA_fieldAddr, thenV_some, pickV_false, eval_tmp, eval_const, put_some, aBin_geq, absV_int, absV_bool, aField_eq, fieldGo_ptr, aLoad_eq, loadGo_one, aPlace_ptr, dropC_cells, Nat.reduceEqDiff, Nat.reduceAdd, Nat.reduceLeDiff, Nat.zero_add, List.length_cons, List.length_nil, List.drop_zero, List.drop_succ_cons, if_true, if_false, ft_38_2, lt_2, f7, g73, q1]
        refine SWp.frG (fun f => f 2 = .int .u16 (m : Nat) ∧ f 7 = .ptr h.n 0 ∧ f 9 = .bool true ∧ f 10 = .ptr H0.n 0 ∧ f 14 = rl ∧ f 15 = .bool lt ∧ f 16 = .bool false ∧ f 17 = .int .i64 0) ⟨f2, f7, f9, f10, rfl, rfl, rfl, rfl⟩ ?_
        rintro f ⟨f2, f7, f9, f10, f14, f15, f16, f17⟩
        obtain ⟨h4, cst, k4⟩ := Cast.own o3 (n := (expC (.win N) (m : Int) l).length) (rows_len chgE_len _) (by decide)
        have hcl : (expC (.win N) (m : Int) l).length ≤ 1024 := expC_len sa.wf _
        have hto : ∀ x ∈ expC (.win N) (m : Int) l, x.to ≤ (m : Int) - N := fun x hx => expC_to hx
        have g74 := (k4.get h.n (by omega) fun hh => by have := (n3 _ hh).1; omega).trans g73
        have g104 := (k4.get H0.n (by omega) fun hh => by have := (n3 _ hh).1; omega).trans g103
        generalize expC (.win N) (m : Int) l = cs at cst hcl hto
        refine SWp.cast (CastF.slot (t := 14) (v := rowC cs) (by rw [f14]; exact cst)) ?_
        refine SWp.loopG (α := Nat) (fun x f h' => f 2 = .int .u16 (m : Nat) ∧ f 7 = .ptr h.n 0 ∧ f 9 = .bool true ∧ f 10 = .ptr H0.n 0 ∧ f 14 = .imm cs.length (cs.flatMap chgE) ∧ f 15 = .bool lt ∧ f 16 = .bool false ∧ f 17 = .int .i64 (x : Nat) ∧ x ≤ cs.length ∧ h' = h4) (fun x => cs.length - x) 0
          ⟨f2, f7, f9, f10, rfl, f15, f16, f17, Nat.zero_le _, rfl⟩ ?_
        clear f2 f7 f9 f10 f14 f15 f16 f17
        rintro k f h' ⟨f2, f7, f9, f10, f14, f15, f16, f17, hk, rfl⟩
        refine wpI_sound (by kernel_rfl) ?_
        by_cases hlt2 : k < cs.length
        · have e1 : decide ((k : Int) < ((cs.length : Nat) : Int)) = true := decide_eq_true (by omega)
          have hw2 := inc64 hlt2 (by omega)
          obtain ⟨rr2, x2⟩ := chg_ixJ (kk := .i64) hlt2
          have hto0 := hto cs[k] (List.getElem_mem _)
          generalize cs[k] = c0 at x2 hto0
          obtain ⟨zk, zf, zt, zv, zd⟩ := c0
          simp only [chgE, List.cons_append, List.nil_append] at x2 hto0
          have e0 : decide ((m : Int) < zt) = false := decide_eq_false (by omega)
          simp only [wpA_skip, wpA_region, wpA_seq, wpA_cond, wpA_block, wpA_draw, condI_true, seqQ_normal, goI_out, goI_ops, opsA_nil, opsA_cons, stepA_move, stepA_binOp, stepA_len, thenV_some, eval_tmp, put_some, aBin_lss, aLen_imm, Nat.reduceEqDiff, if_true, if_false, kt_35, f14, f17, e1]
          refine SWp.drawnS none_ [] (.q 0 (.q 1 (.q 2 (.q 3 (.q 4 (.q 5 (.q 6 (.q 7 (.q 8 (.q 9 (.q 10 (.q 11 (.q 12 (.q 13 (.q 14 (.q 15 (.q 16 (.q 17 (.q 18 (.q 19 (.q 20 (.q 21 (.q 22 (.q 23 (.q 24 (.q 25 (.q 26 (.q 27 (.q 28 (.q 29 (.q 30 (.q 31 (.q 32 (.q 33 (.q 34 .done))))))))))))))))))))))))))))))))))) (by kernel_rfl) (by kernel_rfl) (by kernel_rfl) ?_
          simp only [siI_done, siI_q, sqI_some, mOk_none', implies_true, qI_nil, qI_cons, qI_guard, qgI_same, qgI_ft, thenQ_some, q_move, q_pick, q_load, q_binOp, q_convert, q_fieldAddr, q_indexAddr, wpA_skip, wpA_region, wpA_cond, condI_false, seqQ_normal, blkQ_normal, endI_mk, andThen_normal, goI_out, goI_ops, goI_mk, opsA_nil, opsA_cons, slotAt_zero, slotAt_succ, stepA_move, stepA_assign, stepA_binOp, thenV_some, pickV_false, eval_tmp, eval_const, put_some, aBin_add, aBin_gtr, absV_int, absV_bool, aField_eq, fieldGo_at, aLoad_eq, loadGo_one, aPlace_at, List.getElem?_cons_zero, List.getElem?_cons_succ, Nat.reduceEqDiff, Nat.reduceLeDiff, List.length_cons, List.drop_zero, List.drop_succ_cons, true_and, if_true, if_false, ft_40_2, lt_2, f2, f14, f16, f17, x2, e0, aConv_int it_50 it_2, hwm, hw2]
          exact hid_mk ⟨k + 1, ⟨f2, f7, f9, f10, f14, f15, f16, rfl, hlt2, rfl⟩, by omega⟩
        · have e1 : decide ((k : Int) < ((cs.length : Nat) : Int)) = false := decide_eq_false (by omega)
          simp only [wpA_region, wpA_seq, wpA_cond, wpA_exit, wpA_draw, condI_false, seqQ_normal, seqQ_exit, blkQ_exit, endI_mk, goE, andThen_exit, goI_out, goI_ops, opsA_nil, opsA_cons, stepA_move, stepA_binOp, stepA_len, thenV_some, eval_tmp, put_some, aBin_lss, aLen_imm, Nat.reduceEqDiff, if_true, if_false, kt_35, f14, f17, e1]
          refine SWp.drawnS none_ [] (.q 0 (.q 1 (.q 2 (.q 3 (.q 4 (.q 5 (.q 6 (.q 7 (.q 8 (.q 9 (.q 10 (.q 11 (.q 12 (.q 13 (.q 14 (.q 15 (.q 16 (.q 17 (.q 18 (.q 19 (.q 20 (.q 21 .done)))))))))))))))))))))) (by kernel_rfl) (by kernel_rfl) (by kernel_rfl) ?_
          simp only [siI_done, siI_q, sqI_some, mOk_none', implies_true, qI_nil, qI_cons, qI_guard, qgI_same, qgI_tf, thenQ_some, q_move, q_assign, q_pick, q_unOp, wpA_ret, seqQ_normal, endI_mk, goI_out, goI_mk, slotAt_zero, slotAt_succ, pickV_true, eval_tmp, eval_const, put_some, aUn_not, absV_bool, List.getElem?_cons_zero, List.getElem?_cons_succ, Nat.reduceEqDiff, true_and, if_true, if_false, Bool.not_false, f9, f16, retA_ret, Tryz.results4, resultsA_1]
          exact hid_mk rfl
      · simp only [wpA_region, wpA_seq, wpA_block, wpA_loop, seqQ_normal, goI_out, goI_ops, opsA_nil, opsA_cons, opsA_guardS, gvI_same, slotAt_zero, slotAt_succ, stepA_move, stepA_assign, stepA_pick, stepA_load, stepA_binOp, stepA_fieldAddr, thenV_some, pickV_true, eval_tmp, eval_const, put_some, aBin_leq, aBin_geq, absV_int, absV_bool, aField_eq, fieldGo_ptr, aLoad_eq, loadGo_one, aPlace_ptr, dropC_cells, Nat.reduceEqDiff, Nat.reduceAdd, Nat.reduceLeDiff, Nat.zero_add, List.length_cons, List.length_nil, List.drop_zero, List.drop_succ_cons, if_true, if_false, ft_38_2, lt_2, f7, g73, q1, q2]
        refine SWp.frG (fun f => f 2 = .int .u16 (m : Nat) ∧ f 7 = .ptr h.n 0 ∧ f 9 = .bool true ∧ f 10 = .ptr H0.n 0 ∧ f 14 = rl ∧ f 15 = .bool lt ∧ f 16 = .bool false ∧ f 17 = .int .i64 0) ⟨f2, f7, f9, f10, rfl, rfl, rfl, rfl⟩ ?_
        rintro f ⟨f2, f7, f9, f10, f14, f15, f16, f17⟩
        obtain ⟨h4, cst, k4⟩ := Cast.own o3 (n := (expC (.win N) (m : Int) l).length) (rows_len chgE_len _) (by decide)
        have hcl : (expC (.win N) (m : Int) l).length ≤ 1024 := expC_len sa.wf _
        have hto : ∀ x ∈ expC (.win N) (m : Int) l, x.to ≤ (m : Int) - N := fun x hx => expC_to hx
        have g74 := (k4.get h.n (by omega) fun hh => by have := (n3 _ hh).1; omega).trans g73
        have g104 := (k4.get H0.n (by omega) fun hh => by have := (n3 _ hh).1; omega).trans g103
        generalize expC (.win N) (m : Int) l = cs at cst hcl hto
        refine SWp.cast (CastF.slot (t := 14) (v := rowC cs) (by rw [f14]; exact cst)) ?_
        refine SWp.loopG (α := Nat) (fun x f h' => f 2 = .int .u16 (m : Nat) ∧ f 7 = .ptr h.n 0 ∧ f 9 = .bool true ∧ f 10 = .ptr H0.n 0 ∧ f 14 = .imm cs.length (cs.flatMap chgE) ∧ f 15 = .bool lt ∧ f 16 = .bool false ∧ f 17 = .int .i64 (x : Nat) ∧ x ≤ cs.length ∧ h' = h4) (fun x => cs.length - x) 0
          ⟨f2, f7, f9, f10, rfl, f15, f16, f17, Nat.zero_le _, rfl⟩ ?_
        clear f2 f7 f9 f10 f14 f15 f16 f17
        rintro k f h' ⟨f2, f7, f9, f10, f14, f15, f16, f17, hk, rfl⟩
        refine wpI_sound (by kernel_rfl) ?_
        by_cases hlt2 : k < cs.length
        · have e1 : decide ((k : Int) < ((cs.length : Nat) : Int)) = true := decide_eq_true (by omega)
          have hw2 := inc64 hlt2 (by omega)
          obtain ⟨rr2, x2⟩ := chg_ixJ (kk := .i64) hlt2
          have hto0 := hto cs[k] (List.getElem_mem _)
          generalize cs[k] = c0 at x2 hto0
          obtain ⟨zk, zf, zt, zv, zd⟩ := c0
          simp only [chgE, List.cons_append, List.nil_append] at x2 hto0
          have e0 : decide ((m : Int) < zt) = false := decide_eq_false (by omega)
          simp only [wpA_skip, wpA_region, wpA_seq, wpA_cond, wpA_block, wpA_draw, condI_true, seqQ_normal, goI_out, goI_ops, opsA_nil, opsA_cons, stepA_move, stepA_binOp, stepA_len, thenV_some, eval_tmp, put_some, aBin_lss, aLen_imm, Nat.reduceEqDiff, if_true, if_false, kt_35, f14, f17, e1]
          refine SWp.drawnS none_ [] (.q 0 (.q 1 (.q 2 (.q 3 (.q 4 (.q 5 (.q 6 (.q 7 (.q 8 (.q 9 (.q 10 (.q 11 (.q 12 (.q 13 (.q 14 (.q 15 (.q 16 (.q 17 (.q 18 (.q 19 (.q 20 (.q 21 (.q 22 (.q 23 (.q 24 (.q 25 (.q 26 (.q 27 (.q 28 (.q 29 (.q 30 (.q 31 (.q 32 (.q 33 (.q 34 .done))))))))))))))))))))))))))))))))))) (by kernel_rfl) (by kernel_rfl) (by kernel_rfl) ?_
          simp only [siI_done, siI_q, sqI_some, mOk_none', implies_true, qI_nil, qI_cons, qI_guard, qgI_same, qgI_ft, thenQ_some, q_move, q_pick, q_load, q_binOp, q_convert, q_fieldAddr, q_indexAddr, wpA_skip, wpA_region, wpA_cond, condI_false, seqQ_normal, blkQ_normal, endI_mk, andThen_normal, goI_out, goI_ops, goI_mk, opsA_nil, opsA_cons, slotAt_zero, slotAt_succ, stepA_move, stepA_assign, stepA_binOp, thenV_some, pickV_false, eval_tmp, eval_const, put_some, aBin_add, aBin_gtr, absV_int, absV_bool, aField_eq, fieldGo_at, aLoad_eq, loadGo_one, aPlace_at, List.getElem?_cons_zero, List.getElem?_cons_succ, Nat.reduceEqDiff, Nat.reduceLeDiff, List.length_cons, List.drop_zero, List.drop_succ_cons, true_and, if_true, if_false, ft_40_2, lt_2, f2, f14, f16, f17, x2, e0, aConv_int it_50 it_2, hwm, hw2]
          exact hid_mk ⟨k + 1, ⟨f2, f7, f9, f10, f14, f15, f16, rfl, hlt2, rfl⟩, by omega⟩
        · have e1 : decide ((k : Int) < ((cs.length : Nat) : Int)) = false := decide_eq_false (by omega)
          simp only [wpA_region, wpA_seq, wpA_cond, wpA_exit, wpA_draw, condI_false, seqQ_normal, seqQ_exit, blkQ_exit, endI_mk, goE, andThen_exit, goI_out, goI_ops, opsA_nil, opsA_cons, stepA_move, stepA_binOp, stepA_len, thenV_some, eval_tmp, put_some, aBin_lss, aLen_imm, Nat.reduceEqDiff, if_true, if_false, kt_35, f14, f17, e1]
          refine SWp.drawnS none_ [] (.q 0 (.q 1 (.q 2 (.q 3 (.q 4 (.q 5 (.q 6 (.q 7 (.q 8 (.q 9 (.q 10 (.q 11 (.q 12 (.q 13 (.q 14 (.q 15 (.q 16 (.q 17 (.q 18 (.q 19 (.q 20 (.q 21 .done)))))))))))))))))))))) (by kernel_rfl) (by kernel_rfl) (by kernel_rfl) ?_
          simp only [siI_done, siI_q, sqI_some, mOk_none', implies_true, qI_nil, qI_cons, qI_guard, qgI_same, qgI_tf, thenQ_some, q_move, q_assign, q_pick, q_unOp, wpA_ret, seqQ_normal, endI_mk, goI_out, goI_mk, slotAt_zero, slotAt_succ, pickV_true, eval_tmp, eval_const, put_some, aUn_not, absV_bool, List.getElem?_cons_zero, List.getElem?_cons_succ, Nat.reduceEqDiff, true_and, if_true, if_false, Bool.not_false, f9, f16, retA_ret, Tryz.results4, resultsA_1]
          exact hid_mk rfl
      · simp only [wpA_region, wpA_seq, wpA_block, wpA_loop, seqQ_normal, goI_out, goI_ops, opsA_nil, opsA_cons, opsA_guardS, gvI_same, slotAt_zero, slotAt_succ, stepA_move, stepA_assign, stepA_pick, stepA_load, stepA_binOp, stepA_fieldAddr, thenV_some, pickV_true, eval_tmp, eval_const, put_some, aBin_leq, aBin_geq, absV_int, absV_bool, aField_eq, fieldGo_ptr, aLoad_eq, loadGo_one, aPlace_ptr, dropC_cells, Nat.reduceEqDiff, Nat.reduceAdd, Nat.reduceLeDiff, Nat.zero_add, List.length_cons, List.length_nil, List.drop_zero, List.drop_succ_cons, if_true, if_false, ft_38_2, lt_2, f7, g73, q1, q2]
        have hrt : 0 ≤ rt ∧ rt ≤ 1099511627776 := ⟨of_decide_eq_true q1, of_decide_eq_true q2⟩
        have hN0 : N ≠ 0 := by omega
        have hLt2 : lt = decide (frW N rt + N ≤ (m : Int)) := by rw [← hLt, lateR, q3]; rfl
        have hfr := frW_rng (size := N) hrt.1 (by omega)
        have hfd := frW_div (g := N) hrt.1
        have tdr : 0 ≤ rt.tdiv N ∧ rt.tdiv N ≤ rt := by
          rw [Int.tdiv_eq_ediv_of_nonneg hrt.1]
          exact ⟨Int.ediv_nonneg hrt.1 (by omega), Int.ediv_le_self _ hrt.1⟩
        have wq : IntKind.i64.wrap (rt.tdiv N) = rt.tdiv N := Go.IntWalk.i64_in _ (by omega)
        have wq1 : IntKind.i64.wrap (rt.tdiv N + 1) = rt.tdiv N + 1 := Go.IntWalk.i64_in _ (by omega)
        have hmul : (rt.tdiv N + 1) * N = frW N rt + N := by rw [Int.add_mul, hfd, Int.one_mul]
        have wq2 : IntKind.i64.wrap ((rt.tdiv N + 1) * N) = frW N rt + N := by rw [hmul]; exact Go.IntWalk.i64_in _ (by omega)
        have hfin : (lt == decide (frW N rt + N ≤ (m : Int))) = true := by rw [hLt2]; simp
        refine SWp.frG (fun f => f 2 = .int .u16 (m : Nat) ∧ f 7 = .ptr h.n 0 ∧ f 9 = .bool true ∧ f 10 = .ptr H0.n 0 ∧ f 14 = rl ∧ f 15 = .bool lt ∧ f 16 = .bool true ∧ f 17 = .int .i64 0) ⟨f2, f7, f9, f10, rfl, rfl, rfl, rfl⟩ ?_
        rintro f ⟨f2, f7, f9, f10, f14, f15, f16, f17⟩
        obtain ⟨h4, cst, k4⟩ := Cast.own o3 (n := (expC (.win N) (m : Int) l).length) (rows_len chgE_len _) (by decide)
        have hcl : (expC (.win N) (m : Int) l).length ≤ 1024 := expC_len sa.wf _
        have hto : ∀ x ∈ expC (.win N) (m : Int) l, x.to ≤ (m : Int) - N := fun x hx => expC_to hx
        have g74 := (k4.get h.n (by omega) fun hh => by have := (n3 _ hh).1; omega).trans g73
        have g104 := (k4.get H0.n (by omega) fun hh => by have := (n3 _ hh).1; omega).trans g103
        generalize expC (.win N) (m : Int) l = cs at cst hcl hto
        refine SWp.cast (CastF.slot (t := 14) (v := rowC cs) (by rw [f14]; exact cst)) ?_
        refine SWp.loopG (α := Nat) (fun x f h' => f 2 = .int .u16 (m : Nat) ∧ f 7 = .ptr h.n 0 ∧ f 9 = .bool true ∧ f 10 = .ptr H0.n 0 ∧ f 14 = .imm cs.length (cs.flatMap chgE) ∧ f 15 = .bool lt ∧ f 16 = .bool true ∧ f 17 = .int .i64 (x : Nat) ∧ x ≤ cs.length ∧ h' = h4) (fun x => cs.length - x) 0
          ⟨f2, f7, f9, f10, rfl, f15, f16, f17, Nat.zero_le _, rfl⟩ ?_
        clear f2 f7 f9 f10 f14 f15 f16 f17
        rintro k f h' ⟨f2, f7, f9, f10, f14, f15, f16, f17, hk, rfl⟩
        refine wpI_sound (by kernel_rfl) ?_
        by_cases hlt2 : k < cs.length
        · have e1 : decide ((k : Int) < ((cs.length : Nat) : Int)) = true := decide_eq_true (by omega)
          have hw2 := inc64 hlt2 (by omega)
          obtain ⟨rr2, x2⟩ := chg_ixJ (kk := .i64) hlt2
          have hto0 := hto cs[k] (List.getElem_mem _)
          generalize cs[k] = c0 at x2 hto0
          obtain ⟨zk, zf, zt, zv, zd⟩ := c0
          simp only [chgE, List.cons_append, List.nil_append] at x2 hto0
          have e0 : decide ((m : Int) < zt) = false := decide_eq_false (by omega)
          simp only [wpA_skip, wpA_region, wpA_seq, wpA_cond, wpA_block, wpA_draw, condI_true, seqQ_normal, goI_out, goI_ops, opsA_nil, opsA_cons, stepA_move, stepA_binOp, stepA_len, thenV_some, eval_tmp, put_some, aBin_lss, aLen_imm, Nat.reduceEqDiff, if_true, if_false, kt_35, f14, f17, e1]
          cases hlt3 : lt with
          | true =>
            rw [hlt3] at f15
            refine SWp.drawnS none_ [] (.q 0 (.q 1 (.q 2 (.q 3 (.q 4 (.q 5 (.q 6 (.q 7 (.q 8 (.q 9 (.q 10 (.q 11 (.q 12 (.q 13 (.q 14 (.q 15 (.q 16 (.q 17 (.q 18 (.q 19 (.q 20 (.q 21 (.q 22 (.q 23 (.q 24 (.q 25 (.q 26 (.q 27 (.q 28 (.q 29 (.q 30 (.q 31 (.q 32 (.q 33 (.q 34 .done))))))))))))))))))))))))))))))))))) (by kernel_rfl) (by kernel_rfl) (by kernel_rfl) ?_
            simp only [siI_done, siI_q, sqI_some, mOk_none', implies_true, qI_nil, qI_cons, qI_guard, qgI_same, qgI_ft, thenQ_some, q_move, q_pick, q_load, q_binOp, q_unOp, q_convert, q_fieldAddr, q_indexAddr, wpA_skip, wpA_region, wpA_cond, condI_false, seqQ_normal, blkQ_normal, endI_mk, andThen_normal, goI_out, goI_ops, goI_mk, opsA_nil, opsA_cons, slotAt_zero, slotAt_succ, stepA_move, stepA_assign, stepA_binOp, thenV_some, pickV_true, pickV_false, eval_tmp, eval_const, put_some, aBin_add, aBin_gtr, aUn_not, absV_int, absV_bool, aField_eq, fieldGo_at, aLoad_eq, loadGo_one, aPlace_at, List.getElem?_cons_zero, List.getElem?_cons_succ, Nat.reduceEqDiff, Nat.reduceLeDiff, List.length_cons, List.drop_zero, List.drop_succ_cons, true_and, if_true, if_false, Bool.not_true, ft_40_2, lt_2, f2, f14, f15, f16, f17, x2, e0, aConv_int it_50 it_2, hwm, hw2]
            exact hid_mk ⟨k + 1, ⟨f2, f7, f9, f10, f14, f15, f16, rfl, hlt2, rfl⟩, by omega⟩
          | false =>
            rw [hlt3] at f15
            have hlt4 : (m : Int) < frW N rt + N := by rw [hlt3] at hLt2; have := of_decide_eq_false hLt2.symm; omega
            have e3 : decide (rt < zt) = false := decide_eq_false (by omega)
            cases e2 : decide (zf ≤ rt)
            all_goals
              refine SWp.drawnS none_ [] (.q 0 (.q 1 (.q 2 (.q 3 (.q 4 (.q 5 (.q 6 (.q 7 (.q 8 (.q 9 (.q 10 (.q 11 (.q 12 (.q 13 (.q 14 (.q 15 (.q 16 (.q 17 (.q 18 (.q 19 (.q 20 (.q 21 (.q 22 (.q 23 (.q 24 (.q 25 (.q 26 (.q 27 (.q 28 (.q 29 (.q 30 (.q 31 (.q 32 (.q 33 (.q 34 .done))))))))))))))))))))))))))))))))))) (by kernel_rfl) (by kernel_rfl) (by kernel_rfl) ?_
              simp only [siI_done, siI_q, sqI_some, mOk_none', implies_true, qI_nil, qI_cons, qI_guard, qgI_same, qgI_ft, thenQ_some, q_move, q_pick, q_load, q_binOp, q_unOp, q_convert, q_fieldAddr, q_indexAddr, wpA_skip, wpA_region, wpA_cond, condI_false, seqQ_normal, blkQ_normal, endI_mk, andThen_normal, goI_out, goI_ops, goI_mk, opsA_nil, opsA_cons, slotAt_zero, slotAt_succ, stepA_move, stepA_assign, stepA_binOp, thenV_some, pickV_true, pickV_false, eval_tmp, eval_const, put_some, aBin_add, aBin_lss, aBin_leq, aBin_gtr, aUn_not, absV_int, absV_bool, aField_eq, fieldGo_ptr, fieldGo_at, aLoad_eq, loadGo_one, aPlace_ptr, aPlace_at, dropC_cells, List.getElem?_cons_zero, List.getElem?_cons_succ, Nat.reduceEqDiff, Nat.reduceAdd, Nat.reduceLeDiff, Nat.zero_add, List.length_cons, List.length_nil, List.drop_zero, List.drop_succ_cons, true_and, if_true, if_false, Bool.not_false, ft_38_2, ft_40_1, ft_40_2, lt_2, f2, f7, f14, f15, f16, f17, x2, e0, g74, aConv_int it_50 it_2, hwm, hw2, e2, e3]
              exact hid_mk ⟨k + 1, ⟨f2, f7, f9, f10, f14, f15, f16, rfl, hlt2, rfl⟩, by omega⟩
        · have e1 : decide ((k : Int) < ((cs.length : Nat) : Int)) = false := decide_eq_false (by omega)
          simp only [wpA_region, wpA_seq, wpA_cond, wpA_exit, wpA_draw, condI_false, seqQ_normal, seqQ_exit, blkQ_exit, endI_mk, goE, andThen_exit, goI_out, goI_ops, opsA_nil, opsA_cons, stepA_move, stepA_binOp, stepA_len, thenV_some, eval_tmp, put_some, aBin_lss, aLen_imm, Nat.reduceEqDiff, if_true, if_false, kt_35, f14, f17, e1]
          refine SWp.drawnS none_ [] (.q 0 (.q 1 (.q 2 (.q 3 (.q 4 (.q 5 (.q 6 (.q 7 (.q 8 (.q 9 (.q 10 (.q 11 (.q 12 (.q 13 (.q 14 (.q 15 (.q 16 (.q 17 (.q 18 (.q 19 (.q 20 (.q 21 .done)))))))))))))))))))))) (by kernel_rfl) (by kernel_rfl) (by kernel_rfl) ?_
          simp only [siI_done, siI_q, sqI_some, mOk_none', implies_true, qI_nil, qI_cons, qI_guard, qgI_same, thenQ_some, q_move, q_assign, q_pick, q_load, q_binOp, q_unOp, q_convert, q_fieldAddr, wpA_ret, seqQ_normal, endI_mk, goI_out, goI_mk, slotAt_zero, slotAt_succ, pickV_true, pickV_false, eval_tmp, eval_const, put_some, aBin_add, aBin_mul, aBin_leq, aUn_not, aBin_bool_eql, absV_int, absV_bool, aField_eq, fieldGo_ptr, aLoad_eq, loadGo_one, aPlace_ptr, dropC_cells, List.getElem?_cons_zero, List.getElem?_cons_succ, Nat.reduceEqDiff, Nat.reduceAdd, Nat.reduceLeDiff, Nat.zero_add, List.length_cons, List.length_nil, List.drop_zero, List.drop_succ_cons, true_and, if_true, if_false, Bool.not_true, bt_4, ft_29_3, ft_38_2, lt_2, f2, f7, f9, f10, f15, f16, g74, g104, aConv_int it_50 it_2, hwm, aBin_quo hN0, wq, wq1, wq2, hfin, retA_ret, Tryz.results4, resultsA_1]
          exact hid_mk rfl
end Go.Proofs.YtedkjhifbibpmaaGreatDoor.Pk
