/-
  What functions of the program do, told of abstract states. Conditions: as each theorem says.
-/
import Derived.Test.YthnleejpeocaeaaDoorFlB
namespace Go.Proofs.YthnleejpeocaeaaDoor.Pk
open Go Go.Proofs Go.Proofs.YthnleejpeocaeaaDoor.Ab
set_option linter.unusedVariables false
set_option linter.unusedSimpArgs false

theorem rec_neq (a b : Rec) {xo yo : Operand} : aBin Tryd.prog .neq 24 xo yo (.agg (recE a)) (.agg (recE b)) = some (.bool (decide (a ≠ b))) := by
  have h : eqK [0, 0, 0] (recE a) (recE b) = some (decide (a = b)) := by
    simp only [recE, eqK, if_true, Option.map_some, Option.some.injEq]
    rw [Bool.eq_iff_iff]
    simp only [Bool.and_eq_true, beq_iff_eq, decide_eq_true_eq, Bool.and_true]
    constructor
    · rintro ⟨h1, h2, h3⟩; cases a; cases b; simp_all
    · rintro rfl; simp
  rw [aBin_sk_neq sk_24 h]
  simp
theorem rec_ix {l : List Rec} {k : Nat} (hk : k < l.length) {kk : IntKind} : aIndexAddr Tryd.prog 28 (.imm l.length (l.flatMap recE)) (.int kk (k : Int)) = some (.at (recE l[k] ++ (l.drop (k + 1)).flatMap recE)) := rows_ix recE_len hk ss_28
set_option maxRecDepth 10000 in
theorem pRecsEq (a b : List Rec) (h : AHeap) (ha : a.length ≤ 2 ^ 61) : Pure Tryd.prog 8 [.imm a.length (a.flatMap recE), .imm b.length (b.flatMap recE)] h (.bool (decide (a = b))) := by
  refine Pure.val (Clo.bool _) ?_
  refine SCalls.enterI (c := _) Tryd.func8 rfl (by kernel_rfl) (by simp) ?_
  by_cases hne : a.length = b.length
  rotate_left
  · have c1 : (((a.length : Nat) : Int) != ((b.length : Nat) : Int)) = true := by simp; omega
    have hG : decide (a = b) = false := by simp only [decide_eq_false_iff_not]; rintro rfl; exact hne rfl
    simp only [wpA_region, wpA_seq, wpA_cond, wpA_ret, condI_true, seqQ_normal, seqQ_ret, endI_mk, goI_out, goI_ops, opsA_nil, opsA_cons, stepA_move, stepA_assign, stepA_binOp, stepA_len, thenV_some, eval_tmp, eval_const, put_some, enterF_zero, enterF_succ, aBin_neq, absV_bool, aLen_imm, Nat.reduceEqDiff, reduceCtorEq, if_true, if_false, kt_28, c1, retA_ret, Tryd.results8, resultsA_1]
    exact hid_mk ⟨by rw [hG], Keep.refl _ _⟩
  have c1 : (((a.length : Nat) : Int) != ((b.length : Nat) : Int)) = false := by simp [hne]
  simp only [wpA_skip, wpA_region, wpA_seq, wpA_cond, wpA_block, wpA_loop, condI_false, seqQ_normal, goI_out, goI_ops, opsA_nil, opsA_cons, stepA_move, stepA_assign, stepA_binOp, stepA_len, thenV_some, eval_tmp, eval_const, put_some, enterF_zero, enterF_succ, aBin_neq, absV_int, absV_bool, aLen_imm, Nat.reduceEqDiff, reduceCtorEq, if_true, if_false, kt_28, c1]
  refine SWp.loopG (α := Nat) (fun i f h' => f 0 = .imm a.length (a.flatMap recE) ∧ f 1 = .imm b.length (b.flatMap recE) ∧ f 5 = .int .i64 (i : Nat) ∧ Keep h h' none_ ∧ i ≤ a.length ∧ a.take i = b.take i) (fun i => a.length - i) 0
    ⟨rfl, rfl, rfl, Keep.refl _ _, Nat.zero_le _, rfl⟩ ?_
  rintro i f h1 ⟨f0, f1, f5, k1, hi, hT⟩
  refine wpI_sound (by kernel_rfl) ?_
  by_cases hlt : i < a.length
  rotate_left
  · have c3 : decide ((i : Int) < ((a.length : Nat) : Int)) = false := by simp only [decide_eq_false_iff_not]; omega
    rw [List.take_of_length_le (by omega), List.take_of_length_le (by omega)] at hT
    simp only [wpA_region, wpA_seq, wpA_cond, wpA_exit, wpA_ret, condI_false, seqQ_normal, seqQ_exit, blkQ_exit, endI_mk, goE, andThen_exit, goI_out, goI_ops, opsA_nil, opsA_cons, stepA_move, stepA_assign, stepA_binOp, stepA_len, thenV_some, eval_tmp, eval_const, put_some, aBin_lss, absV_bool, aLen_imm, Nat.reduceEqDiff, reduceCtorEq, if_true, if_false, kt_28, f0, f5, c3, retA_ret, Tryd.results8, resultsA_1]
    exact hid_mk ⟨by rw [hT]; simp, k1⟩
  · have c3 : decide ((i : Int) < ((a.length : Nat) : Int)) = true := by simp only [decide_eq_true_eq]; omega
    have hltb : i < b.length := by omega
    have w1 : IntKind.i64.wrap ((i : Int) + 1) = ((i + 1 : Nat) : Int) := inc64 hlt (by omega)
    have x0 := rec_ix (kk := .i64) hlt
    have x1 := rec_ix (kk := .i64) hltb
    have lr : ∀ (x : Rec) (q : List V), loadGo (some (some 3)) (some (recE x ++ q)) = some (.agg (recE x)) := fun x q => load_row (recE_len x)
    by_cases heq : a[i] = b[i]
    · have hT' : a.take (i + 1) = b.take (i + 1) := by rw [List.take_succ_eq_append_getElem hlt, List.take_succ_eq_append_getElem hltb, hT, heq]
      simp only [wpA_skip, wpA_region, wpA_seq, wpA_cond, wpA_block, wpA_draw, condI_true, seqQ_normal, goI_out, goI_ops, opsA_nil, opsA_cons, stepA_move, stepA_binOp, stepA_len, thenV_some, eval_tmp, put_some, aBin_lss, aLen_imm, Nat.reduceEqDiff, reduceCtorEq, if_true, if_false, kt_28, f0, f5, c3]
      generalize a[i] = A at *
      generalize b[i] = B at *
      subst heq
      have n1 : ∀ xo yo, aBin Tryd.prog .neq 24 xo yo (.agg (recE A)) (.agg (recE A)) = some (.bool false) := fun xo yo => by rw [rec_neq]; simp
      refine SWp.drawnS none_ [] (.q 0 (.q 1 (.q 2 (.q 3 (.q 4 (.q 5 (.q 6 (.q 7 (.q 8 .done))))))))) (by kernel_rfl) (by kernel_rfl) (by kernel_rfl) ?_
      simp only [siI_done, siI_q, sqI_some, mOk_none', implies_true, qI_nil, qI_cons, thenQ_some, q_move, q_load, q_binOp, q_indexAddr, wpA_skip, wpA_region, wpA_cond, condI_false, seqQ_normal, blkQ_normal, endI_mk, andThen_normal, goI_out, goI_ops, goI_mk, opsA_nil, opsA_cons, stepA_move, stepA_assign, stepA_binOp, thenV_some, eval_tmp, eval_const, put_some, aBin_add, absV_int, aLoad_eq, aPlace_at, List.getElem?_cons_zero, List.getElem?_cons_succ, Nat.reduceEqDiff, reduceCtorEq, true_and, if_true, if_false, lt_24, f0, f1, f5, x0, x1, n1, lr, w1]
      exact hid_mk ⟨i + 1, ⟨f0, f1, rfl, k1, by omega, hT'⟩, by omega⟩
    · have hG : decide (a = b) = false := by simp only [decide_eq_false_iff_not]; rintro rfl; exact heq rfl
      simp only [wpA_skip, wpA_region, wpA_seq, wpA_cond, wpA_block, wpA_draw, condI_true, seqQ_normal, goI_out, goI_ops, opsA_nil, opsA_cons, stepA_move, stepA_binOp, stepA_len, thenV_some, eval_tmp, put_some, aBin_lss, aLen_imm, Nat.reduceEqDiff, reduceCtorEq, if_true, if_false, kt_28, f0, f5, c3]
      generalize a[i] = A at *
      generalize b[i] = B at *
      have n1 : ∀ xo yo, aBin Tryd.prog .neq 24 xo yo (.agg (recE A)) (.agg (recE B)) = some (.bool true) := fun xo yo => by rw [rec_neq]; simp [heq]
      refine SWp.drawnS none_ [] (.q 0 (.q 1 (.q 2 (.q 3 (.q 4 (.q 5 (.q 6 (.q 7 (.q 8 .done))))))))) (by kernel_rfl) (by kernel_rfl) (by kernel_rfl) ?_
      simp only [siI_done, siI_q, sqI_some, mOk_none', implies_true, qI_nil, qI_cons, thenQ_some, q_move, q_load, q_binOp, q_indexAddr, wpA_region, wpA_seq, wpA_cond, wpA_ret, condI_true, seqQ_normal, seqQ_ret, blkQ_ret, endI_mk, goE, andThen_ret, goI_out, goI_ops, goI_mk, opsA_nil, opsA_cons, stepA_assign, eval_tmp, eval_const, put_some, absV_bool, aLoad_eq, aPlace_at, List.getElem?_cons_zero, List.getElem?_cons_succ, Nat.reduceEqDiff, reduceCtorEq, true_and, if_true, if_false, lt_24, f0, f1, f5, x0, x1, n1, lr, retA_ret, Tryd.results8, resultsA_1]
      exact hid_mk ⟨by rw [hG], k1⟩


theorem pCon17 (n : Int) (h : AHeap) : Pure Tryd.prog 10 [.int .i64 n] h (.agg (encE (.mk 1 n []))) := by
  refine Pure.of (Clo.agg (encE_clo _)) ?_
  refine SCalls.enterI (c := _) Tryd.func10 rfl (by kernel_rfl) (by simp) ?_
  simp only [wpA_region, wpA_seq, wpA_ret, seqQ_normal, endI_mk, goI_out, goI_ops, opsA_nil, opsA_cons, stepA_move, stepA_alloc, stepA_build, stepA_store, thenV_some, thenH_some, thenS_some, eval_tmp, eval_const, put_some, put_none, enterF_zero, enterF_succ, absV_int, cells_int, cells_agg, one_int, one_snil, all_nil, all_cons, aLoad_eq, loadGo_row, aPlace_ptr, dropC_cells, aStore_eq, storeGo_ptr, setC_row, setAll_nil, setAll_cons, aAlloc_eq, aBuild_go, aFill_nil, aFill_cons, fillGo_some, buildGo_struct, get_push_new, set_push, List.getElem?_cons_zero, List.getElem?_cons_succ, Nat.reduceEqDiff, Nat.reduceAdd, Nat.reduceLeDiff, reduceCtorEq, List.map_cons, List.map_nil, Option.map_some, Nat.zero_add, Nat.zero_le, List.length_cons, List.length_nil, List.drop_zero, List.take_succ_cons, List.take_nil, List.set_cons_zero, List.set_cons_succ, and_self, if_true, if_false, Bool.and_self, Nat.le_refl, lt_40, pl_40, zc_40, zt_40, resultsC_1, retA_ret, Tryd.results10, resultsC_1, resultA_cell]
  exact hid_mk ⟨_, castE0 1 n _, Keep.push _ _ _⟩
/-- A vertex with no from, as its maker lays it. -/
theorem wkX (kind : Int) (e : Ex) (n : Int) : WkL ([.int .i64 kind, .snil] ++ encE e ++ [.int .i64 n]) (encX ⟨kind, [], e, n⟩) :=
  WkL.append (WkL.append (WkL.cons (.refl _) (.cons .snil (.refl _))) rfl (.refl _)) (by simp) (.refl _)
theorem castX (kind : Int) (e : Ex) (n : Int) (h : AHeap) : Cast (.agg ([.int .i64 kind, .snil] ++ encE e ++ [.int .i64 n])) h (.agg (encX ⟨kind, [], e, n⟩)) h := fun ρ B w0 w r' hw hv => by
  cases hv with
  | agg hs hx =>
    rename_i xs
    exact ⟨ρ, Ren.le.refl ρ, hw, (wkX kind e n ρ xs.toList ⟨by simpa using hs, by simpa using hx⟩).arr'.agg⟩
theorem bldX (kind : Int) (e : Ex) : Option.map V.agg (if (encE e).length = 3 then some (setAll [V.int .i64 kind, .snil, .int .i64 0, .int .i64 0, .snil, .int .i64 0] 2 (encE e)) else none) = some (.agg ([.int .i64 kind, .snil] ++ encE e ++ [.int .i64 0])) := by
  cases e; rfl
theorem bldX2 (kind o n : Int) (v : V) : setAll [V.int .i64 kind, .snil, .int .i64 0, .int .i64 0, .snil, .int .i64 0] 2 [V.int .i64 o, .int .i64 n, v] = [V.int .i64 kind, .snil, .int .i64 o, .int .i64 n, v, .int .i64 0] := rfl
/-- A vertex whose expression has kids of the caller's own. -/
theorem castXO (kind op n : Int) (ks : List Ex) {cs : List V} (hw : WkL cs (ks.flatMap encE)) (hcl : cs.length = ks.length * 3) {v : V} {h : AHeap} (ho : Own h 40 3 v cs) :
    ∃ h2, Cast (.agg [.int .i64 kind, .snil, .int .i64 op, .int .i64 n, v, .int .i64 0]) h (.agg (encX ⟨kind, [], .mk op n ks, 0⟩)) h2 ∧ Keep h h2 (isId v) := by
  obtain ⟨h2, c, k⟩ := Cast.own (n := ks.length) ho hcl (by decide)
  have hx : encX ⟨kind, [], .mk op n ks, 0⟩ = [.int .i64 kind, .imm 0 [], .int .i64 op, .int .i64 n, .imm ks.length (ks.flatMap encE), .int .i64 0] := by simp [encX, encE_eq, i64V]
  refine ⟨h2, ?_, k⟩
  rw [hx]
  exact Pk.Cast.agg (CastL.cons (Cast.refl _ _) (CastL.cons (Cast.nil0 _) (CastL.cons (Cast.refl _ _) (CastL.cons (Cast.refl _ _) (CastL.cons (c.trans ((WkV.imm hw (by rw [hcl, rows_len encE_len])).cast h2)) (CastL.refl _ _))))))
theorem litE2b (h : AHeap) (o n : Int) (a : Ex) : aBuildSlice Tryd.prog 38 2 [(0, .agg (encE a)), (1, .agg [.int .i64 o, .int .i64 n, .snil])] h = some (.sl h.n 0 2 2, h.push (.cells (encE a ++ [.int .i64 o, .int .i64 n, .snil]) 40 none)) := by
  rw [buildSlice_go sl_38]; cases a; rfl
theorem litE2c (h : AHeap) (o n : Int) (a : Ex) : aBuildSlice Tryd.prog 38 2 [(0, .agg [.int .i64 o, .int .i64 n, .snil]), (1, .agg (encE a))] h = some (.sl h.n 0 2 2, h.push (.cells ([.int .i64 o, .int .i64 n, .snil] ++ encE a) 40 none)) := by
  rw [buildSlice_go sl_38]; cases a; rfl
set_option maxHeartbeats 1000000 in
set_option maxRecDepth 10000 in
theorem pShown17 (h : AHeap) (hg : KG h) : Pure Tryd.prog 4 [] h (.bool true) := by
  refine Pure.val (Clo.bool _) ?_
  refine SCalls.enterI (c := _) Tryd.func4 rfl (by kernel_rfl) (by simp) ?_
  simp only [wpA_region, wpA_seq, seqQ_normal, goI_out, goI_ops, opsA_nil, opsA_cons, stepA_assign, stepA_call, eval_const, absV_int, absV_bool, List.map_cons, List.map_nil]
  refine callI_pure cal10 (pCon17 2 h) ?_
  have b1 := bldX 4 (.mk 1 2 [])
  have b2 := litE2b h 3 0 (.mk 1 1 [])
  have a1 : Pure Tryd.prog 9 [.agg ([.int .i64 4, .snil] ++ encE (.mk 1 2 []) ++ [.int .i64 0]), .agg [.int .i64 0, .int .i64 5, .int .i64 0]] h (apV ([⟨0, 5, 0⟩, ⟨0, 6, 0⟩], 0)) :=
    Pure.args (CastL.cons (castX _ _ _ h) (CastL.refl _ _)) (pApply ⟨4, [], .mk 1 2 [], 0⟩ ⟨0, 5, 0⟩ h hg)
  generalize [V.int .i64 4, .snil] ++ encE (.mk 1 2 []) ++ [.int .i64 0] = X1 at *
  simp only [goI_ops, opsA_cons, stepA_build, stepA_call, thenV_some, eval_tmp, eval_const, put_some, absV_int, cells_int, cells_agg, setAll_nil, setAll_cons, aBuild_go, aFill_nil, aFill_cons, fillGo_some, buildGo_struct, List.getElem?_cons_zero, List.getElem?_cons_succ, Nat.reduceEqDiff, Nat.reduceAdd, Nat.reduceLeDiff, reduceCtorEq, List.map_cons, List.map_nil, Option.map_some, Nat.zero_add, List.length_cons, List.length_nil, List.set_cons_zero, List.set_cons_succ, and_true, and_self, if_true, if_false, pl_24, pl_44, zc_24, zc_44, b1]
  refine callI_pure cal9 a1 ?_
  simp only [wpA_region, wpA_seq, seqQ_normal, goI_out, goI_ops, opsA_nil, opsA_cons, stepA_move, stepA_assign, stepA_extract, stepA_call, thenV_some, extV_zero, extV_succ, eval_tmp, eval_const, put_some, absV_int, Nat.reduceEqDiff, Nat.reduceAdd, reduceCtorEq, List.map_cons, List.map_nil, Nat.zero_add, List.length_cons, List.length_nil, if_true, if_false, apV]
  refine callI_pure cal10 (pCon17 1 h) ?_
  simp only [wpA_region, wpA_seq, seqQ_normal, goI_out, goI_ops, opsA_nil, opsA_cons, stepA_alloc, stepA_build, stepA_buildSlice, stepA_load, stepA_store, stepA_call, thenV_some, thenH_some, thenS_some, eval_tmp, eval_const, put_some, put_none, absV_int, cells_int, cells_sl, cells_agg, one_int, one_sl, all_nil, all_cons, aLoad_eq, loadGo_row, aPlace_ptr, dropC_cells, aStore_eq, storeGo_ptr, setC_row, setAll_nil, setAll_cons, aAlloc_eq, aBuild_go, aFill_nil, aFill_cons, fillGo_some, buildGo_struct, push_n, get_push2, set_push2, List.getElem?_cons_zero, List.getElem?_cons_succ, Nat.reduceEqDiff, Nat.reduceAdd, Nat.reduceLeDiff, reduceCtorEq, List.map_cons, List.map_nil, Option.map_some, Nat.zero_add, Nat.zero_le, List.length_cons, List.length_nil, List.drop_zero, List.take_succ_cons, List.take_nil, List.set_cons_zero, List.set_cons_succ, and_self, if_true, if_false, Bool.and_self, Nat.le_refl, lt_40, pl_24, pl_40, pl_44, zc_24, zc_40, zc_44, zt_40, b2]
  obtain ⟨H, hH⟩ : ∃ x, x = (h.push (.cells (encE (.mk 1 1 []) ++ [.int .i64 3, .int .i64 0, .snil]) 40 none)).push (.cells [.int .i64 9, .int .i64 0, .sl h.n 0 2 2] 40 none) := ⟨_, rfl⟩
  have oH : Own H 40 3 (.sl h.n 0 2 2) (encE (.mk 1 1 []) ++ [.int .i64 3, .int .i64 0, .snil]) := by rw [hH]; exact (Own.fresh' _ 2 rfl (by decide)).keepN (Keep.push _ _ _)
  have kH : Keep h H none_ := by rw [hH]; exact (Keep.push _ _ _).then_push _
  rw [← hH]
  obtain ⟨H2, c2, k2⟩ := castXO 2 9 0 [.mk 1 1 [], .mk 3 0 []] (WkL.append (.refl _) rfl (wkE0 3 0)) rfl oH
  have kk2 : Keep h H2 none_ := kH.trans k2 fun i hi hid => by simp [isId, idOf] at hid; omega
  refine callI_of cal9 (SCalls.args (CastL.cons c2 (CastL.refl _ _)) (pApply ⟨2, [], .mk 9 0 [.mk 1 1 [], .mk 3 0 []], 0⟩ ⟨0, 0, 0⟩ H2 (hg.keep kk2))) fun r h1 ⟨e1, e2⟩ => ?_
  subst e1 e2
  rw [show applyX ⟨2, [], .mk 9 0 [.mk 1 1 [], .mk 3 0 []], 0⟩ ⟨0, 0, 0⟩ = ([], 10) by decide]
  have lit := litR2 h1 ⟨0, 5, 0⟩ ⟨0, 6, 0⟩
  obtain ⟨H3, c3, k3⟩ := Cast.lit (h := h1) (c := [Rec.mk 0 5 0, ⟨0, 6, 0⟩].flatMap recE) (e := 24) (n := 2) (sz := 3) rfl (by decide) (by decide)
  have hR := pRecsEq [⟨0, 5, 0⟩, ⟨0, 6, 0⟩] [⟨0, 5, 0⟩, ⟨0, 6, 0⟩] H3 (by decide)
  rw [show decide ([Rec.mk 0 5 0, ⟨0, 6, 0⟩] = [⟨0, 5, 0⟩, ⟨0, 6, 0⟩]) = true by decide] at hR
  simp only [recE] at lit
  simp only [wpA_region, wpA_seq, seqQ_normal, goI_out, goI_ops, opsA_nil, opsA_cons, opsA_guardS, gvI_same, slotAt_zero, slotAt_succ, stepA_move, stepA_assign, stepA_pick, stepA_build, stepA_buildSlice, stepA_binOp, stepA_extract, stepA_call, thenV_some, thenH_some, pickV_true, extV_zero, extV_succ, eval_tmp, eval_const, put_some, put_none, aBin_eql, absV_int, absV_bool, cells_int, setAll_nil, setAll_cons, aBuild_go, aFill_nil, aFill_cons, fillGo_some, buildGo_struct, List.getElem?_cons_zero, List.getElem?_cons_succ, beq_self_eq_true, Nat.reduceEqDiff, Nat.reduceAdd, Nat.reduceLeDiff, reduceCtorEq, List.map_cons, List.map_nil, Option.map_some, Nat.zero_add, List.length_cons, List.length_nil, List.set_cons_zero, List.set_cons_succ, and_self, if_true, if_false, pl_24, zc_24, apV, lit]
  refine callI_of cal8 (SCalls.args (CastL.cons (Cast.refl _ _) (CastL.cons c3 (CastL.refl _ _))) hR) fun r h4 ⟨e3, e4⟩ => ?_
  subst e3 e4
  simp only [wpA_ret, seqQ_normal, endI_mk, goI_out, goI_ops, opsA_nil, opsA_cons, stepA_assign, stepA_pick, thenV_some, pickV_true, eval_tmp, eval_const, put_some, put_none, absV_bool, Nat.reduceEqDiff, reduceCtorEq, if_true, if_false, retA_ret, Tryd.results4, resultsA_1]
  exact hid_mk ⟨rfl, kk2.trans' k3⟩
end Go.Proofs.YthnleejpeocaeaaDoor.Pk
