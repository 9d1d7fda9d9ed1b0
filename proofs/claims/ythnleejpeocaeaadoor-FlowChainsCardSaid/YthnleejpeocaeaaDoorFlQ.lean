/-
  What functions of the program do, told of abstract states. Conditions: as each theorem says.
-/
import Derived.Test.YthnleejpeocaeaaDoorFlP
namespace Go.Proofs.YthnleejpeocaeaaDoor.Pk
open Go Go.Proofs Go.Proofs.YthnleejpeocaeaaDoor.Ab
set_option linter.unusedVariables false
set_option linter.unusedSimpArgs false
theorem own_one {h : AHeap} {e : TypeId} {sz : Nat} {v : V} {cs : List V} (o : Own h e sz v cs) : v.one = true ∧ v.cells = some [v] := by
  rcases o with ⟨rfl | rfl, _⟩ | ⟨i, len, cap, c, ex, rfl, _⟩ <;> exact ⟨rfl, rfl⟩
theorem recs_len (l : List Rec) : (l.flatMap recE).length = l.length * 3 := rows_len recE_len l

set_option maxHeartbeats 2000000 in
set_option maxRecDepth 10000 in
theorem passC (h0 : AHeap) (hg : KG h0) (L : List Vx) (hL : L.length ≤ 8) : ∀ (vs : List Vx) (i : Nat), L.drop i = vs → i + vs.length = L.length → ∀ (r : Rec) (s : PS), s.2.length = L.length → s.1.length + 4 ^ vs.length ≤ 65536 → ∀ (h : AHeap), St h0 L s h →
    SCalls Tryd.prog 12 [.int .i64 (i : Int), .agg (recE r), .ptr h0.n 0, .ptr (h0.n + 2) 0, .ptr (h0.n + 4) 0, .ptr (h0.n + 5) 0] h (fun q h' => q = .tuple [.int .i64 (passX vs i r s).1.1, .int .i64 (passX vs i r s).1.2] ∧ St h0 L (passX vs i r s).2 h') := by
  intro vs
  induction vs with
  | nil =>
    intro i hi hn r s ht hs h a
    refine SCalls.enterI (c := _) Tryd.func12 rfl (by kernel_rfl) (by simp) ?_
    have hcr : (V.agg (recE r)).cells = some (recE r) := rfl
    simp only [wpA_region, wpA_seq, seqQ_normal, goI_out, goI_ops, opsA_nil, opsA_cons, stepA_move, stepA_assign, stepA_box, stepA_load, thenH_some, eval_tmp, eval_const, put_some, enterF_zero, enterF_succ, absV_int, aLoad_eq, aPlace_ptr, aBox_eq, Int.reduceNeg, Nat.reduceEqDiff, reduceCtorEq, Option.map_some, if_false, lt_22, hcr]
    obtain ⟨H, hH⟩ : ∃ x, x = h.push (.cells (recE r) 24 none) := ⟨_, rfl⟩
    have g3 : H.get h.n = .cells (recE r) 24 none := by rw [hH]; exact get_push_new
    have b : St h0 L s H := by rw [hH]; exact a.on (Keep.push _ _ _)
    rw [← hH]
    clear hH
    obtain ⟨v, gv, ov, dv⟩ := b.go
    have gl := b.gl
    have c : ((i : Int) == ((L.length : Nat) : Int)) = true := by simp only [List.length_nil, Nat.add_zero] at hn; simp [hn]
    have r0 : dropC (AObj.cells (recE r) 24 none) 0 = some (recE r) := rfl
    have lr0 : loadGo (some (some 3)) (some (recE r)) = some (.agg (recE r)) := rfl
    have lit : aBuildSlice Tryd.prog 28 1 [(0, .agg (recE r))] H = some (.sl H.n 0 1 1, H.push (.cells (recE r) 24 none)) := litR1 H r.k r.v r.t
    obtain ⟨v', h', q1, q2, q3, q4⟩ := append_elemM (P := Tryd.prog) sl_28 (by decide) ov (xs := recE r) rfl rfl (fun m hm => by
      rw [recs_len] at hm
      have hm' : m * 3 = s.1.length * 3 + 3 := hm
      simp only [List.length_nil, Nat.pow_zero] at hs
      show m * 24 ≤ 140737488355328 ∧ m ≤ 140737488355328
      omega)
    obtain ⟨w1, w2⟩ := own_one q2
    have gn : h'.get (h0.n + 2) = .cells [v] 28 none := by
      have := b.n
      rw [q3.get _ (by omega) (fun q => by have := dv _ q; omega)]
      exact gv
    simp only [wpA_region, wpA_seq, wpA_cond, wpA_ret, condI_true, seqQ_normal, seqQ_ret, endI_mk, goI_out, goI_ops, opsA_nil, opsA_cons, stepA_assign, stepA_buildSlice, stepA_load, stepA_store, stepA_binOp, stepA_len, stepA_append, thenV_some, thenH_some, thenS_some, eval_tmp, eval_const, put_some, put_none, enterF_zero, enterF_succ, aBin_eql, absV_int, all_nil, all_cons, aLoad_eq, loadGo_one, aPlace_ptr, dropC_cells, aStore_eq, storeGo_ptr, setC_row, setAll_nil, setAll_cons, aLen_imm, Int.reduceNeg, Nat.reduceEqDiff, List.map_cons, List.map_nil, Option.map_some, Nat.zero_add, Nat.zero_le, List.length_cons, List.length_nil, List.drop_zero, List.set_cons_zero, if_true, if_false, Bool.and_self, Nat.le_refl, kt_22, lt_24, lt_28, zt_28, gl, c, gv, g3, r0, lr0, lit, q1, w1, w2, gn, retA_ret, Tryd.results12, resultsA_2]
    exact hid_mk ⟨by simp [passX], by simp only [passX]; exact b.out gv dv q2 q3 q4⟩
  | cons v vs ih =>
    intro i hi hn r s ht hs h a
    refine SCalls.enterI (c := _) Tryd.func12 rfl (by kernel_rfl) (by simp) ?_
    have hcr : (V.agg (recE r)).cells = some (recE r) := rfl
    simp only [wpA_region, wpA_seq, seqQ_normal, goI_out, goI_ops, opsA_nil, opsA_cons, stepA_move, stepA_assign, stepA_box, stepA_load, thenH_some, eval_tmp, eval_const, put_some, enterF_zero, enterF_succ, absV_int, aLoad_eq, aPlace_ptr, aBox_eq, Int.reduceNeg, Nat.reduceEqDiff, reduceCtorEq, Option.map_some, if_false, lt_22, hcr]
    obtain ⟨H, hH⟩ : ∃ x, x = h.push (.cells (recE r) 24 none) := ⟨_, rfl⟩
    have g3 : H.get h.n = .cells (recE r) 24 none := by rw [hH]; exact get_push_new
    have b : St h0 L s H := by rw [hH]; exact a.on (Keep.push _ _ _)
    rw [← hH]
    clear hH
    have gl := b.gl
    have gs := b.gs
    have gt := b.gt
    have nb := b.n
    simp only [List.length_cons] at hn
    have hil : i < L.length := by omega
    have hv : L[i] = v := by
      rw [List.drop_eq_getElem_cons hil] at hi
      exact (List.cons.inj hi).1
    have hvs : L.drop (i + 1) = vs := by
      rw [List.drop_eq_getElem_cons hil] at hi
      exact (List.cons.inj hi).2
    have hp : 4 ^ (v :: vs).length = 4 * 4 ^ vs.length := by rw [List.length_cons, Nat.pow_succ, Nat.mul_comm]
    rw [hp] at hs
    have c : ((i : Int) == ((L.length : Nat) : Int)) = false := by simp; omega
    have r0 : dropC (AObj.cells (recE r) 24 none) 0 = some (recE r) := rfl
    have lr0 : loadGo (some (some 3)) (some (recE r)) = some (.agg (recE r)) := rfl
    have ixV : aIndexAddr Tryd.prog 22 (.imm L.length (L.flatMap encX)) (.int .i64 (i : Int)) = some (.at (encX v ++ vs.flatMap encX)) := by
      have := rows_ix (P := Tryd.prog) encX_len hil (t := 22) (kk := .i64) ss_22
      rwa [hv, hvs] at this
    have ldV : loadGo (some (some 6)) (some (encX v ++ vs.flatMap encX)) = some (.agg (encX v)) := load_row (encX_len v)
    simp only [wpA_skip, wpA_seq, wpA_cond, wpA_draw, condI_false, seqQ_normal, goI_out, goI_ops, opsA_nil, opsA_cons, stepA_binOp, stepA_len, thenV_some, eval_tmp, put_some, enterF_succ, aBin_eql, loadGo_one, dropC_cells, aLen_imm, Int.reduceNeg, Nat.reduceEqDiff, Nat.zero_add, Nat.zero_le, List.length_cons, List.length_nil, List.drop_zero, if_true, if_false, kt_22, gl, c]
    refine SWp.drawnI [] (by kernel_rfl) (by kernel_rfl) (by kernel_rfl) ?_
    simp only [gI_cons, goI_rest, ggI_true, wantedA_none, idleOp, Bool.or_false, List.contains_nil, stepA_move, stepA_load, stepA_indexAddr, thenV_some, eval_tmp, put_some, enterF_zero, enterF_succ, aLoad_eq, loadGo_one, aPlace_ptr, aPlace_at, dropC_cells, Nat.reduceEqDiff, Nat.reduceAdd, reduceCtorEq, Nat.zero_add, Nat.zero_le, List.length_cons, List.length_nil, List.drop_zero, if_true, if_false, lt_22, lt_24, lt_44, gl, g3, ixV, ldV, r0, lr0]
    refine gI_pure rfl rfl rfl (pApply v r H (hg.keep b.k)) ?_
    obtain ⟨R, z, hR⟩ : ∃ R z, applyX v r = (R, z) := ⟨_, _, rfl⟩
    have hR4 : R.length ≤ 4 := by have := applyX_le v r; rwa [hR] at this
    rw [hR]
    by_cases hz : z = 0
    rotate_left
    · have cz : (z != 0) = true := by simp [hz]
      have hG : passX (v :: vs) i r s = (((i : Int), z), s) := by simp [passX, hR, hz]
      simp only [gI_nil, gI_cons, goI_rest, ggI_true, wantedA_none, idleOp, Bool.or_false, List.contains_nil, wpA_region, wpA_seq, wpA_cond, wpA_ret, condI_true, seqQ_normal, seqQ_ret, endI_mk, goI_out, goI_ops, opsA_nil, opsA_cons, stepA_move, stepA_assign, stepA_binOp, stepA_extract, thenV_some, extV_zero, extV_succ, eval_tmp, eval_const, put_some, enterF_zero, enterF_succ, aBin_neq, absV_int, Int.reduceNeg, Nat.reduceEqDiff, Nat.reduceAdd, reduceCtorEq, if_true, if_false, apV, cz, retA_ret, Tryd.results12, resultsA_2]
      exact hid_mk ⟨by rw [hG], by rw [hG]; exact b⟩
    subst hz
    have hit : i < s.2.length := by omega
    have d1 := dropT s.2 i hit (e := 3)
    have st1 : setC (some 1) (.cells (i64V s.2) 3 none) i [.int .i64 (IntKind.i64.wrap (s.2.getD i 0 + (R.length : Int)))] = some (.cells (i64V (addT s.2 i R.length)) 3 none) := setT s.2 i _ hit
    have ix1 := ixT (h0.n + 3) s.2.length i hit
    have b2 := b.tot (addT s.2 i R.length) (addT_len _ _ _)
    have hit2 : i < (addT s.2 i R.length).length := by rw [addT_len]; exact hit
    have d2 := dropT (addT s.2 i R.length) i hit2 (e := 3)
    have gs2 := b2.gs
    have gt2 := b2.gt
    simp only [addT_len] at gs2 gt2
    obtain ⟨H2, hH2⟩ : ∃ x, x = H.set (h0.n + 3) (.cells (i64V (addT s.2 i R.length)) 3 none) := ⟨_, rfl⟩
    rw [← hH2] at b2 gs2 gt2
    by_cases hf : 10000 < (addT s.2 i R.length).getD i 0
    · have cf : decide (10000 < (addT s.2 i R.length).getD i 0) = true := by simpa using hf
      have hG : passX (v :: vs) i r s = (((i : Int), 3), (s.1, addT s.2 i R.length)) := by simp only [passX, hR]; rw [if_neg (by simp), if_pos hf]
      simp only [gI_nil, gI_cons, goI_rest, ggI_true, wantedA_none, idleOp, Bool.or_false, List.contains_nil, wpA_skip, wpA_region, wpA_seq, wpA_cond, wpA_ret, condI_true, condI_false, seqQ_normal, seqQ_ret, endI_mk, goI_out, goI_ops, opsA_nil, opsA_cons, stepA_move, stepA_assign, stepA_load, stepA_store, stepA_binOp, stepA_indexAddr, stepA_extract, stepA_len, thenV_some, thenS_some, extV_zero, extV_succ, eval_tmp, eval_const, put_some, put_none, enterF_zero, enterF_succ, aBin_add, aBin_neq, aBin_gtr, absV_int, cells_int, aLoad_eq, loadGo_one, aPlace_ptr, dropC_cells, aStore_eq, storeGo_ptr, aLen_imm, bne_self_eq_false, Int.reduceNeg, Nat.reduceEqDiff, Nat.reduceAdd, reduceCtorEq, Option.map_some, Nat.zero_add, Nat.zero_le, List.length_cons, List.length_nil, List.drop_zero, if_true, if_false, kt_28, lt_3, lt_42, zt_3, apV, gs, gt, ix1, d1, st1, ← hH2, gs2, gt2, d2, cf, retA_ret, Tryd.results12, resultsA_2]
      exact hid_mk ⟨by rw [hG], by rw [hG]; exact b2⟩
    have cf : decide (10000 < (addT s.2 i R.length).getD i 0) = false := by simpa using hf
    have hG : passX (v :: vs) i r s = passL (passX vs (i + 1)) R (s.1, addT s.2 i R.length) := by simp only [passX, hR]; rw [if_neg (by simp), if_neg hf]
    rw [hG]
    simp only [gI_nil, gI_cons, goI_rest, ggI_true, wantedA_none, idleOp, Bool.or_false, List.contains_nil, wpA_skip, wpA_region, wpA_seq, wpA_cond, wpA_block, wpA_loop, condI_false, seqQ_normal, goI_out, goI_ops, opsA_nil, opsA_cons, stepA_move, stepA_assign, stepA_load, stepA_store, stepA_binOp, stepA_indexAddr, stepA_extract, stepA_len, thenV_some, thenS_some, extV_zero, extV_succ, eval_tmp, eval_const, put_some, put_none, enterF_zero, enterF_succ, aBin_add, aBin_neq, aBin_gtr, absV_int, cells_int, aLoad_eq, loadGo_one, aPlace_ptr, dropC_cells, aStore_eq, storeGo_ptr, aLen_imm, bne_self_eq_false, Int.reduceNeg, Nat.reduceEqDiff, Nat.reduceAdd, reduceCtorEq, Option.map_some, Nat.zero_add, Nat.zero_le, List.length_cons, List.length_nil, List.drop_zero, if_true, if_false, kt_28, lt_3, lt_42, zt_3, apV, gs, gt, ix1, d1, st1, ← hH2, gs2, gt2, d2, cf]
    refine SWp.loopG (α := Nat × PS) (fun x f h' => f 0 = .int .i64 (i : Int) ∧ f 5 = .ptr (h0.n + 5) 0 ∧ f 51 = .imm R.length (R.flatMap recE) ∧ f 52 = .int .i64 (R.length : Nat) ∧ f 53 = .int .i64 (x.1 : Nat) ∧ x.1 ≤ R.length ∧ St h0 L x.2 h' ∧ x.2.2.length = L.length ∧ x.2.1.length ≤ s.1.length + x.1 * 4 ^ vs.length ∧
      passL (passX vs (i + 1)) R (s.1, addT s.2 i R.length) = passL (passX vs (i + 1)) (R.drop x.1) x.2) (fun x => R.length - x.1) (0, (s.1, addT s.2 i R.length)) ⟨rfl, rfl, rfl, rfl, rfl, Nat.zero_le _, b2, by rw [addT_len]; exact ht, by simp, by simp⟩ ?_
    rintro ⟨k, s'⟩ f h1 ⟨f0, f5, f51, f52, f53, hk, a1, t1, l1, p1⟩
    simp only at f53 hk a1 t1 l1 p1
    refine wpI_sound (by kernel_rfl) ?_
    by_cases hlt : k < R.length
    rotate_left
    · have c3 : decide ((k : Int) < ((R.length : Nat) : Int)) = false := by simp; omega
      have hkR : R.drop k = [] := List.drop_of_length_le (by omega)
      rw [p1, hkR]
      simp only [wpA_region, wpA_seq, wpA_cond, wpA_exit, wpA_ret, condI_false, seqQ_normal, seqQ_exit, blkQ_exit, endI_mk, goE, andThen_exit, goI_out, goI_ops, opsA_nil, opsA_cons, stepA_assign, stepA_binOp, thenV_some, eval_tmp, eval_const, put_some, aBin_lss, absV_int, Int.reduceNeg, Nat.reduceEqDiff, if_true, if_false, f52, f53, c3, retA_ret, Tryd.results12, resultsA_2]
      exact hid_mk ⟨rfl, a1⟩
    · have c3 : decide ((k : Int) < ((R.length : Nat) : Int)) = true := by simp; omega
      have w2 : IntKind.i64.wrap (((i : Nat) : Int) + 1) = ((i + 1 : Nat) : Int) := by rw [Go.IntWalk.i64_in _ (by omega)]; omega
      have w3 : IntKind.i64.wrap (((k : Nat) : Int) + 1) = ((k + 1 : Nat) : Int) := by rw [Go.IntWalk.i64_in _ (by omega)]; omega
      have ixR := rec_ix hlt (kk := .i64)
      have ldR : loadGo (some (some 3)) (some (recE R[k] ++ (R.drop (k + 1)).flatMap recE)) = some (.agg (recE R[k])) := load_row (recE_len _)
      obtain ⟨x, hx⟩ : ∃ x, x = R[k] := ⟨_, rfl⟩
      have hd : R.drop k = x :: R.drop (k + 1) := by rw [hx]; exact List.drop_eq_getElem_cons hlt
      rw [← hx] at ixR ldR
      have gf1 : h1.get (h0.n + 5) = .cells [.func (.func 12) [] [.ptr h0.n 0, .ptr (h0.n + 2) 0, .ptr (h0.n + 4) 0, .ptr (h0.n + 5) 0]] 46 none := a1.gf
      have a2 := a1.on (Keep.push h1 (.cells (recE x) 24 none) none_)
      have gf2 : (h1.push (.cells (recE x) 24 none)).get (h0.n + 5) = .cells [.func (.func 12) [] [.ptr h0.n 0, .ptr (h0.n + 2) 0, .ptr (h0.n + 4) 0, .ptr (h0.n + 5) 0]] 46 none := a2.gf
      have hl2 : s'.1.length + 4 ^ vs.length ≤ 65536 := by
        have : (k + 1) * 4 ^ vs.length ≤ 4 * 4 ^ vs.length := Nat.mul_le_mul_right _ (by omega)
        rw [Nat.add_mul] at this
        omega
      have hc := ih (i + 1) hvs (by omega) x s' t1 hl2 _ a2
      have len2 := passX_len vs (i + 1) x s'
      have tot2 := passX_tot vs (i + 1) x s'
      unfold recE at hc gf2 ldR
      rw [p1, hd]
      simp only [wpA_skip, wpA_region, wpA_seq, wpA_cond, wpA_block, condI_true, seqQ_normal, goI_out, goI_ops, opsA_nil, opsA_cons, stepA_move, stepA_alloc, stepA_load, stepA_store, stepA_binOp, stepA_indexAddr, stepA_callv, callvI_func, thenV_some, thenH_some, thenS_some, eval_tmp, eval_const, put_some, put_none, aBin_add, aBin_lss, absV_int, cells_agg, one_int, all_nil, all_cons, aLoad_eq, loadGo_one, loadGo_row, aPlace_ptr, aPlace_at, dropC_cells, aStore_eq, storeGo_ptr, setC_row, setAll_nil, setAll_cons, aAlloc_eq, get_push_new, set_push, Nat.reduceEqDiff, Nat.reduceAdd, Nat.reduceLeDiff, reduceCtorEq, List.map_cons, List.map_nil, Option.map_some, Nat.zero_add, Nat.zero_le, List.length_cons, List.length_nil, List.drop_zero, List.take_succ_cons, List.take_zero, List.take_nil, List.set_cons_zero, List.set_cons_succ, List.nil_append, List.cons_append, if_true, if_false, Bool.and_self, Nat.le_refl, lt_24, lt_46, zc_24, zt_24, f0, f5, f51, f52, f53, c3, ixR, recE, gf2, w2]
      refine callI_of cal12 hc (fun q h' ⟨e1, e2⟩ => ?_)
      subst e1
      by_cases he : (passX vs (i + 1) x s').1.2 = 0
      · have ce : ((passX vs (i + 1) x s').1.2 != 0) = false := by simp [he]
        simp only [wpA_skip, wpA_region, wpA_seq, wpA_cond, condI_false, seqQ_normal, blkQ_normal, endI_mk, andThen_normal, goI_out, goI_ops, opsA_nil, opsA_cons, stepA_move, stepA_assign, stepA_binOp, stepA_extract, thenV_some, extV_zero, extV_succ, eval_tmp, eval_const, put_some, put_none, aBin_add, aBin_neq, absV_int, Int.reduceNeg, Nat.reduceEqDiff, if_true, if_false, f53, ce, w3]
        refine hid_mk ⟨(k + 1, (passX vs (i + 1) x s').2), ⟨f0, f5, f51, f52, rfl, by simp only; omega, e2, by simp only; omega, by simp only [Nat.add_mul]; omega, ?_⟩, by simp only; omega⟩
        simp only [passL]
        rw [if_neg (by simp [he])]
      · have ce : ((passX vs (i + 1) x s').1.2 != 0) = true := by simp [he]
        have hP : passL (passX vs (i + 1)) (x :: R.drop (k + 1)) s' = passX vs (i + 1) x s' := by simp only [passL]; rw [if_pos he]
        simp only [wpA_region, wpA_seq, wpA_cond, wpA_ret, condI_true, seqQ_normal, seqQ_ret, blkQ_ret, endI_mk, goE, andThen_ret, goI_out, goI_ops, opsA_nil, opsA_cons, stepA_move, stepA_assign, stepA_binOp, stepA_extract, thenV_some, extV_zero, extV_succ, eval_tmp, eval_const, put_some, put_none, aBin_neq, absV_int, Int.reduceNeg, Nat.reduceEqDiff, if_true, if_false, ce, retA_ret, Tryd.results12, resultsA_2]
        exact hid_mk ⟨by rw [hP], by rw [hP]; exact e2⟩
end Go.Proofs.YthnleejpeocaeaaDoor.Pk
