/-
  What functions of the program do, told of abstract states. Conditions: as each theorem says.
-/
import Derived.Test.YthnleejpeocaeaaDoorFlI
namespace Go.Proofs.YthnleejpeocaeaaDoor.Pk
open Go Go.Proofs Go.Proofs.YthnleejpeocaeaaDoor.Ab
set_option linter.unusedVariables false
set_option linter.unusedSimpArgs false
/-- The walk's state: what came out (v), and how many of each vertex (block b). -/
structure Sv (b : Nat) (s : PS) (v : V) (h : AHeap) : Prop where
  bl : b < h.n
  own : Own h 24 3 v (s.1.flatMap recE)
  ne : idOf v ≠ some b
  gt : h.get b = .cells (i64V s.2) 3 none
def own2 (b : Nat) (v : V) : Nat → Prop := fun j => j = b ∨ idOf v = some j
theorem Sv.keep {h h' : AHeap} {b : Nat} {s : PS} {v : V} {M : Nat → Prop} (a : Sv b s v h) (k : Keep h h' M) (hb : ¬ M b) (hv : ∀ j, idOf v = some j → ¬ M j) : Sv b s v h' :=
  ⟨Nat.lt_of_lt_of_le a.bl k.n, a.own.keep k hv, a.ne, by rw [k.get _ a.bl hb]; exact a.gt⟩
theorem Sv.on {h h' : AHeap} {b : Nat} {s : PS} {v : V} (a : Sv b s v h) (k : Keep h h' none_) : Sv b s v h' := a.keep k (fun q => q) fun _ _ q => q
theorem Sv.out {h h' : AHeap} {b : Nat} {s : PS} {v v' : V} {r : Rec} (a : Sv b s v h) (o' : Own h' 24 3 v' (s.1.flatMap recE ++ recE r)) (k : Keep h h' (isId v)) (nw : NewOr h v v') : Sv b (s.1 ++ [r], s.2) v' h' := by
  refine ⟨Nat.lt_of_lt_of_le a.bl k.n, by simpa using o', fun hj => ?_, ?_⟩
  · rcases nw with q | q
    · exact a.ne (q ▸ hj)
    · have h1 := q b hj
      have h3 := a.bl
      omega
  · rw [k.get _ a.bl (fun q => a.ne q)]; exact a.gt
theorem Sv.tot {h : AHeap} {b : Nat} {s : PS} {v : V} (a : Sv b s v h) (t : List Int) : Sv b (s.1, t) v (h.set b (.cells (i64V t) 3 none)) :=
  ⟨a.bl, a.own.keep (Keep.set h b _) fun j hj q => a.ne (q ▸ hj), a.ne, by simp [AHeap.set]⟩
set_option maxHeartbeats 4000000 in
set_option maxRecDepth 10000 in
theorem throughC (b : Nat) (L : List Vx) (hL : L.length ≤ 8) (hok : ∀ v ∈ L, OkE v.e) : ∀ (vs : List Vx) (i : Nat), L.drop i = vs → i + vs.length = L.length → ∀ (r : Rec), recIn r → ∀ (s : PS) (v : V), s.2.length = L.length → s.1.length + 4 ^ vs.length ≤ 65536 → ∀ (h : AHeap), Sv b s v h →
    SCalls Tryd.prog 13 [.agg [v, .sl b 0 L.length L.length, .int .i64 (-1), .int .i64 0], .imm L.length (L.flatMap encX), .int .i64 (i : Int), .agg (recE r)] h (fun q h' => ∃ v', q = .agg [v', .sl b 0 L.length L.length, .int .i64 (passX vs i r s).1.1, .int .i64 (passX vs i r s).1.2] ∧ Keep h h' (own2 b v) ∧ NewOr h v v' ∧ (v'.one = true ∧ v'.cells = some [v']) ∧ ((passX vs i r s).1.2 = 0 → Sv b (passX vs i r s).2 v' h')) := by
  intro vs
  induction vs with
  | nil =>
    intro i hi hn r hr s v ht hs h a
    refine SCalls.enterI (c := _) Tryd.func13 rfl (by kernel_rfl) (by simp) ?_
    have hcr : (V.agg (recE r)).cells = some (recE r) := rfl
    simp only [wpA_region, wpA_seq, wpA_cond, seqQ_normal, goI_out, goI_ops, opsA_nil, opsA_cons, stepA_move, stepA_alloc, stepA_box, stepA_binOp, stepA_len, thenV_some, thenH_some, eval_tmp, put_some, enterF_zero, enterF_succ, aBin_eql, cells_agg, aAlloc_eq, aBox_eq, aLen_imm, push_n, Int.reduceNeg, Nat.reduceEqDiff, Option.map_some, if_true, if_false, kt_22, zc_49, hcr]
    obtain ⟨H, hH⟩ : ∃ x, x = ((h.push (.cells [v, .sl b 0 L.length L.length, .int .i64 (-1), .int .i64 0] 49 none)).push (.cells (recE r) 24 none)).push (.cells [.snil, .snil, .int .i64 0, .int .i64 0] 49 none) := ⟨_, rfl⟩
    have gW : H.get h.n = .cells [v, .sl b 0 L.length L.length, .int .i64 (-1), .int .i64 0] 49 none := by rw [hH]; exact get_push3a
    have gR : H.get (h.n + 1) = .cells (recE r) 24 none := by rw [hH]; exact get_push3b
    have gS : H.get (h.n + 1 + 1) = .cells [.snil, .snil, .int .i64 0, .int .i64 0] 49 none := by rw [hH]; exact get_push3c
    have nH : H.n = h.n + 3 := by rw [hH]; rfl
    have kH : Keep h H none_ := by rw [hH]; exact ((Keep.push _ _ _).then_push _).then_push _
    rw [← hH]
    clear hH
    have a1 := a.on kH
    have hlt := a.own.lt
    have c : ((i : Int) == ((L.length : Nat) : Int)) = true := by simp only [List.length_nil, Nat.add_zero] at hn; simp [hn]
    have r0 : dropC (AObj.cells (recE r) 24 none) 0 = some (recE r) := rfl
    have lr0 : loadGo (some (some 3)) (some (recE r)) = some (.agg (recE r)) := rfl
    have lit : aBuildSlice Tryd.prog 28 1 [(0, .agg (recE r))] H = some (.sl H.n 0 1 1, H.push (.cells (recE r) 24 none)) := litR1 H r.k r.v r.t
    obtain ⟨v', h', q1, q2, q3, q4⟩ := append_elemM (P := Tryd.prog) sl_28 (by decide) a1.own (xs := recE r) rfl rfl (fun m hm => by
      rw [recs_len] at hm
      have hm' : m * 3 = s.1.length * 3 + 3 := hm
      simp only [List.length_nil, Nat.pow_zero] at hs
      show m * 24 ≤ 140737488355328 ∧ m ≤ 140737488355328
      omega)
    obtain ⟨w1, w2⟩ := own_one q2
    have ne : ∀ j, h.n ≤ j → ¬ isId v j := fun j hj q => by have := hlt j q; omega
    have gW' : h'.get h.n = .cells [v, .sl b 0 L.length L.length, .int .i64 (-1), .int .i64 0] 49 none := by
      rw [q3.get _ (by omega) (ne _ (by omega))]; exact gW
    have gS' : ∀ Y, (h'.set h.n Y).get (h.n + 1 + 1) = .cells [.snil, .snil, .int .i64 0, .int .i64 0] 49 none := fun Y => by
      have : (h'.set h.n Y).get (h.n + 1 + 1) = h'.get (h.n + 1 + 1) := by simp [AHeap.set]; intro q; omega
      rw [this, q3.get _ (by omega) (ne _ (by omega))]; exact gS
    have s1 := Sv.out a1 q2 q3 q4
    have hbl := a.bl
    have id' : ∀ j, idOf v' = some j → j < h.n ∨ H.n ≤ j := fun j hj => by
      rcases q4 with q | q
      · exact .inl (hlt j (q ▸ hj))
      · exact .inr (q j hj)
    have s2 : ∀ Y Z, Sv b (s.1 ++ [r], s.2) v' ((h'.set h.n Y).set (h.n + 1 + 1) Z) := fun Y Z =>
      (s1.keep (Keep.set h' h.n Y) (by omega) (fun j hj q => by have := id' j hj; omega)).keep (Keep.set _ (h.n + 1 + 1) Z) (by omega) (fun j hj q => by have := id' j hj; omega)
    have k2 : ∀ Y Z, Keep h ((h'.set h.n Y).set (h.n + 1 + 1) Z) (own2 b v) := fun Y Z =>
      ((((kH.up (o := isId v)).trans' q3).mono (fun j q => .inr q)).setNew (by omega) _).setNew (by omega) _
    have nw : NewOr h v v' := by
      rcases q4 with q | q
      · exact .inl q
      · exact .inr fun j hj => by have := q j hj; omega
    simp only [wpA_region, wpA_seq, wpA_ret, condI_true, seqQ_normal, seqQ_ret, endI_mk, goI_out, goI_ops, opsA_nil, opsA_cons, stepA_buildSlice, stepA_load, stepA_store, stepA_fieldAddr, stepA_append, thenV_some, thenH_some, thenS_some, eval_tmp, put_some, put_none, enterF_succ, cells_agg, one_int, one_sl, all_nil, all_cons, aField_eq, fieldGo_ptr, aLoad_eq, loadGo_one, loadGo_row, aPlace_ptr, dropC_cells, aStore_eq, storeGo_ptr, setC_row, setAll_nil, setAll_cons, get_set_same, Int.reduceNeg, Nat.reduceEqDiff, Nat.reduceAdd, Nat.reduceLeDiff, List.map_cons, List.map_nil, Option.map_some, Nat.add_zero, Nat.zero_add, Nat.zero_le, List.length_cons, List.length_nil, List.drop_zero, List.take_succ_cons, List.take_nil, List.set_cons_zero, List.set_cons_succ, if_true, if_false, Bool.and_self, Nat.le_refl, ft_49_0, lt_24, lt_28, lt_49, zt_28, zt_49, gW, gR, c, r0, lr0, lit, q1, w1, w2, gW', gS', resultsC_1, retA_ret, Tryd.results13, resultsC_1, resultA_cell]
    exact hid_mk ⟨v', rfl, k2 _ _, nw, ⟨w1, w2⟩, fun _ => s2 _ _⟩
  | cons v0 vs ih =>
    intro i hi hn r hr s v ht hs h a
    refine SCalls.enterI (c := _) Tryd.func13 rfl (by kernel_rfl) (by simp) ?_
    have hcr : (V.agg (recE r)).cells = some (recE r) := rfl
    simp only [wpA_region, wpA_seq, wpA_cond, seqQ_normal, goI_out, goI_ops, opsA_nil, opsA_cons, stepA_move, stepA_alloc, stepA_box, stepA_binOp, stepA_len, thenV_some, thenH_some, eval_tmp, put_some, enterF_zero, enterF_succ, aBin_eql, cells_agg, aAlloc_eq, aBox_eq, aLen_imm, push_n, Int.reduceNeg, Nat.reduceEqDiff, Option.map_some, if_true, if_false, kt_22, zc_49, hcr]
    obtain ⟨H, hH⟩ : ∃ x, x = ((h.push (.cells [v, .sl b 0 L.length L.length, .int .i64 (-1), .int .i64 0] 49 none)).push (.cells (recE r) 24 none)).push (.cells [.snil, .snil, .int .i64 0, .int .i64 0] 49 none) := ⟨_, rfl⟩
    have gW : H.get h.n = .cells [v, .sl b 0 L.length L.length, .int .i64 (-1), .int .i64 0] 49 none := by rw [hH]; exact get_push3a
    have gR : H.get (h.n + 1) = .cells (recE r) 24 none := by rw [hH]; exact get_push3b
    have gS : H.get (h.n + 1 + 1) = .cells [.snil, .snil, .int .i64 0, .int .i64 0] 49 none := by rw [hH]; exact get_push3c
    have nH : H.n = h.n + 3 := by rw [hH]; rfl
    have kH : Keep h H none_ := by rw [hH]; exact ((Keep.push _ _ _).then_push _).then_push _
    rw [← hH]
    clear hH
    have a1 := a.on kH
    have hlt := a.own.lt
    have hbl := a.bl
    have gt := a1.gt
    obtain ⟨wv1, wv2⟩ := own_one a.own
    simp only [List.length_cons] at hn
    have hil : i < L.length := by omega
    have hv : L[i] = v0 := by
      rw [List.drop_eq_getElem_cons hil] at hi
      exact (List.cons.inj hi).1
    have hvs : L.drop (i + 1) = vs := by
      rw [List.drop_eq_getElem_cons hil] at hi
      exact (List.cons.inj hi).2
    have okv : OkE v0.e := hok v0 (by rw [← hv]; exact List.getElem_mem hil)
    have hp : 4 ^ (v0 :: vs).length = 4 * 4 ^ vs.length := by rw [List.length_cons, Nat.pow_succ, Nat.mul_comm]
    rw [hp] at hs
    have c : ((i : Int) == ((L.length : Nat) : Int)) = false := by simp; omega
    have r0 : dropC (AObj.cells (recE r) 24 none) 0 = some (recE r) := rfl
    have lr0 : loadGo (some (some 3)) (some (recE r)) = some (.agg (recE r)) := rfl
    have ixV : aIndexAddr Tryd.prog 22 (.imm L.length (L.flatMap encX)) (.int .i64 (i : Int)) = some (.at (encX v0 ++ vs.flatMap encX)) := by
      have := rows_ix (P := Tryd.prog) encX_len hil (t := 22) (kk := .i64) ss_22
      rwa [hv, hvs] at this
    have ldV : loadGo (some (some 6)) (some (encX v0 ++ vs.flatMap encX)) = some (.agg (encX v0)) := load_row (encX_len v0)
    simp only [wpA_skip, wpA_seq, wpA_draw, condI_false, seqQ_normal, Int.reduceNeg, c]
    refine SWp.drawnI [] (by kernel_rfl) (by kernel_rfl) (by kernel_rfl) ?_
    simp only [gI_cons, goI_rest, ggI_true, wantedA_none, idleOp, Bool.or_false, List.contains_nil, stepA_move, stepA_load, stepA_indexAddr, thenV_some, eval_tmp, put_some, enterF_zero, enterF_succ, aLoad_eq, aPlace_ptr, aPlace_at, Int.reduceNeg, Nat.reduceEqDiff, Nat.reduceAdd, Nat.zero_add, if_true, if_false, lt_24, lt_44, gR, ixV, ldV, r0, lr0]
    refine gI_pure rfl rfl rfl (pApplyR v0 okv r hr.1 hr.2.1 hr.2.2 H) ?_
    have hRin := applyX_in v0 okv r hr
    obtain ⟨R, z, hR⟩ : ∃ R z, applyX v0 r = (R, z) := ⟨_, _, rfl⟩
    have hR4 : R.length ≤ 4 := by have := applyX_le v0 r; rwa [hR] at this
    rw [hR] at hRin ⊢
    have hit : i < s.2.length := by omega
    have d1 := dropT s.2 i hit (e := 3)
    have st1 : setC (some 1) (.cells (i64V s.2) 3 none) i [.int .i64 (IntKind.i64.wrap (s.2.getD i 0 + (R.length : Int)))] = some (.cells (i64V (addT s.2 i R.length)) 3 none) := setT s.2 i _ hit
    have ix1 := ixT b L.length i hil
    have b2 := a1.tot (addT s.2 i R.length)
    have hit2 : i < (addT s.2 i R.length).length := by rw [addT_len]; exact hit
    have d2 := dropT (addT s.2 i R.length) i hit2 (e := 3)
    have gt2 := b2.gt
    obtain ⟨H2, hH2⟩ : ∃ x, x = H.set b (.cells (i64V (addT s.2 i R.length)) 3 none) := ⟨_, rfl⟩
    rw [← hH2] at b2 gt2
    simp only at gt2
    have sg : ∀ j, j ≠ b → H2.get j = H.get j := fun j hj => by rw [hH2]; simp [AHeap.set, hj]
    have gW2 : H2.get h.n = .cells [v, .sl b 0 L.length L.length, .int .i64 (-1), .int .i64 0] 49 none := by rw [sg _ (by omega)]; exact gW
    have gS2 : H2.get (h.n + 1 + 1) = .cells [.snil, .snil, .int .i64 0, .int .i64 0] 49 none := by rw [sg _ (by omega)]; exact gS
    have nH2 : H2.n = h.n + 3 := by rw [hH2]; exact nH
    have kH2 : Keep h H2 (own2 b v) := by
      rw [hH2]
      exact (kH.up (o := own2 b v)).trans' ((Keep.set H b _).mono fun j hj => .inl hj)
    have gS3 : ∀ Y, (H2.set h.n Y).get (h.n + 1 + 1) = .cells [.snil, .snil, .int .i64 0, .int .i64 0] 49 none := fun Y => by
      have : (H2.set h.n Y).get (h.n + 1 + 1) = H2.get (h.n + 1 + 1) := by simp [AHeap.set]; intro q; omega
      rw [this]; exact gS2
    simp only [gI_nil, gI_cons, goI_rest, ggI_true, wantedA_none, idleOp, Bool.or_false, List.contains_nil, wpA_seq, wpA_draw, seqQ_normal, goI_out, stepA_move, stepA_assign, stepA_extract, thenV_some, extV_zero, extV_succ, eval_tmp, put_some, enterF_succ, Int.reduceNeg, Nat.reduceEqDiff, Nat.reduceAdd, if_true, if_false, apV]
    refine SWp.drawnI [12] (by kernel_rfl) (by kernel_rfl) (by kernel_rfl) ?_
    simp only [gI_nil, gI_cons, goI_rest, ggI_true, wantedA_none, idleOp, Bool.or_true, Bool.or_false, List.contains_cons, List.contains_nil, Nat.reduceBEq, beq_self_eq_true, wpA_region, wpA_seq, seqQ_normal, goI_out, goI_ops, opsA_cons, opsA_guardS, slotAt_zero, slotAt_succ, stepA_move, stepA_load, stepA_store, stepA_binOp, stepA_fieldAddr, stepA_indexAddr, stepA_len, thenV_some, thenS_some, eval_tmp, eval_const, put_some, put_none, enterF_zero, enterF_succ, aBin_add, aBin_eql, absV_int, cells_int, aField_eq, fieldGo_ptr, aLoad_eq, loadGo_one, aPlace_ptr, dropC_cells, aStore_eq, storeGo_ptr, aLen_imm, beq_self_eq_true, Int.reduceNeg, Nat.reduceEqDiff, Nat.reduceAdd, Nat.reduceLeDiff, Option.map_some, Nat.zero_add, List.length_cons, List.length_nil, List.drop_zero, List.drop_succ_cons, if_true, if_false, ft_49_1, kt_28, lt_3, lt_42, zt_3, gW, ix1, gt, d1, st1, ← hH2]
    by_cases hz : z = 0
    rotate_left
    · have cz : (z == 0) = false := by simp [hz]
      have cz2 : (z != 0) = true := by simp [hz]
      have hG : passX (v0 :: vs) i r s = (((i : Int), z), s) := by simp [passX, hR, hz]
      simp only [wpA_skip, wpA_region, wpA_seq, wpA_cond, wpA_ret, condI_true, condI_false, seqQ_normal, seqQ_ret, endI_mk, goI_out, goI_ops, opsA_nil, opsA_cons, opsA_guardS, gvI_ft, slotAt_zero, slotAt_succ, stepA_move, stepA_pick, stepA_load, stepA_store, stepA_binOp, stepA_fieldAddr, thenV_some, thenS_some, pickV_false, eval_tmp, eval_const, put_some, put_none, enterF_zero, enterF_succ, aBin_neq, absV_int, absV_bool, cells_int, cells_agg, one_int, one_sl, all_nil, all_cons, aField_eq, fieldGo_ptr, aLoad_eq, loadGo_row, aPlace_ptr, dropC_cells, aStore_eq, storeGo_ptr, setC_row, setAll_nil, setAll_cons, get_set_same, set_set, Int.reduceNeg, Nat.reduceEqDiff, Nat.reduceAdd, Nat.reduceLeDiff, Option.map_some, Nat.zero_add, Nat.zero_le, List.length_cons, List.length_nil, List.drop_zero, List.take_succ_cons, List.take_nil, List.set_cons_zero, List.set_cons_succ, if_true, if_false, Bool.and_self, Nat.le_refl, ft_49_2, ft_49_3, lt_49, zt_3, zt_49, cz, cz2, gW2, gS3, wv1, resultsC_1, retA_ret, Tryd.results13, resultsC_1, resultA_cell]
      exact hid_mk ⟨v, by rw [hG], (kH2.setNew (by omega) _).setNew (by omega) _, .inl rfl, ⟨wv1, wv2⟩, by rw [hG]; exact fun q => absurd q hz⟩
    subst hz
    by_cases hf : 10000 < (addT s.2 i R.length).getD i 0
    · have cf : decide (10000 < (addT s.2 i R.length).getD i 0) = true := by simpa using hf
      have hG : passX (v0 :: vs) i r s = (((i : Int), 3), (s.1, addT s.2 i R.length)) := by simp only [passX, hR]; rw [if_neg (by simp), if_pos hf]
      simp only [wpA_region, wpA_seq, wpA_cond, wpA_ret, condI_true, seqQ_normal, seqQ_ret, endI_mk, goI_out, goI_ops, opsA_nil, opsA_cons, opsA_guardS, gvI_same, slotAt_zero, slotAt_succ, stepA_move, stepA_assign, stepA_pick, stepA_load, stepA_store, stepA_binOp, stepA_fieldAddr, stepA_indexAddr, thenV_some, thenS_some, pickV_true, eval_tmp, eval_const, put_some, put_none, enterF_zero, enterF_succ, aBin_neq, aBin_gtr, absV_int, absV_bool, cells_int, cells_agg, one_int, one_sl, all_nil, all_cons, aField_eq, fieldGo_ptr, aLoad_eq, loadGo_one, loadGo_row, aPlace_ptr, dropC_cells, aStore_eq, storeGo_ptr, setC_row, setAll_nil, setAll_cons, get_set_same, set_set, Int.reduceBNe, beq_self_eq_true, Int.reduceNeg, Nat.reduceEqDiff, Nat.reduceAdd, Nat.reduceLeDiff, Option.map_some, Nat.zero_add, Nat.zero_le, List.length_cons, List.length_nil, List.drop_zero, List.drop_succ_cons, List.take_succ_cons, List.take_nil, List.set_cons_zero, List.set_cons_succ, if_true, if_false, Bool.and_self, Nat.le_refl, ft_49_1, ft_49_2, ft_49_3, lt_3, lt_42, lt_49, zt_3, zt_49, gW2, gS3, ix1, gt2, d2, cf, wv1, resultsC_1, retA_ret, Tryd.results13, resultsC_1, resultA_cell]
      exact hid_mk ⟨v, by rw [hG], (kH2.setNew (by omega) _).setNew (by omega) _, .inl rfl, ⟨wv1, wv2⟩, by rw [hG]; exact fun q => by simp at q⟩
    have cf : decide (10000 < (addT s.2 i R.length).getD i 0) = false := by simpa using hf
    have hG : passX (v0 :: vs) i r s = passL (passX vs (i + 1)) R (s.1, addT s.2 i R.length) := by simp only [passX, hR]; rw [if_neg (by simp), if_neg hf]
    rw [hG]
    simp only [wpA_skip, wpA_region, wpA_seq, wpA_cond, wpA_block, wpA_loop, condI_false, seqQ_normal, goI_out, goI_ops, opsA_nil, opsA_cons, opsA_guardS, gvI_same, slotAt_zero, slotAt_succ, stepA_move, stepA_assign, stepA_pick, stepA_load, stepA_binOp, stepA_fieldAddr, stepA_indexAddr, thenV_some, pickV_true, eval_tmp, eval_const, put_some, put_none, enterF_zero, enterF_succ, aBin_neq, aBin_gtr, absV_int, absV_bool, aField_eq, fieldGo_ptr, aLoad_eq, loadGo_one, aPlace_ptr, dropC_cells, bne_self_eq_false, beq_self_eq_true, Int.reduceNeg, Nat.reduceEqDiff, Nat.reduceAdd, Nat.reduceLeDiff, Nat.zero_add, List.length_cons, List.length_nil, List.drop_zero, List.drop_succ_cons, if_true, if_false, ft_49_1, lt_3, lt_42, gW2, ix1, gt2, d2, cf]
    refine SWp.loopG (α := Nat × PS × V × Int × Int) (fun x f hh => f 1 = .imm L.length (L.flatMap encX) ∧ f 2 = .int .i64 (i : Int) ∧ f 4 = .ptr h.n 0 ∧ f 8 = .ptr (h.n + 1 + 1) 0 ∧ f 9 = .imm R.length (R.flatMap recE) ∧ f 11 = .int .i64 (x.1 : Nat) ∧ x.1 ≤ R.length ∧ h.n + 3 ≤ hh.n ∧
        hh.get h.n = .cells [x.2.2.1, .sl b 0 L.length L.length, .int .i64 x.2.2.2.1, .int .i64 x.2.2.2.2] 49 none ∧ hh.get (h.n + 1 + 1) = .cells [.snil, .snil, .int .i64 0, .int .i64 0] 49 none ∧ Keep h hh (own2 b v) ∧ (x.2.2.1.one = true ∧ x.2.2.1.cells = some [x.2.2.1]) ∧
        (∀ j, idOf x.2.2.1 = some j → (idOf v = some j ∧ j < h.n) ∨ h.n + 3 ≤ j) ∧
        (x.2.2.2.2 = 0 → x.2.2.2.1 = -1 ∧ Sv b x.2.1 x.2.2.1 hh ∧ x.2.1.2.length = L.length ∧ x.2.1.1.length ≤ s.1.length + x.1 * 4 ^ vs.length ∧ passL (passX vs (i + 1)) R (s.1, addT s.2 i R.length) = passL (passX vs (i + 1)) (R.drop x.1) x.2.1) ∧
        (x.2.2.2.2 ≠ 0 → (passL (passX vs (i + 1)) R (s.1, addT s.2 i R.length)).1 = (x.2.2.2.1, x.2.2.2.2)))
      (fun x => R.length - x.1) (0, (s.1, addT s.2 i R.length), v, -1, 0)
      ⟨rfl, rfl, rfl, rfl, rfl, rfl, Nat.zero_le _, by omega, gW2, gS2, kH2, ⟨wv1, wv2⟩, fun j hj => .inl ⟨hj, hlt j hj⟩, fun _ => ⟨rfl, b2, by rw [addT_len]; exact ht, by simp, by simp⟩, fun q => absurd rfl q⟩ ?_
    rintro ⟨k, s', v1, at_, bad⟩ f hh ⟨f1, f2, f4, f8, f9, f11, hk, nn, gw, gs, kk, ⟨o1, o2⟩, id1, run, err⟩
    simp only at f11 hk gw o1 o2 id1 run err
    refine wpI_sound (by kernel_rfl) ?_
    have gs3 : ∀ Y, (hh.set h.n Y).get (h.n + 1 + 1) = .cells [.snil, .snil, .int .i64 0, .int .i64 0] 49 none := fun Y => by
      have : (hh.set h.n Y).get (h.n + 1 + 1) = hh.get (h.n + 1 + 1) := by simp [AHeap.set]; intro q; omega
      rw [this]; exact gs
    have nw : NewOr h v v1 := by
      cases hid : idOf v1 with
      | none => exact .inr fun j hj => by rw [hid] at hj; cases hj
      | some j =>
        rcases id1 j hid with q | q
        · exact .inl (by rw [hid, q.1])
        · exact .inr fun j' hj => by rw [hid] at hj; obtain rfl := Option.some.inj hj; omega
    by_cases hbad : bad = 0
    rotate_left
    · have hE := err hbad
      have cb : (bad == 0) = false := by simp [hbad]
      by_cases hlt2 : k < R.length
      · have c3 : decide ((k : Int) < ((R.length : Nat) : Int)) = true := decide_eq_true (by omega)
        simp only [wpA_region, wpA_seq, wpA_cond, wpA_exit, wpA_ret, condI_false, seqQ_normal, seqQ_exit, blkQ_exit, endI_mk, goE, andThen_exit, goI_out, goI_ops, opsA_nil, opsA_cons, opsA_guardS, gvI_same, slotAt_zero, slotAt_succ, stepA_move, stepA_pick, stepA_load, stepA_store, stepA_binOp, stepA_fieldAddr, stepA_len, thenV_some, thenS_some, pickV_true, eval_tmp, eval_const, put_some, put_none, aBin_eql, aBin_lss, absV_int, absV_bool, cells_agg, one_int, one_sl, all_nil, all_cons, aField_eq, fieldGo_ptr, aLoad_eq, loadGo_one, loadGo_row, aPlace_ptr, dropC_cells, aStore_eq, storeGo_ptr, setC_row, setAll_nil, setAll_cons, aLen_imm, get_set_same, Nat.reduceEqDiff, Nat.reduceAdd, Nat.reduceLeDiff, Option.map_some, Nat.zero_add, Nat.zero_le, List.length_cons, List.length_nil, List.drop_zero, List.drop_succ_cons, List.take_succ_cons, List.take_nil, List.set_cons_zero, List.set_cons_succ, if_true, if_false, Bool.and_self, Nat.le_refl, ft_49_3, kt_28, lt_3, lt_49, zt_49, f4, f8, f9, f11, gw, gs, c3, cb, o1, resultsC_1, retA_ret, Tryd.results13, resultsC_1, resultA_cell]
        exact hid_mk ⟨v1, by rw [hE], kk.setNew (by omega) _, nw, ⟨o1, o2⟩, by rw [hE]; exact fun q => absurd q hbad⟩
      · have c3 : decide ((k : Int) < ((R.length : Nat) : Int)) = false := decide_eq_false (by omega)
        simp only [wpA_region, wpA_seq, wpA_cond, wpA_exit, wpA_ret, condI_false, seqQ_normal, seqQ_exit, blkQ_exit, endI_mk, goE, andThen_exit, goI_out, goI_ops, opsA_nil, opsA_cons, opsA_guardS, gvI_ft, slotAt_zero, slotAt_succ, stepA_move, stepA_pick, stepA_load, stepA_store, stepA_binOp, stepA_len, thenV_some, thenS_some, pickV_false, eval_tmp, eval_const, put_some, put_none, aBin_lss, absV_bool, cells_agg, one_int, one_sl, all_nil, all_cons, aLoad_eq, loadGo_row, aPlace_ptr, dropC_cells, aStore_eq, storeGo_ptr, setC_row, setAll_nil, setAll_cons, aLen_imm, get_set_same, Nat.reduceEqDiff, Nat.reduceAdd, Option.map_some, Nat.zero_add, Nat.zero_le, List.length_cons, List.length_nil, List.drop_zero, List.take_succ_cons, List.take_nil, List.set_cons_zero, List.set_cons_succ, if_true, if_false, Bool.and_self, Nat.le_refl, kt_28, lt_49, zt_49, f4, f8, f9, f11, gw, gs, c3, o1, resultsC_1, retA_ret, Tryd.results13, resultsC_1, resultA_cell]
        exact hid_mk ⟨v1, by rw [hE], kk.setNew (by omega) _, nw, ⟨o1, o2⟩, by rw [hE]; exact fun q => absurd q hbad⟩
    subst hbad
    obtain ⟨hat, sv, t1, l1, p1⟩ := run rfl
    subst hat
    by_cases hlt2 : k < R.length
    rotate_left
    · have c3 : decide ((k : Int) < ((R.length : Nat) : Int)) = false := decide_eq_false (by omega)
      have hkR : R.drop k = [] := List.drop_of_length_le (by omega)
      rw [p1, hkR]
      simp only [wpA_region, wpA_seq, wpA_cond, wpA_exit, wpA_ret, condI_false, seqQ_normal, seqQ_exit, blkQ_exit, endI_mk, goE, andThen_exit, goI_out, goI_ops, opsA_nil, opsA_cons, opsA_guardS, gvI_ft, slotAt_zero, slotAt_succ, stepA_move, stepA_pick, stepA_load, stepA_store, stepA_binOp, stepA_len, thenV_some, thenS_some, pickV_false, eval_tmp, eval_const, put_some, put_none, aBin_lss, absV_bool, cells_agg, one_int, one_sl, all_nil, all_cons, aLoad_eq, loadGo_row, aPlace_ptr, dropC_cells, aStore_eq, storeGo_ptr, setC_row, setAll_nil, setAll_cons, aLen_imm, get_set_same, Int.reduceNeg, Nat.reduceEqDiff, Nat.reduceAdd, Option.map_some, Nat.zero_add, Nat.zero_le, List.length_cons, List.length_nil, List.drop_zero, List.take_succ_cons, List.take_nil, List.set_cons_zero, List.set_cons_succ, if_true, if_false, Bool.and_self, Nat.le_refl, kt_28, lt_49, zt_49, f4, f8, f9, f11, gw, gs, c3, o1, resultsC_1, retA_ret, Tryd.results13, resultsC_1, resultA_cell]
      exact hid_mk ⟨v1, rfl, kk.setNew (by omega) _, nw, ⟨o1, o2⟩, fun _ => sv.keep (Keep.set _ (h.n + 1 + 1) _) (by omega) (fun j hj q => by have := id1 j hj; omega)⟩
    have c3 : decide ((k : Int) < ((R.length : Nat) : Int)) = true := decide_eq_true (by omega)
    have w2 : IntKind.i64.wrap (((i : Nat) : Int) + 1) = ((i + 1 : Nat) : Int) := by rw [Go.IntWalk.i64_in _ (by omega)]; omega
    have w3 : IntKind.i64.wrap (((k : Nat) : Int) + 1) = ((k + 1 : Nat) : Int) := by rw [Go.IntWalk.i64_in _ (by omega)]; omega
    have ixR := rec_ix hlt2 (kk := .i64)
    have ldR : loadGo (some (some 3)) (some (recE R[k] ++ (R.drop (k + 1)).flatMap recE)) = some (.agg (recE R[k])) := load_row (recE_len _)
    obtain ⟨x, hx⟩ : ∃ x, x = R[k] := ⟨_, rfl⟩
    have hd : R.drop k = x :: R.drop (k + 1) := by rw [hx]; exact List.drop_eq_getElem_cons hlt2
    have xin : recIn x := hRin x (by rw [hx]; exact List.getElem_mem hlt2)
    rw [← hx] at ixR ldR
    have hl2 : s'.1.length + 4 ^ vs.length ≤ 65536 := by
      have : (k + 1) * 4 ^ vs.length ≤ 4 * 4 ^ vs.length := Nat.mul_le_mul_right _ (by omega)
      rw [Nat.add_mul] at this
      omega
    have hc := ih (i + 1) hvs (by omega) x xin s' v1 t1 hl2 hh sv
    have len2 := passX_len vs (i + 1) x s'
    have tot2 := passX_tot vs (i + 1) x s'
    have ok1 := passX_ok1 vs (i + 1) x s'
    simp only [wpA_skip, wpA_region, wpA_seq, wpA_cond, wpA_block, wpA_draw, condI_true, seqQ_normal, goI_out, goI_ops, opsA_nil, opsA_cons, opsA_guardS, gvI_same, slotAt_zero, slotAt_succ, stepA_move, stepA_pick, stepA_load, stepA_binOp, stepA_fieldAddr, stepA_len, thenV_some, pickV_true, eval_tmp, eval_const, put_some, aBin_eql, aBin_lss, absV_int, absV_bool, aField_eq, fieldGo_ptr, aLoad_eq, loadGo_one, aPlace_ptr, dropC_cells, aLen_imm, beq_self_eq_true, Int.reduceNeg, Nat.reduceEqDiff, Nat.reduceAdd, Nat.reduceLeDiff, Nat.zero_add, List.length_cons, List.length_nil, List.drop_zero, List.drop_succ_cons, if_true, if_false, ft_49_3, kt_28, lt_3, f4, f9, f11, gw, c3]
    refine SWp.drawnI [8, 9] (by kernel_rfl) (by kernel_rfl) (by kernel_rfl) ?_
    simp only [gI_cons, goI_rest, ggI_true, wantedA_none, idleOp, Bool.or_true, Bool.or_false, List.contains_cons, List.contains_nil, Nat.reduceBEq, beq_self_eq_true, stepA_move, stepA_load, stepA_binOp, stepA_indexAddr, stepA_call, thenV_some, eval_tmp, eval_const, put_some, aBin_add, absV_int, aLoad_eq, loadGo_row, aPlace_ptr, aPlace_at, dropC_cells, beq_self_eq_true, Int.reduceNeg, Nat.reduceEqDiff, Nat.reduceAdd, List.map_cons, List.map_nil, Nat.zero_add, Nat.zero_le, List.length_cons, List.length_nil, List.drop_zero, List.take_succ_cons, List.take_nil, if_true, if_false, Nat.le_refl, lt_24, lt_49, f1, f2, f4, f9, f11, gw, ixR, ldR, w2]
    refine callI_of cal13 hc (fun q h' ⟨v2, e1, k2, nw2, ⟨u1, u2⟩, sv2⟩ => ?_)
    subst e1
    obtain ⟨p, hp⟩ : ∃ p, p = passX vs (i + 1) x s' := ⟨_, rfl⟩
    rw [← hp] at len2 tot2 ok1 sv2 ⊢
    have n2 := k2.n
    have nv : ∀ j, h.n ≤ j → j < h.n + 3 → ¬ own2 b v1 j := fun j h1 h2 q => by
      rcases q with q | q
      · omega
      · have := id1 j q; omega
    have gw2 : h'.get h.n = .cells [v1, .sl b 0 L.length L.length, .int .i64 (-1), .int .i64 0] 49 none := (k2.get _ (by omega) (nv _ (by omega) (by omega))).trans gw
    have gs2 : ∀ Y, (h'.set h.n Y).get (h.n + 1 + 1) = .cells [.snil, .snil, .int .i64 0, .int .i64 0] 49 none := fun Y => by
      have : (h'.set h.n Y).get (h.n + 1 + 1) = h'.get (h.n + 1 + 1) := by simp [AHeap.set]; intro q; omega
      rw [this, k2.get _ (by omega) (nv _ (by omega) (by omega))]; exact gs
    simp only [gI_nil, gI_cons, goI_rest, ggI_true, wantedA_none, idleOp, Bool.or_true, Bool.or_false, List.contains_cons, List.contains_nil, Nat.reduceBEq, beq_self_eq_true, wpA_region, seqQ_normal, blkQ_normal, endI_mk, andThen_normal, goI_out, goI_ops, opsA_nil, opsA_cons, stepA_move, stepA_assign, stepA_store, stepA_binOp, thenV_some, thenS_some, eval_tmp, eval_const, put_some, put_none, aBin_add, absV_int, cells_agg, one_int, one_sl, all_nil, all_cons, aStore_eq, storeGo_ptr, setC_row, setAll_nil, setAll_cons, beq_self_eq_true, Int.reduceNeg, Nat.reduceEqDiff, Nat.reduceAdd, Option.map_some, Nat.zero_add, List.length_cons, List.length_nil, List.set_cons_zero, List.set_cons_succ, if_true, if_false, Bool.and_self, Nat.le_refl, zt_49, f4, f11, gw2, u1, w3]
    have idn : ∀ j, idOf v2 = some j → (idOf v = some j ∧ j < h.n) ∨ h.n + 3 ≤ j := fun j hj => by
      rcases nw2 with q | q
      · exact id1 j (q ▸ hj)
      · have := q j hj; exact .inr (by omega)
    have kk2 : ∀ Y, Keep h (h'.set h.n Y) (own2 b v) := fun Y => (kk.trans k2 fun j hj q => by
      rcases q with q | q
      · exact .inl q
      · rcases id1 j q with q | q
        · exact .inr q.1
        · omega).setNew (by omega) _
    refine hid_mk ⟨(k + 1, p.2, v2, p.1.1, p.1.2), ⟨f1, f2, f4, f8, f9, rfl, by simp only; omega, by simp only [set_n]; omega, get_set_same, gs2 _, kk2 _, ⟨u1, u2⟩, idn, fun h0 => ?_, fun h0 => ?_⟩, by simp only; omega⟩
    · simp only at h0
      refine ⟨ok1 h0, (sv2 h0).keep (Keep.set h' h.n _) (by omega) (fun j hj q => by have := idn j hj; omega), by simp only; omega, by simp only [Nat.add_mul]; omega, ?_⟩
      rw [p1, hd]
      simp only [passL]
      rw [if_neg (by rw [← hp]; simp [h0]), ← hp]
    · simp only at h0
      rw [p1, hd]
      simp only [passL]
      rw [if_pos (by rw [← hp]; exact h0), ← hp]
end Go.Proofs.YthnleejpeocaeaaDoor.Pk
