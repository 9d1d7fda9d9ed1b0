/-
  What functions of the program do, told of abstract states. Conditions: as each theorem says.
-/
import Derived.Test.YtpmmbcifhallbaaDoorTpG
namespace Go.Proofs.YtpmmbcifhallbaaDoor.Pk
open Go Go.Proofs Go.Proofs.YtpmmbcifhallbaaDoor.Ab
set_option linter.unusedVariables false
set_option linter.unusedSimpArgs false

theorem CastL.trans {a b c : List V} {h h1 h2 : AHeap} (x : CastL a h b h1) (y : CastL b h1 c h2) : CastL a h c h2 := fun ρ B w0 w l' hw hl =>
  let ⟨ρ1, l1, w1, v1⟩ := x ρ B w0 w l' hw hl
  let ⟨ρ2, l2, w2, v2⟩ := y ρ1 B w0 w l' w1 v1
  ⟨ρ2, l1.trans l2, w2, v2⟩
/-- What a vertex's row with a From just laid, and a bare expression, is told as. -/
theorem castRow {H : AHeap} {x : Nat} {a k m : Int} {l1 z : List V} (hx : x < H.n) (gx : H.get x = .cells [.int .i64 a] 3 none) :
    ∃ h2, CastL ((l1 ++ [.int .i64 k, .sl x 0 1 1, .int .i64 0, .int .i64 0, .snil, .int .i64 m]) ++ z) H ((l1 ++ encX ⟨k, [a], .mk 0 0 [], m⟩) ++ z) h2 ∧ Keep H h2 (· = x) := by
  obtain ⟨h2, c2, q2⟩ := Cast.own (ownL (e := 3) (sz := 1) (n := 1) hx gx rfl (by simp [unk])) (n := 1) rfl (by decide)
  refine ⟨h2, ?_, q2.mono fun q hq => by simpa [isId, idOf, eq_comm] using hq⟩
  have e1 := CastL.mid (l1 := l1 ++ [.int .i64 k]) (l2 := [.int .i64 0, .int .i64 0, .snil, .int .i64 m] ++ z) c2
  have e2 := CastL.mid (l1 := l1 ++ [.int .i64 k, .imm 1 [.int .i64 a], .int .i64 0, .int .i64 0]) (l2 := [.int .i64 m] ++ z) (Cast.snil0 h2)
  have hE : encX ⟨k, [a], .mk 0 0 [], m⟩ = [.int .i64 k, .imm 1 [.int .i64 a], .int .i64 0, .int .i64 0, .imm 0 [], .int .i64 m] := by simp [encX, encE_eq, i64V]
  rw [hE]
  simp only [List.append_assoc, List.cons_append, List.nil_append] at e1 e2 ⊢
  exact CastL.trans e1 e2

set_option maxHeartbeats 2000000 in
set_option maxRecDepth 10000 in
theorem pShown5 (h : AHeap) (hg : TG h) : Pure Tryd.prog 14 [] h (.bool true) := by
  refine Pure.val (Clo.bool _) ?_
  refine SCalls.enterI (c := _) Tryd.func14 rfl (by kernel_rfl) (by simp) ?_
  simp only [wpA_region, wpA_seq, seqQ_normal, goI_out, goI_ops, opsA_nil, opsA_cons, stepA_assign, stepA_call, eval_const, absV_bool, Int.reduceNeg, List.map_nil]
  refine callI_of cal39 (pChain h) fun r h1 ⟨F, e1, hF1, hF2, gF, k1⟩ => ?_
  subst e1
  have hc : ∀ v : V, (V.agg [v, .int .i64 2]).cells = some [v, .int .i64 2] := fun _ => rfl
  have n1 := k1.n
  obtain ⟨H, hH⟩ : ∃ x, x = h1.push (.cells [.sl F 0 3 3, .int .i64 2] 24 none) := ⟨_, rfl⟩
  have gt : H.get h1.n = .cells [.sl F 0 3 3, .int .i64 2] 24 none := by rw [hH]; exact get_push_new
  have kH : Keep h1 H none_ := by rw [hH]; exact Keep.push _ _ _
  have nH : H.n = h1.n + 1 := by rw [hH]; rfl
  have gFH := (kH.get F hF2 (by simp [none_])).trans gF
  have tH : TG H := (hg.keep k1).keep kH
  simp only [wpA_region, wpA_seq, seqQ_normal, goI_out, goI_ops, opsA_nil, opsA_cons, stepA_alloc, stepA_load, stepA_store, stepA_call, thenV_some, thenH_some, thenS_some, eval_tmp, put_some, put_none, one_int, one_sl, all_nil, all_cons, aLoad_eq, loadGo_row, aPlace_ptr, dropC_cells, aStore_eq, storeGo_ptr, setC_row, setAll_nil, setAll_cons, aAlloc_eq, get_push_new, set_push, Int.reduceNeg, Nat.reduceEqDiff, Nat.reduceAdd, reduceCtorEq, List.map_cons, List.map_nil, Option.map_some, Nat.zero_add, Nat.zero_le, List.length_cons, List.length_nil, List.drop_zero, List.take_succ_cons, List.take_nil, List.set_cons_zero, List.set_cons_succ, if_true, if_false, Bool.and_self, Nat.le_refl, lt_24, zc_24, zt_24, hc, ← hH, gt]
  refine callI_pure cal16 (pCheckO F 3 [] none chain0 2 okChain0 H tH (by omega) (by rw [List.append_nil]; exact gFH)) ?_
  rw [chk0]
  obtain ⟨H1, hH1⟩ : ∃ x, x = H.push (.cells [.int .i64 2] 3 none) := ⟨_, rfl⟩
  have gx1 : H1.get H.n = .cells [.int .i64 2] 3 none := by rw [hH1]; exact get_push_new
  have kH1 : Keep H H1 none_ := by rw [hH1]; exact Keep.push _ _ _
  have nH1 : H1.n = H.n + 1 := by rw [hH1]; rfl
  have gt1 := (kH1.get h1.n (by omega) (by simp [none_])).trans gt
  have gF1 := (kH1.get F (by omega) (by simp [none_])).trans gFH
  obtain ⟨v', H2, qa, o2, k2, nw⟩ := append_elemM (P := Tryd.prog) sl_22 (by decide) (xs := [.int .i64 10, .sl H.n 0 1 1, .int .i64 0, .int .i64 0, .snil, .int .i64 1]) (ownL (h := H1) (e := 47) (sz := 6) (n := 3) (by omega) gF1 (by rw [rows_len encX_len]; rfl) (by simp [unk])) rfl rfl (fun m hm => by
    rw [rows_len encX_len] at hm
    have hm' : m * 6 = 3 * 6 + 6 := hm
    show m * 80 ≤ 140737488355328 ∧ m ≤ 140737488355328
    omega)
  have n2 := k2.n
  have gt2 := (k2.get h1.n (by omega) (by simp [isId, idOf]; omega)).trans gt1
  have gx2 := (k2.get H.n (by omega) (by simp [isId, idOf]; omega)).trans gx1
  rcases o2 with ⟨_, q⟩ | ⟨G, len, cap, c, ex, rfl, hG, gG, hlen, htake, hcap⟩
  · have := congrArg List.length q
    simp [chain0, encX_len] at this
  have hlen4 : len = 4 := by
    rw [List.length_append, rows_len encX_len] at hlen
    have : 3 * 6 + 6 = len * 6 := hlen
    omega
  subst hlen4
  have hGT : G ≠ h1.n := fun hh => by rw [hh, gt2] at gG; cases gG
  have hGx : G ≠ H.n := fun hh => by rw [hh, gx2] at gG; cases gG
  have hGh : h.n ≤ G := by
    rcases nw with nw | nw
    · simp [idOf] at nw; omega
    · have := nw G rfl; omega
  obtain ⟨H3, hH3⟩ : ∃ x, x = H2.set h1.n (.cells [.sl G 0 4 cap, .int .i64 2] 24 none) := ⟨_, rfl⟩
  have k3 : Keep H2 H3 (· = h1.n) := by rw [hH3]; exact Keep.set _ _ _
  have n3 := k3.n
  have n3' : H3.n = H2.n := by rw [hH3]; rfl
  have gt3 : H3.get h1.n = .cells [.sl G 0 4 cap, .int .i64 2] 24 none := by rw [hH3]; exact get_set_same
  have gx3 := (k3.get H.n (by omega) (by omega)).trans gx2
  have gG3 := (k3.get G hG hGT).trans gG
  simp only [wpA_region, wpA_seq, seqQ_normal, goI_out, goI_ops, opsA_nil, opsA_cons, stepA_move, stepA_assign, stepA_build, stepA_buildSlice, stepA_load, stepA_store, stepA_fieldAddr, stepA_extract, stepA_append, stepA_call, thenV_some, thenH_some, thenS_some, extV_zero, extV_succ, eval_tmp, eval_const, put_some, put_none, absV_int, cells_int, cells_sl, one_sl, all_nil, all_cons, aField_eq, fieldGo_ptr, aLoad_eq, loadGo_one, loadGo_row, aPlace_ptr, dropC_cells, aStore_eq, storeGo_ptr, setC_row, setAll_nil, setAll_cons, aBuild_go, aFill_nil, aFill_cons, fillGo_some, buildGo_struct, List.getElem?_cons_zero, List.getElem?_cons_succ, Int.reduceNeg, Nat.reduceEqDiff, Nat.reduceAdd, Nat.reduceLeDiff, reduceCtorEq, List.map_cons, List.map_nil, Option.map_some, Nat.add_zero, Nat.zero_add, Nat.zero_le, List.length_cons, List.length_nil, List.drop_zero, List.take_succ_cons, List.take_nil, List.set_cons_zero, List.set_cons_succ, and_self, if_true, if_false, Bool.and_self, Nat.le_refl, ft_24_0, lt_22, lt_24, pl_47, zc_47, zt_22, chkA, gt, litI1, ← hH1, litV1, qa, gt2, ← hH3, gt3]
  have hcz : c = (chain0.flatMap encX ++ [.int .i64 10, .sl H.n 0 1 1, .int .i64 0, .int .i64 0, .snil, .int .i64 1]) ++ c.drop (4 * 6) := by
    rw [← htake, List.take_append_drop]
  generalize c.drop (4 * 6) = z at hcz
  subst hcz
  obtain ⟨h4, c4, k4⟩ := castRow (H := H3) (x := H.n) (a := 2) (k := 10) (m := 1) (l1 := chain0.flatMap encX) (z := z) (by omega) gx3
  have n4 := k4.n
  have gG4 := (k4.get G (by omega) hGx).trans gG3
  have gt4 := (k4.get h1.n (by omega) (by omega)).trans gt3
  have hch : chain0.flatMap encX ++ encX ⟨10, [2], .mk 0 0 [], 1⟩ = chain1.flatMap encX := by simp [chain1]
  rw [hch] at c4
  have hle : (chain1.flatMap encX ++ z).length = ((chain0.flatMap encX ++ ([.int .i64 10, .sl H.n 0 1 1, .int .i64 0, .int .i64 0, .snil, .int .i64 1] : List V)) ++ z).length := by
    rw [List.length_append, List.length_append, List.length_append, rows_len encX_len, rows_len encX_len]; rfl
  have hcc := Cast.cellC gG3 c4 gG4 hle (.agg [.sl G 0 4 cap, .int .i64 2])
  obtain ⟨h5, hh5⟩ : ∃ x, x = h4.set G (.cells (chain1.flatMap encX ++ z) 47 ex) := ⟨_, rfl⟩
  rw [← hh5] at hcc
  have k5 : Keep h4 h5 (· = G) := by rw [hh5]; exact Keep.set _ _ _
  have n5' : h5.n = h4.n := by rw [hh5]; rfl
  have gG5 : h5.get G = .cells (chain1.flatMap encX ++ z) 47 ex := by rw [hh5]; exact get_set_same
  have gt5 := (k5.get h1.n (by omega) (by omega)).trans gt4
  have t5 : TG h5 := ((((tH.keep kH1).keep k2).keep k3).keep k4).keep k5
  have kAll : Keep h h5 none_ := by
    refine Keep.trans (Keep.trans (Keep.trans (Keep.trans (Keep.trans (Keep.trans k1 kH fun q hq e => e.elim) kH1 fun q hq e => e.elim) k2 fun q hq e => ?_) k3 fun q hq e => by omega) k4 fun q hq e => by omega) k5 fun q hq e => by omega
    simp [isId, idOf] at e; omega
  refine callI_of cal16 (SCalls.args (CastL.cons hcc (CastL.refl _ _)) (pCheckO G cap z ex chain1 2 okChain1 h5 t5 (by omega) gG5)) fun r h6 ⟨e6, e7⟩ => ?_
  subst e6 e7
  rw [chk1]
  have own6 : Own h6 47 6 (.sl G 0 4 cap) (chain1.flatMap encX) := .inr ⟨G, 4, cap, _, ex, rfl, by omega, gG5, by rw [rows_len encX_len]; rfl, by
    rw [List.take_append_of_le_length (by rw [rows_len encX_len]; exact Nat.le_refl _), List.take_of_length_le (by rw [rows_len encX_len]; exact Nat.le_refl _)], ?_⟩
  rotate_left
  · rw [hle]; exact hcap
  obtain ⟨h7, c7, k7⟩ := Cast.own own6 (n := 4) (by rw [rows_len encX_len]; rfl) (by decide)
  have kF : Keep h h7 none_ := kAll.trans k7 fun q hq e => by simp [isId, idOf] at e; omega
  have hct : Cast (.agg [.sl G 0 4 cap, .int .i64 2]) h6 (.agg (topE chain1 2)) h7 := Pk.Cast.agg (CastL.cons c7 (CastL.refl _ _))
  simp only [wpA_region, wpA_seq, seqQ_normal, goI_out, goI_ops, opsA_nil, opsA_cons, opsA_guardS, gvI_same, slotAt_zero, slotAt_succ, stepA_move, stepA_assign, stepA_pick, stepA_load, stepA_binOp, stepA_extract, stepA_call, thenV_some, pickV_true, extV_zero, extV_succ, eval_tmp, eval_const, put_some, put_none, aBin_eql, absV_int, absV_bool, aLoad_eq, loadGo_row, aPlace_ptr, dropC_cells, beq_self_eq_true, Int.reduceNeg, Nat.reduceEqDiff, Nat.reduceAdd, reduceCtorEq, List.map_cons, List.map_nil, Nat.zero_add, Nat.zero_le, List.length_cons, List.length_nil, List.drop_zero, List.take_succ_cons, List.take_nil, if_true, if_false, Nat.le_refl, lt_24, chkA, gt5]
  refine callI_of cal19 (SCalls.args (CastL.cons hct (CastL.refl _ _)) (pUsers chain1 2 1 okChain1 (by decide) h7)) fun r h8 ⟨e8, e9⟩ => ?_
  subst e8 e9
  rw [us1]
  simp only [wpA_ret, seqQ_normal, endI_mk, goI_out, goI_ops, opsA_nil, opsA_cons, opsA_guardS, gvI_same, slotAt_zero, slotAt_succ, stepA_assign, stepA_pick, stepA_binOp, stepA_len, thenV_some, pickV_true, eval_tmp, eval_const, put_some, put_none, aBin_eql, absV_int, absV_bool, aLen_imm, Int.reduceNeg, Nat.reduceEqDiff, reduceCtorEq, Nat.zero_add, List.length_cons, List.length_nil, if_true, if_false, kt_33, retA_ret, Tryd.results14, resultsA_1]
  exact hid_mk ⟨rfl, kF⟩
end Go.Proofs.YtpmmbcifhallbaaDoor.Pk
