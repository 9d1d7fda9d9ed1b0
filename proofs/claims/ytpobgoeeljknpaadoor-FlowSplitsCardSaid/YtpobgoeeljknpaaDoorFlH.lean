/-
  What functions of the program do, told of abstract states. Conditions: as each theorem says.
-/
import Derived.Test.YtpobgoeeljknpaaDoorFlG
import Derived.Test.YtpobgoeeljknpaaDoorFlV
namespace Go.Proofs.YtpobgoeeljknpaaDoor.Pk
open Go Go.Proofs Go.Proofs.YtpobgoeeljknpaaDoor.Ab
set_option linter.unusedVariables false
set_option linter.unusedSimpArgs false
theorem srcR (D : List Rec) (h : AHeap) : aSrc Tryd.prog 3 59 (.imm D.length (D.flatMap recE)) h = some (D.length, D.flatMap recE) := by
  obtain ⟨_, _, _, _, _, hu⟩ := slT_eq (P := Tryd.prog) sl_59
  unfold aSrc
  rw [hu]
  simp only
  rw [if_pos ⟨recs_len D, rows_one recE_one D⟩]
set_option maxHeartbeats 4000000 in
set_option maxRecDepth 10000 in
theorem flowSplits (l : List Vx) (hok : ∀ v ∈ l, OkE v.e) (r : Rec) (cut : Int) (hcut : 0 ≤ cut ∧ cut < 256) (h : AHeap) (hg : KG h) : SCalls Tryd.prog 13 [.imm l.length (l.flatMap encX), .agg (recE r), .int .u8 cut] h (fun r h' => r = .bool true) := by
  refine SCalls.enterI (c := _) Tryd.func13 rfl (by kernel_rfl) (by simp) ?_
  have z00 : ((0 : Nat) : Int) = 0 := rfl
  have hcr : (V.agg (recE r)).cells = some (recE r) := rfl
  simp only [wpA_region, wpA_seq, seqQ_normal, goI_out, goI_ops, opsA_nil, opsA_cons, stepA_assign, stepA_box, stepA_call, thenH_some, eval_tmp, eval_const, enterF_zero, enterF_succ, absV_bool, aBox_eq, List.map_nil, Option.map_some, hcr]
  obtain ⟨H, hH⟩ : ∃ x, x = h.push (.cells (recE r) 32 none) := ⟨_, rfl⟩
  have g3 : H.get h.n = .cells (recE r) 32 none := by rw [hH]; exact get_push_new
  have kH : Keep h H none_ := by rw [hH]; exact Keep.push _ _ _
  have gH : KG H := hg.keep kH
  have r0 : dropC (AObj.cells (recE r) 32 none) 0 = some (recE r) := rfl
  have lr0 : loadGo (some (some 3)) (some (recE r)) = some (.agg (recE r)) := rfl
  rw [← hH]
  clear hH
  refine callI_pure cal31 (pShown17 H gH) ?_
  simp only [wpA_region, wpA_seq, seqQ_normal, goI_out, goI_ops, opsA_nil, opsA_cons, stepA_move, stepA_assign, stepA_call, eval_tmp, put_some, enterF_zero, enterF_succ, Nat.reduceEqDiff, reduceCtorEq, List.map_cons, List.map_nil, if_true, if_false]
  refine callI_of cal36 (pFew l hok H) (fun q h' ⟨⟨b, e1⟩, e2⟩ => ?_)
  subst e1
  subst e2
  cases b with
  | false =>
    simp only [wpA_region, wpA_seq, wpA_cond, wpA_ret, condI_true, seqQ_normal, seqQ_ret, endI_mk, goI_out, goI_ops, opsA_nil, opsA_cons, stepA_move, stepA_assign, stepA_unOp, stepA_extract, thenV_some, extV_zero, extV_succ, eval_tmp, put_some, enterF_succ, aUn_not, Nat.reduceEqDiff, if_true, if_false, Bool.not_false, retA_ret, Tryd.results13, resultsA_1]
    exact hid_mk rfl
  | true =>
  obtain ⟨m, hm⟩ : ∃ m, m = l.take 8 := ⟨_, rfl⟩
  have hml : m.length ≤ 8 := by rw [hm, List.length_take]; omega
  rw [← hm]
  obtain ⟨k, hk, hkm⟩ : ∃ k : Nat, (k : Int) = cut % ((m.length + 1 : Nat) : Int) ∧ k ≤ m.length := by
    have h1 := Int.emod_nonneg cut (show ((m.length + 1 : Nat) : Int) ≠ 0 by omega)
    have h2 := Int.emod_lt_of_pos cut (show (0 : Int) < ((m.length + 1 : Nat) : Int) by omega)
    exact ⟨(cut % ((m.length + 1 : Nat) : Int)).toNat, by omega, by omega⟩
  have w1 : IntKind.i64.wrap cut = cut := by rw [Go.IntWalk.i64_in _ (by omega)]
  have w2 : IntKind.i64.wrap (((m.length : Nat) : Int) + 1) = ((m.length + 1 : Nat) : Int) := by rw [Go.IntWalk.i64_in _ (by omega)]; omega
  have hrem : ∀ xo yo, aBin Tryd.prog .rem 3 xo yo (.int .i64 cut) (.int .i64 ((m.length + 1 : Nat) : Int)) = some (.int .i64 (k : Nat)) := fun xo yo => by
    rw [aBin_rem (by omega), Int.tmod_eq_emod_of_nonneg hcut.1, hk]
  simp only [wpA_skip, wpA_region, wpA_seq, wpA_cond, condI_false, seqQ_normal, goI_out, goI_ops, opsA_nil, opsA_cons, stepA_move, stepA_assign, stepA_load, stepA_binOp, stepA_unOp, stepA_convert, stepA_extract, stepA_len, stepA_call, thenV_some, extV_zero, extV_succ, eval_tmp, eval_const, put_some, enterF_zero, enterF_succ, aBin_add, aUn_not, absV_int, aLoad_eq, aPlace_ptr, aLen_imm, Nat.reduceEqDiff, List.map_cons, List.map_nil, if_true, if_false, Bool.not_true, kt_55, lt_32, aConv_int it_5 it_3, w1, w2, hrem, g3, r0, lr0]
  refine callI_pure cal33 (pChain m hml r h' gH) ?_
  obtain ⟨A, p, z, hF⟩ : ∃ A p z, chainX m r = (A, p, z) := ⟨_, _, _, rfl⟩
  rw [hF]
  simp only [wpA_seq, wpA_draw, seqQ_normal, goI_out, goI_ops, opsA_nil, opsA_cons, stepA_move, stepA_assign, stepA_extract, thenV_some, extV_zero, extV_succ, eval_tmp, put_some, enterF_succ, Nat.reduceEqDiff, if_true, if_false, chV]
  refine SWp.drawnI [] (by kernel_rfl) (by kernel_rfl) (by kernel_rfl) ?_
  simp only [gI_cons, goI_rest, ggI_true, wantedA_none, idleOp, Bool.or_false, List.contains_nil, stepA_move, stepA_load, stepA_slice, thenV_some, eval_tmp, put_some, enterF_succ, aLoad_eq, aPlace_ptr, Nat.reduceEqDiff, Nat.reduceAdd, Option.map_some, Option.map_none, Nat.zero_add, if_true, if_false, lt_32, takeV m k hkm, g3, r0, lr0]
  have htl : (m.take k).length ≤ 8 := by rw [List.length_take]; omega
  have hdl : (m.drop k).length ≤ 8 := by rw [List.length_drop]; omega
  refine gI_pure rfl rfl rfl (pChain (m.take k) htl r h' gH) ?_
  obtain ⟨B, q, y, hB⟩ : ∃ B q y, chainX (m.take k) r = (B, q, y) := ⟨_, _, _, rfl⟩
  have full0 := fun hz : z = 0 => split_ok (m := m) (r := r) hkm (by rw [hF]; exact hz)
  have bad0 : z ≠ 0 → A = [] := fun hz => by
    have := (chain_bad (m := m) (r := r) (by rw [hF]; exact hz)).1
    rwa [hF] at this
  rw [hB] at full0 ⊢
  simp only at full0
  by_cases hy : y = 0
  rotate_left
  · have hz : z ≠ 0 := fun hz => hy (full0 hz).1
    have hA := bad0 hz
    have hb := chain_bad (m := m.take k) (r := r) (by rw [hB]; exact hy)
    rw [hB] at hb
    obtain ⟨b1, b2, b3⟩ := hb
    simp only at b1 b2 b3
    rw [List.length_take] at b3
    have c1 : (y != 0) = true := by simp [hy]
    have c2 : (z != 0) = true := by simp [hz]
    have c3 : decide (0 ≤ q) = true := decide_eq_true b2
    have c4 : decide (q < ((k : Nat) : Int)) = true := decide_eq_true (by omega)
    subst hA
    subst b1
    simp only [gI_nil, gI_cons, goI_rest, ggI_true, wantedA_none, idleOp, Bool.or_false, List.contains_nil, beq_self_eq_true, wpA_region, wpA_seq, wpA_cond, wpA_ret, condI_true, seqQ_normal, seqQ_ret, endI_mk, goI_out, goI_ops, opsA_nil, opsA_cons, opsA_guardS, gvI_same, slotAt_zero, slotAt_succ, stepA_move, stepA_assign, stepA_pick, stepA_binOp, stepA_extract, stepA_len, thenV_some, pickV_true, extV_zero, extV_succ, eval_tmp, eval_const, put_some, enterF_succ, aBin_eql, aBin_neq, aBin_lss, aBin_geq, absV_int, absV_bool, aLen_imm, beq_self_eq_true, Nat.reduceEqDiff, Nat.reduceAdd, List.length_nil, if_true, if_false, kt_59, chV, c1, c2, c3, c4, z00, retA_ret, Tryd.results13, resultsA_1]
    exact hid_mk rfl
  have hsum := fun h2 h3 => split_sum (m := m) (r := r) (k := k) (by rw [hB]; exact hy) h2 h3
  rw [hB, hF] at hsum
  simp only at hsum
  have hBl : B.length ≤ 65536 := by
    have h1 := chain_len (m.take k) r
    rw [hB] at h1
    exact Nat.le_trans h1 (Nat.le_trans (Nat.pow_le_pow_right (by decide) htl) (by decide))
  have hDl : ∀ x, (chainX (m.drop k) x).1.length ≤ 65536 := fun x =>
    Nat.le_trans (chain_len (m.drop k) x) (Nat.le_trans (Nat.pow_le_pow_right (by decide) hdl) (by decide))
  have c0 : (y != 0) = false := by simp [hy]
  simp only [gI_nil, gI_cons, goI_rest, ggI_true, wantedA_none, idleOp, Bool.or_false, List.contains_nil, wpA_skip, wpA_region, wpA_seq, wpA_cond, wpA_block, wpA_loop, condI_false, seqQ_normal, goI_out, goI_ops, opsA_nil, opsA_cons, stepA_move, stepA_assign, stepA_binOp, stepA_extract, thenV_some, extV_zero, extV_succ, eval_tmp, eval_const, put_some, enterF_succ, aBin_neq, absV_int, absV_bool, absV_snil, Nat.reduceEqDiff, Nat.reduceAdd, if_true, if_false, chV, c0]
  refine SWp.loopG (α := Nat × Bool × V × List Rec) (fun x f hh => f 7 = .bool true ∧ f 8 = .imm m.length (m.flatMap encX) ∧ f 10 = .int .i64 (k : Nat) ∧ f 11 = .imm A.length (A.flatMap recE) ∧ f 13 = .int .i64 z ∧ f 14 = .imm B.length (B.flatMap recE) ∧ f 17 = x.2.2.1 ∧ f 18 = .bool x.2.1 ∧ f 19 = .int .i64 (x.1 : Nat) ∧
      x.1 ≤ B.length ∧ Acc h' hh 32 3 x.2.2.1 (x.2.2.2.flatMap recE) ∧ x.2.2.2.length ≤ x.1 * 65536 ∧ (x.2.1 = true → ∃ u ∈ B, (chainX (m.drop k) u).2.2 ≠ 0) ∧ (x.2.1 = false → (∀ u ∈ B.take x.1, (chainX (m.drop k) u).2.2 = 0) ∧ x.2.2.2 = (B.take x.1).flatMap fun u => (chainX (m.drop k) u).1))
    (fun x => B.length - x.1) (0, false, .snil, []) ⟨rfl, rfl, rfl, rfl, rfl, rfl, rfl, rfl, rfl, Nat.zero_le _, Acc.nil (Keep.refl _ _), by simp, by simp, by simp⟩ ?_
  rintro ⟨i, bad, v, O⟩ f h1 ⟨f7, f8, f10, f11, f13, f14, f17, f18, f19, hi, a1, ol, hbad, hgood⟩
  simp only at f17 f18 f19 hi a1 ol hbad hgood
  refine wpI_sound (by kernel_rfl) ?_
  by_cases hgo : i < B.length ∧ bad = false
  · obtain ⟨hlt, rfl⟩ := hgo
    obtain ⟨hall, hO⟩ := hgood rfl
    have c1 : decide ((i : Int) < ((B.length : Nat) : Int)) = true := decide_eq_true (by omega)
    have w3 : IntKind.i64.wrap (((i : Nat) : Int) + 1) = ((i + 1 : Nat) : Int) := by rw [Go.IntWalk.i64_in _ (by omega)]; omega
    have ixR := rec_ix hlt (kk := .i64)
    have ldR : loadGo (some (some 3)) (some (recE B[i] ++ (B.drop (i + 1)).flatMap recE)) = some (.agg (recE B[i])) := load_row (recE_len _)
    obtain ⟨x, hx⟩ : ∃ x, x = B[i] := ⟨_, rfl⟩
    have hxB : x ∈ B := by rw [hx]; exact List.getElem_mem hlt
    have htk : B.take (i + 1) = B.take i ++ [x] := by rw [hx]; simp
    rw [← hx] at ixR ldR
    simp only [wpA_skip, wpA_region, wpA_seq, wpA_cond, wpA_block, wpA_draw, condI_true, seqQ_normal, goI_out, goI_ops, opsA_nil, opsA_cons, opsA_guardS, gvI_same, slotAt_zero, slotAt_succ, stepA_move, stepA_pick, stepA_binOp, stepA_unOp, stepA_len, thenV_some, pickV_true, eval_tmp, eval_const, put_some, aBin_lss, aUn_not, absV_bool, aLen_imm, Nat.reduceEqDiff, if_true, if_false, Bool.not_false, kt_59, f14, f18, f19, c1]
    refine SWp.drawnI [] (by kernel_rfl) (by kernel_rfl) (by kernel_rfl) ?_
    simp only [gI_cons, goI_rest, ggI_true, wantedA_none, idleOp, Bool.or_false, List.contains_nil, stepA_move, stepA_load, stepA_slice, stepA_indexAddr, thenV_some, eval_tmp, put_some, aLoad_eq, aPlace_at, Nat.reduceEqDiff, Nat.reduceAdd, Option.map_some, Option.map_none, Nat.zero_add, if_true, if_false, lt_32, f8, f10, f14, f19, dropV m k hkm, ixR, ldR]
    refine gI_pure rfl rfl rfl (pChain (m.drop k) hdl x h1 (gH.keep a1.keep)) ?_
    have hD := hDl x
    obtain ⟨D, dq, g, hDD⟩ : ∃ D dq g, chainX (m.drop k) x = (D, dq, g) := ⟨_, _, _, rfl⟩
    rw [hDD] at hD ⊢
    simp only at hD
    obtain ⟨v', h2, q1, q2⟩ := Acc.appM (P := Tryd.prog) (tx := 59) (x := .imm D.length (D.flatMap recE)) (n := D.length) (news := D.flatMap recE) sl_59 a1 (by decide) (srcR D h1) (recs_len D) (fun mm hm => by
      rw [recs_len, recs_len] at hm
      have hm' : mm * 3 = O.length * 3 + D.length * 3 := hm
      show mm * 24 ≤ 140737488355328 ∧ mm ≤ 140737488355328
      omega)
    simp only [gI_nil, gI_cons, goI_rest, ggI_true, wantedA_none, idleOp, Bool.or_false, List.contains_nil, wpA_region, wpA_seq, seqQ_normal, blkQ_normal, endI_mk, andThen_normal, goI_out, goI_ops, opsA_nil, opsA_cons, stepA_move, stepA_assign, stepA_binOp, stepA_extract, stepA_append, thenV_some, thenH_some, extV_zero, extV_succ, eval_tmp, eval_const, put_some, aBin_add, aBin_neq, absV_int, Nat.reduceEqDiff, Nat.reduceAdd, if_true, if_false, chV, f17, f19, q1, w3]
    refine hid_mk ⟨(i + 1, g != 0, v', O ++ D), ⟨f7, f8, f10, f11, f13, f14, rfl, rfl, rfl, by simp only; omega, by rw [List.flatMap_append]; exact q2, by simp only [List.length_append, Nat.add_mul]; omega, fun hb => ⟨x, hxB, ?_⟩, fun hb => ⟨fun u hu => ?_, ?_⟩⟩, by simp only; omega⟩
    · rw [hDD]; simpa using hb
    · simp only [htk, List.mem_append, List.mem_singleton] at hu
      rcases hu with hu | rfl
      · exact hall u hu
      · rw [hDD]; simpa using hb
    · simp only [htk, List.flatMap_append, List.flatMap_cons, List.flatMap_nil, List.append_nil, hDD, hO]
  · have hexit : bad = true ∨ bad = false ∧ i = B.length := by
      cases bad with
      | true => exact .inl rfl
      | false => exact .inr ⟨rfl, Nat.le_antisymm hi (Nat.le_of_not_lt fun hlt => hgo ⟨hlt, rfl⟩)⟩
    by_cases h3 : z = 3
    · have hA := bad0 (by omega)
      subst hA
      have c2 : (z == 3) = true := by simp [h3]
      rcases hexit with rfl | ⟨rfl, rfl⟩
      · by_cases hlt : i < B.length
        · have c1 : decide ((i : Int) < ((B.length : Nat) : Int)) = true := decide_eq_true (by omega)
          simp only [wpA_region, wpA_seq, wpA_cond, wpA_exit, wpA_ret, condI_true, condI_false, seqQ_normal, seqQ_exit, seqQ_ret, blkQ_exit, endI_mk, goE, andThen_exit, goI_out, goI_ops, opsA_nil, opsA_cons, opsA_guardS, gvI_same, slotAt_zero, slotAt_succ, stepA_move, stepA_assign, stepA_pick, stepA_binOp, stepA_unOp, stepA_len, thenV_some, pickV_true, eval_tmp, eval_const, put_some, aBin_eql, aBin_lss, aUn_not, absV_int, absV_bool, aLen_imm, beq_self_eq_true, Nat.reduceEqDiff, List.length_nil, if_true, if_false, Bool.not_true, kt_59, f7, f11, f13, f14, f18, f19, c1, c2, z00, retA_ret, Tryd.results13, resultsA_1]
          exact hid_mk rfl
        · have c1 : decide ((i : Int) < ((B.length : Nat) : Int)) = false := decide_eq_false (by omega)
          simp only [wpA_region, wpA_seq, wpA_cond, wpA_exit, wpA_ret, condI_true, condI_false, seqQ_normal, seqQ_exit, seqQ_ret, blkQ_exit, endI_mk, goE, andThen_exit, goI_out, goI_ops, opsA_nil, opsA_cons, opsA_guardS, gvI_same, gvI_ft, slotAt_zero, slotAt_succ, stepA_move, stepA_assign, stepA_pick, stepA_binOp, stepA_len, thenV_some, pickV_true, pickV_false, eval_tmp, eval_const, put_some, aBin_eql, aBin_lss, absV_int, absV_bool, aLen_imm, beq_self_eq_true, Nat.reduceEqDiff, List.length_nil, if_true, if_false, kt_59, f7, f11, f13, f14, f19, c1, c2, z00, retA_ret, Tryd.results13, resultsA_1]
          exact hid_mk rfl
      · have c1 : decide (((B.length : Nat) : Int) < ((B.length : Nat) : Int)) = false := decide_eq_false (by omega)
        simp only [wpA_region, wpA_seq, wpA_cond, wpA_exit, wpA_ret, condI_true, condI_false, seqQ_normal, seqQ_exit, seqQ_ret, blkQ_exit, endI_mk, goE, andThen_exit, goI_out, goI_ops, opsA_nil, opsA_cons, opsA_guardS, gvI_same, gvI_ft, slotAt_zero, slotAt_succ, stepA_move, stepA_assign, stepA_pick, stepA_binOp, stepA_len, thenV_some, pickV_true, pickV_false, eval_tmp, eval_const, put_some, aBin_eql, aBin_lss, absV_int, absV_bool, aLen_imm, beq_self_eq_true, Nat.reduceEqDiff, List.length_nil, if_true, if_false, kt_59, f7, f11, f13, f14, f19, c1, c2, z00, retA_ret, Tryd.results13, resultsA_1]
        exact hid_mk rfl
    have c2 : (z == 3) = false := by simp [h3]
    rcases hexit with rfl | ⟨rfl, rfl⟩
    · obtain ⟨u, hu, hue⟩ := hbad rfl
      have hz : z ≠ 0 := fun hz => hue ((full0 hz).2 u hu)
      have hA := bad0 hz
      subst hA
      have c3 : (z != 0) = true := by simp [hz]
      by_cases hlt : i < B.length
      · have c1 : decide ((i : Int) < ((B.length : Nat) : Int)) = true := decide_eq_true (by omega)
        simp only [wpA_skip, wpA_region, wpA_seq, wpA_cond, wpA_exit, wpA_ret, condI_true, condI_false, seqQ_normal, seqQ_exit, seqQ_ret, blkQ_exit, endI_mk, goE, andThen_exit, goI_out, goI_ops, opsA_nil, opsA_cons, opsA_guardS, gvI_same, slotAt_zero, slotAt_succ, stepA_move, stepA_assign, stepA_pick, stepA_binOp, stepA_unOp, stepA_len, thenV_some, pickV_true, eval_tmp, eval_const, put_some, aBin_eql, aBin_neq, aBin_lss, aUn_not, absV_int, absV_bool, aLen_imm, beq_self_eq_true, Nat.reduceEqDiff, List.length_nil, if_true, if_false, Bool.not_true, kt_59, f7, f11, f13, f14, f18, f19, c1, c2, c3, z00, retA_ret, Tryd.results13, resultsA_1]
        exact hid_mk rfl
      · have c1 : decide ((i : Int) < ((B.length : Nat) : Int)) = false := decide_eq_false (by omega)
        simp only [wpA_skip, wpA_region, wpA_seq, wpA_cond, wpA_exit, wpA_ret, condI_true, condI_false, seqQ_normal, seqQ_exit, seqQ_ret, blkQ_exit, endI_mk, goE, andThen_exit, goI_out, goI_ops, opsA_nil, opsA_cons, opsA_guardS, gvI_same, gvI_ft, slotAt_zero, slotAt_succ, stepA_move, stepA_assign, stepA_pick, stepA_binOp, stepA_len, thenV_some, pickV_true, pickV_false, eval_tmp, eval_const, put_some, aBin_eql, aBin_neq, aBin_lss, absV_int, absV_bool, aLen_imm, beq_self_eq_true, Nat.reduceEqDiff, List.length_nil, if_true, if_false, kt_59, f7, f11, f13, f14, f18, f19, c1, c2, c3, z00, retA_ret, Tryd.results13, resultsA_1]
        exact hid_mk rfl
    · obtain ⟨hall, hO⟩ := hgood rfl
      rw [List.take_length] at hall hO
      obtain ⟨hz, hA⟩ := hsum hall h3
      have hAO : A = O := hA.trans hO.symm
      have hAl : A.length ≤ 2 ^ 61 := by
        have : O.length ≤ 65536 * 65536 := Nat.le_trans ol (Nat.mul_le_mul_right _ hBl)
        rw [hAO]; omega
      have c1 : decide (((B.length : Nat) : Int) < ((B.length : Nat) : Int)) = false := decide_eq_false (by omega)
      have c3 : (z == 0) = true := by simp [hz]
      obtain ⟨h2, cc, kk⟩ := a1.cast (n := O.length) (recs_len O) (by decide)
      have pr : SCalls Tryd.prog 35 [.imm A.length (A.flatMap recE), v] h1 (fun q h' => q = .bool true) := by
        have := pRecsEq A O h2 hAl
        rw [decide_eq_true hAO] at this
        exact SCalls.args (CastL.cons (Cast.refl _ _) (CastL.cons cc (CastL.refl _ _))) (this.mono fun q h' ⟨e1, _⟩ => e1)
      simp only [wpA_skip, wpA_region, wpA_seq, wpA_cond, wpA_exit, condI_false, seqQ_normal, seqQ_exit, blkQ_exit, endI_mk, goE, andThen_exit, goI_out, goI_ops, opsA_nil, opsA_cons, opsA_guardS, gvI_same, gvI_ft, slotAt_zero, slotAt_succ, stepA_move, stepA_pick, stepA_binOp, stepA_len, stepA_call, thenV_some, pickV_true, pickV_false, eval_tmp, eval_const, put_some, aBin_eql, aBin_lss, absV_int, absV_bool, aLen_imm, Nat.reduceEqDiff, List.map_cons, List.map_nil, if_true, if_false, kt_59, f7, f11, f13, f14, f17, f18, f19, c1, c2, c3]
      refine callI_of cal35 pr (fun q h' e1 => ?_)
      subst e1
      simp only [wpA_ret, seqQ_normal, endI_mk, goI_out, goI_ops, opsA_nil, opsA_cons, stepA_assign, stepA_pick, thenV_some, pickV_true, eval_tmp, eval_const, put_some, absV_bool, Nat.reduceEqDiff, if_true, if_false, retA_ret, Tryd.results13, resultsA_1]
      exact hid_mk rfl
theorem vxs_of : ∀ {es : List (List V)}, (∀ x ∈ es, ShQ.fitsQ QE (.cat (.int .i64) (.cat (.sl (.int .i64)) (.cat (.ext 3) (.cat (.int .i64) .unit)))) x) → ∃ l : List Vx, (∀ v ∈ l, OkE v.e) ∧ es = l.map encX
  | [], _ => ⟨[], by simp, rfl⟩
  | x :: es, h => by
    obtain ⟨v, hv, rfl⟩ := vx_of (h x (List.mem_cons_self ..))
    obtain ⟨l, hl, rfl⟩ := vxs_of fun y hy => h y (List.mem_cons_of_mem _ hy)
    exact ⟨v :: l, fun u hu => by
      rcases List.mem_cons.1 hu with rfl | hu
      · exact hv
      · exact hl u hu, rfl⟩
theorem wf_u8s {a : Int} (h : (Lit.int .u8 a).wf = true) : 0 ≤ a ∧ a < 256 := by
  simp only [Lit.wf, Bool.and_eq_true, decide_eq_true_eq] at h
  have h1 : IntKind.u8.min = 0 := rfl
  have h2 : IntKind.u8.max = 255 := rfl
  omega
end Go.Proofs.YtpobgoeeljknpaaDoor.Pk
