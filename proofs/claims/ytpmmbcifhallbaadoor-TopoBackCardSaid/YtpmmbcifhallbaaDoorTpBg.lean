/-
  What functions of the program do, told of abstract states. Conditions: as each theorem says.
-/
import Derived.Test.YtpmmbcifhallbaaDoorTpBx
namespace Go.Proofs.YtpmmbcifhallbaaDoor.Pk
open Go Go.Proofs Go.Proofs.YtpmmbcifhallbaaDoor.Ab
set_option linter.unusedVariables false
set_option linter.unusedSimpArgs false
theorem bytX_lt {e : Ex} (hok : OkE e) : ∀ b ∈ bytX e, b < 256 := by
  unfold bytX
  split
  · exact encB_lt _ e rfl
  · simp
theorem encV_lt {v : Vx} (hok : OkX v) : ∀ b ∈ encV v, b < 256 := fun b hb => by
  unfold encV encInts encBytes at hb
  simp only [List.mem_append, List.mem_flatMap] at hb
  rcases hb with ((hb | hb | ⟨n, _, hb⟩) | hb) | hb | hb
  · exact enc_lt _ _ (Nat.le_refl _) b hb
  · exact enc_lt _ _ (Nat.le_refl _) b hb
  · exact enc_lt _ _ (Nat.le_refl _) b hb
  · exact enc_lt _ _ (Nat.le_refl _) b hb
  · exact enc_lt _ _ (Nat.le_refl _) b hb
  · exact bytX_lt hok.1 b hb
theorem bytT_lt {p : Int} {l : List Vx} (hok : OkT l) : ∀ b ∈ bytT p l, b < 256 := fun b hb => by
  unfold bytT at hb
  split at hb
  · unfold encT at hb
    simp only [List.mem_append, List.mem_flatMap] at hb
    rcases hb with (hb | hb) | ⟨v, hv, hb⟩
    · exact enc_lt _ _ (Nat.le_refl _) b hb
    · exact enc_lt _ _ (Nat.le_refl _) b hb
    · exact encV_lt (hok.2 v hv) b hb
  · cases hb
theorem bytT_len {p : Int} {l : List Vx} (hok : OkT l) : (bytT p l).length ≤ 2 ^ 40 := by
  unfold bytT
  split
  · rename_i h0
    obtain ⟨hp, hl1, hl2, hall⟩ := chk_all h0
    have h1 := encVs_len (l := l) fun v hv => encV_len (hok.2 v hv) (hall v hv).1 (hall v hv).2.1
    have h2 := (enc_le p.toNat (by omega)).2
    have h3 := (enc_le l.length (by omega)).2
    unfold encT
    simp only [List.length_append]
    omega
  · simp
set_option maxHeartbeats 2000000 in
set_option maxRecDepth 10000 in
theorem topoBack (l : List Vx) (p : Int) (hok : OkT l) (bs : List Nat) (hb : ∀ b ∈ bs, b < 256) (hl : bs.length ≤ 2 ^ 47) (h : AHeap) (hg : TG h) :
    SCalls Tryd.prog 4 [.agg (topE l p), .imm bs.length (bytesV bs)] h (fun r h' => r = .bool true) := by
  have hcT : ∀ (l : List Vx) (p : Int), (V.agg (topE l p)).cells = some [.imm l.length (l.flatMap encX), .int .i64 p] := fun _ _ => rfl
  obtain ⟨H, hH⟩ : ∃ x, x = h.push (.cells [.imm l.length (l.flatMap encX), .int .i64 p] 24 none) := ⟨_, rfl⟩
  have gt : H.get h.n = .cells [.imm l.length (l.flatMap encX), .int .i64 p] 24 none := by rw [hH]; exact get_push_new
  have kH : Keep h H none_ := by rw [hH]; exact Keep.push _ _ _
  have nH : H.n = h.n + 1 := by rw [hH]; rfl
  have tH := hg.keep kH
  have hag : ∀ (l : List Vx) (p : Int), V.agg [.imm l.length (l.flatMap encX), .int .i64 p] = .agg (topE l p) := fun _ _ => rfl
  have stT : ∀ (l : List Vx) (p : Int), setC (some 2) (AObj.cells [V.snil, .int .i64 0] 24 none) 0 [.imm l.length (l.flatMap encX), .int .i64 p] = some (.cells [.imm l.length (l.flatMap encX), .int .i64 p] 24 none) := fun _ _ => rfl
  refine SCalls.enterI (c := _) Tryd.func4 rfl (by kernel_rfl) (by simp) ?_
  simp only [wpA_region, wpA_seq, seqQ_normal, goI_out, goI_ops, opsA_nil, opsA_cons, stepA_assign, stepA_box, stepA_call, thenH_some, eval_tmp, eval_const, enterF_zero, absV_bool, aBox_eq, List.map_nil, Option.map_some, hcT, ← hH]
  refine callI_pure cal14 (pShown5 H tH) ?_
  simp only [wpA_region, wpA_seq, seqQ_normal, goI_out, goI_ops, opsA_nil, opsA_cons, stepA_assign, stepA_load, stepA_call, thenV_some, eval_tmp, put_some, enterF_succ, aLoad_eq, loadGo_row, aPlace_ptr, dropC_cells, Nat.reduceEqDiff, Nat.reduceAdd, List.map_cons, List.map_nil, Nat.zero_add, Nat.zero_le, List.length_cons, List.length_nil, List.drop_zero, List.take_succ_cons, List.take_nil, if_true, if_false, Nat.le_refl, lt_24, gt, hag]
  refine callI_pure cal15 (pSmallT l p hok H) ?_
  by_cases hs : smF 0 l ≤ 5000
  rotate_left
  · have c : decide (smF 0 l ≤ 5000) = false := by simpa using hs
    simp only [wpA_region, wpA_seq, wpA_cond, wpA_ret, condI_true, seqQ_normal, seqQ_ret, endI_mk, goI_out, goI_ops, opsA_nil, opsA_cons, stepA_move, stepA_assign, stepA_unOp, thenV_some, eval_tmp, put_some, enterF_succ, aUn_not, Nat.reduceEqDiff, if_true, if_false, Bool.not_false, c, retA_ret, Tryd.results4, resultsA_1]
    exact hid_mk rfl
  have c : decide (smF 0 l ≤ 5000) = true := by simpa using hs
  simp only [wpA_skip, wpA_region, wpA_seq, wpA_cond, condI_false, seqQ_normal, goI_out, goI_ops, opsA_nil, opsA_cons, stepA_load, stepA_unOp, stepA_call, thenV_some, eval_tmp, put_some, enterF_succ, aUn_not, aLoad_eq, loadGo_row, aPlace_ptr, dropC_cells, Nat.reduceEqDiff, Nat.reduceAdd, List.map_cons, List.map_nil, Nat.zero_add, Nat.zero_le, List.length_cons, List.length_nil, List.drop_zero, List.take_succ_cons, List.take_nil, if_true, if_false, Bool.not_true, Nat.le_refl, lt_24, c, gt, hag]
  refine callI_pure cal21 (pTBytes l p hok H tH) ?_
  unfold bytTV
  simp only [wpA_region, wpA_seq, seqQ_normal, goI_out, goI_ops, opsA_nil, opsA_cons, stepA_move, stepA_assign, stepA_extract, stepA_call, thenV_some, extV_zero, extV_succ, eval_tmp, put_some, enterF_succ, Nat.reduceEqDiff, List.map_cons, List.map_nil, if_true, if_false]
  refine callI_pure cal22 (pTOf _ (bytT p l) H tH (Rd.imm _ _) (bytT_lt hok) (by have := bytT_len (p := p) hok; omega)) ?_
  unfold toV
  have okB := toR_ok (bytT_lt (p := p) hok)
  have hRb : (chkT p l).2 = 0 → toR (bytT p l) = ((p, l), 0) := toR_enc hok
  generalize toR (bytT p l) = R at *
  obtain ⟨⟨p2, l2⟩, c2⟩ := R
  simp only at okB
  obtain ⟨H2, hH2⟩ : ∃ x, x = H.push (.cells [.imm l2.length (l2.flatMap encX), .int .i64 p2] 24 none) := ⟨_, rfl⟩
  have k2 : Keep H H2 none_ := by rw [hH2]; exact Keep.push _ _ _
  have gt2 := (k2.get h.n (by omega) (by simp [none_])).trans gt
  have gy2 : H2.get H.n = .cells [.imm l2.length (l2.flatMap encX), .int .i64 p2] 24 none := by rw [hH2]; exact get_push_new
  have n2 : H2.n = H.n + 1 := by rw [hH2]; rfl
  have tH2 := tH.keep k2
  simp only [wpA_region, wpA_seq, seqQ_normal, goI_out, goI_ops, opsA_nil, opsA_cons, stepA_move, stepA_assign, stepA_alloc, stepA_load, stepA_store, stepA_extract, thenV_some, thenH_some, thenS_some, extV_zero, extV_succ, eval_tmp, put_some, put_none, enterF_succ, aLoad_eq, aPlace_ptr, aStore_eq, storeGo_ptr, aAlloc_eq, get_push_new, set_push, Nat.reduceEqDiff, Option.map_some, if_true, if_false, lt_24, zc_24, zt_24, hcT, stT]
  rw [← hH2]
  clear hH2
  simp only [goI_ops, opsA_cons, stepA_call, thenV_some, eval_tmp, put_some, put_none, enterF_succ, loadGo_row, dropC_cells, Nat.reduceEqDiff, Nat.reduceAdd, List.map_cons, List.map_nil, Nat.zero_add, Nat.zero_le, List.length_cons, List.length_nil, List.drop_zero, List.take_succ_cons, List.take_nil, if_true, if_false, Nat.le_refl, gt2, hag]
  refine callI_pure cal16 (pCheck l p hok H2 tH2) ?_
  have nei : ∀ x : Int, (x != x) = false := fun x => by simp
  have z0 : ((0 : Int) == 0) = true := rfl
  have z1 : ((0 : Int) != 0) = false := rfl
  -- behind the first half
  have tail : ∀ (Q : Prop), Q → Q := fun _ q => q
  by_cases h0 : (chkT p l).2 = 0
  · have hR := hRb h0
    injection hR with hR1 hc2
    injection hR1 with hp2 hl2
    subst hp2
    subst hl2
    subst hc2
    have c3 : ((chkT p2 l2).2 == 0) = true := by simpa using h0
    have c4 : ((chkT p2 l2).2 != 0) = false := by simpa using h0
    simp only [wpA_region, wpA_seq, seqQ_normal, goI_out, goI_ops, opsA_nil, opsA_cons, opsA_guardS, gvI_same, slotAt_zero, slotAt_succ, stepA_move, stepA_assign, stepA_load, stepA_binOp, stepA_extract, stepA_call, thenV_some, extV_zero, extV_succ, eval_tmp, eval_const, put_some, put_none, enterF_succ, aBin_eql, aBin_neq, absV_int, aLoad_eq, loadGo_row, aPlace_ptr, dropC_cells, bne_self_eq_false, Nat.reduceEqDiff, Nat.reduceAdd, List.map_cons, List.map_nil, Nat.zero_add, Nat.zero_le, List.length_cons, List.length_nil, List.drop_zero, List.take_succ_cons, List.take_nil, if_true, if_false, Nat.le_refl, lt_24, chkA, c3, gt2, gy2, hag]
    refine callI_pure cal23 (pSameT l2 p2 hok H2) ?_
    simp only [wpA_skip, wpA_region, wpA_seq, wpA_cond, condI_false, seqQ_normal, goI_out, goI_ops, opsA_nil, opsA_cons, opsA_guardS, gvI_same, slotAt_zero, slotAt_succ, stepA_move, stepA_pick, stepA_unOp, stepA_call, thenV_some, pickV_true, pickV_false, eval_tmp, eval_const, put_some, put_none, enterF_zero, enterF_succ, aUn_not, absV_bool, Nat.reduceEqDiff, List.map_cons, List.map_nil, if_true, if_false, Bool.not_true]
    refine callI_pure cal22 (pTOf _ bs H2 tH2 (Rd.imm _ _) hb hl) ?_
    unfold toV
    have okC := toR_ok hb
    have hRc := toR_back hb
    generalize toR bs = R2 at *
    obtain ⟨⟨p3, l3⟩, c7⟩ := R2
    simp only at okC hRc
    obtain ⟨H3, hH3⟩ : ∃ x, x = H2.push (.cells [.imm l3.length (l3.flatMap encX), .int .i64 p3] 24 none) := ⟨_, rfl⟩
    have k3 : Keep H2 H3 none_ := by rw [hH3]; exact Keep.push _ _ _
    have gz3 : H3.get H2.n = .cells [.imm l3.length (l3.flatMap encX), .int .i64 p3] 24 none := by rw [hH3]; exact get_push_new
    have tH3 := tH2.keep k3
    simp only [wpA_region, wpA_seq, seqQ_normal, goI_out, goI_ops, opsA_nil, opsA_cons, stepA_move, stepA_assign, stepA_alloc, stepA_load, stepA_store, stepA_extract, stepA_call, thenV_some, thenH_some, thenS_some, extV_zero, extV_succ, eval_tmp, put_some, put_none, enterF_succ, aLoad_eq, loadGo_row, aPlace_ptr, dropC_cells, aStore_eq, storeGo_ptr, aAlloc_eq, get_push_new, set_push, Nat.reduceEqDiff, Nat.reduceAdd, List.map_cons, List.map_nil, Option.map_some, Nat.zero_add, Nat.zero_le, List.length_cons, List.length_nil, List.drop_zero, List.take_succ_cons, List.take_nil, if_true, if_false, Nat.le_refl, lt_24, zc_24, zt_24, hcT, stT]
    rw [← hH3]
    clear hH3
    simp only [hag]
    refine callI_pure cal21 (pTBytes l3 p3 okC H3 tH3) ?_
    unfold bytTV
    by_cases h7 : c7 = 0
    · obtain ⟨q1, q2⟩ := hRc h7
      have e1 : ((strB bs).toList == (strB bs).toList) = true := by simp
      have c8 : (c7 != 0) = false := by simp [h7]
      have c9 : ((chkT p3 l3).2 == 0) = true := by simpa using q1
      rw [q2]
      simp only [wpA_region, wpA_seq, wpA_ret, seqQ_normal, endI_mk, goI_out, goI_ops, opsA_nil, opsA_cons, opsA_guardS, gvI_same, slotAt_zero, slotAt_succ, stepA_move, stepA_assign, stepA_pick, stepA_binOp, stepA_convert, stepA_extract, thenV_some, thenC_some, pickV_true, pickV_false, extV_zero, extV_succ, eval_tmp, eval_const, put_some, put_none, enterF_zero, enterF_succ, aBin_eql, aBin_neq, aBin_str_eql, absV_int, absV_bool, beq_self_eq_true, Nat.reduceEqDiff, if_true, if_false, c8, c9, convB, retA_ret, Tryd.results4, resultsA_1]
      exact hid_mk rfl
    · have c8 : (c7 != 0) = true := by simpa using h7
      simp only [wpA_region, wpA_seq, wpA_ret, seqQ_normal, endI_mk, goI_out, goI_ops, opsA_nil, opsA_cons, opsA_guardS, gvI_same, gvI_tf, gvI_u, slotAt_zero, slotAt_succ, stepA_move, stepA_assign, stepA_pick, stepA_binOp, stepA_extract, thenV_some, pickV_true, extV_zero, extV_succ, eval_tmp, eval_const, put_some, put_none, enterF_succ, aBin_neq, absV_int, absV_bool, Nat.reduceEqDiff, if_true, if_false, c8, retA_ret, Tryd.results4, resultsA_1]
      exact hid_mk rfl
  · have c3 : ((chkT p l).2 == 0) = false := by simpa using h0
    simp only [wpA_skip, wpA_region, wpA_seq, wpA_cond, condI_false, seqQ_normal, goI_out, goI_ops, opsA_nil, opsA_cons, opsA_guardS, gvI_same, gvI_ft, gvI_u, slotAt_zero, slotAt_succ, stepA_move, stepA_assign, stepA_pick, stepA_binOp, stepA_extract, stepA_call, thenV_some, pickV_false, extV_zero, extV_succ, eval_tmp, eval_const, put_some, put_none, enterF_zero, enterF_succ, aBin_eql, aBin_neq, absV_int, absV_bool, bne_self_eq_false, Nat.reduceEqDiff, List.map_cons, List.map_nil, if_true, if_false, chkA, c3]
    refine callI_pure cal22 (pTOf _ bs H2 tH2 (Rd.imm _ _) hb hl) ?_
    unfold toV
    have okC := toR_ok hb
    have hRc := toR_back hb
    generalize toR bs = R2 at *
    obtain ⟨⟨p3, l3⟩, c7⟩ := R2
    simp only at okC hRc
    obtain ⟨H3, hH3⟩ : ∃ x, x = H2.push (.cells [.imm l3.length (l3.flatMap encX), .int .i64 p3] 24 none) := ⟨_, rfl⟩
    have k3 : Keep H2 H3 none_ := by rw [hH3]; exact Keep.push _ _ _
    have gz3 : H3.get H2.n = .cells [.imm l3.length (l3.flatMap encX), .int .i64 p3] 24 none := by rw [hH3]; exact get_push_new
    have tH3 := tH2.keep k3
    simp only [wpA_region, wpA_seq, seqQ_normal, goI_out, goI_ops, opsA_nil, opsA_cons, stepA_move, stepA_assign, stepA_alloc, stepA_load, stepA_store, stepA_extract, stepA_call, thenV_some, thenH_some, thenS_some, extV_zero, extV_succ, eval_tmp, put_some, put_none, enterF_succ, aLoad_eq, loadGo_row, aPlace_ptr, dropC_cells, aStore_eq, storeGo_ptr, aAlloc_eq, get_push_new, set_push, Nat.reduceEqDiff, Nat.reduceAdd, List.map_cons, List.map_nil, Option.map_some, Nat.zero_add, Nat.zero_le, List.length_cons, List.length_nil, List.drop_zero, List.take_succ_cons, List.take_nil, if_true, if_false, Nat.le_refl, lt_24, zc_24, zt_24, hcT, stT]
    rw [← hH3]
    clear hH3
    simp only [hag]
    refine callI_pure cal21 (pTBytes l3 p3 okC H3 tH3) ?_
    unfold bytTV
    by_cases h7 : c7 = 0
    · obtain ⟨q1, q2⟩ := hRc h7
      have e1 : ((strB bs).toList == (strB bs).toList) = true := by simp
      have c8 : (c7 != 0) = false := by simp [h7]
      have c9 : ((chkT p3 l3).2 == 0) = true := by simpa using q1
      rw [q2]
      simp only [wpA_region, wpA_seq, wpA_ret, seqQ_normal, endI_mk, goI_out, goI_ops, opsA_nil, opsA_cons, opsA_guardS, gvI_same, slotAt_zero, slotAt_succ, stepA_move, stepA_assign, stepA_pick, stepA_binOp, stepA_convert, stepA_extract, thenV_some, thenC_some, pickV_true, pickV_false, extV_zero, extV_succ, eval_tmp, eval_const, put_some, put_none, enterF_zero, enterF_succ, aBin_eql, aBin_neq, aBin_str_eql, absV_int, absV_bool, beq_self_eq_true, Nat.reduceEqDiff, if_true, if_false, c8, c9, convB, retA_ret, Tryd.results4, resultsA_1]
      exact hid_mk rfl
    · have c8 : (c7 != 0) = true := by simpa using h7
      simp only [wpA_region, wpA_seq, wpA_ret, seqQ_normal, endI_mk, goI_out, goI_ops, opsA_nil, opsA_cons, opsA_guardS, gvI_same, gvI_tf, gvI_u, slotAt_zero, slotAt_succ, stepA_move, stepA_assign, stepA_pick, stepA_binOp, stepA_extract, thenV_some, pickV_true, extV_zero, extV_succ, eval_tmp, eval_const, put_some, put_none, enterF_succ, aBin_neq, absV_int, absV_bool, Nat.reduceEqDiff, if_true, if_false, c8, retA_ret, Tryd.results4, resultsA_1]
      exact hid_mk rfl
end Go.Proofs.YtpmmbcifhallbaaDoor.Pk
