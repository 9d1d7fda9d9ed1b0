/-
  What functions of the program do, told of abstract states. Conditions: as each theorem says.
-/
import Derived.Test.YthnleejpeocaeaaDoorFlL
namespace Go.Proofs.YthnleejpeocaeaaDoor.Pk
open Go Go.Proofs Go.Proofs.YthnleejpeocaeaaDoor.Ab
set_option linter.unusedVariables false
set_option linter.unusedSimpArgs false
set_option maxHeartbeats 2000000 in
set_option maxRecDepth 10000 in
theorem flowChains (l : List Vx) (hok : ∀ v ∈ l, OkE v.e) (r : Rec) (hr : recIn r) (h : AHeap) (hg : KG h) : SCalls Tryd.prog 3 [.imm l.length (l.flatMap encX), .agg (recE r)] h (fun r h' => r = .bool true) := by
  refine SCalls.enterI (c := _) Tryd.func3 rfl (by kernel_rfl) (by simp) ?_
  have hcr : (V.agg (recE r)).cells = some (recE r) := rfl
  simp only [wpA_region, wpA_seq, seqQ_normal, goI_out, goI_ops, opsA_nil, opsA_cons, stepA_assign, stepA_box, stepA_call, thenH_some, eval_tmp, eval_const, enterF_zero, enterF_succ, absV_bool, aBox_eq, List.map_nil, Option.map_some, hcr]
  obtain ⟨H, hH⟩ : ∃ x, x = h.push (.cells (recE r) 24 none) := ⟨_, rfl⟩
  have g3 : H.get h.n = .cells (recE r) 24 none := by rw [hH]; exact get_push_new
  have kH : Keep h H none_ := by rw [hH]; exact Keep.push _ _ _
  have gH : KG H := hg.keep kH
  have r0 : dropC (AObj.cells (recE r) 24 none) 0 = some (recE r) := rfl
  have lr0 : loadGo (some (some 3)) (some (recE r)) = some (.agg (recE r)) := rfl
  rw [← hH]
  clear hH
  refine callI_pure cal4 (pShown17 H gH) ?_
  simp only [wpA_region, wpA_seq, seqQ_normal, goI_out, goI_ops, opsA_nil, opsA_cons, stepA_move, stepA_assign, stepA_call, eval_tmp, put_some, enterF_zero, enterF_succ, Nat.reduceEqDiff, reduceCtorEq, List.map_cons, List.map_nil, if_true, if_false]
  refine callI_of cal5 (pFew l hok H) (fun q h' ⟨⟨b, e1⟩, e2⟩ => ?_)
  subst e1
  subst e2
  cases b with
  | false =>
    simp only [wpA_region, wpA_seq, wpA_cond, wpA_ret, condI_true, seqQ_normal, seqQ_ret, endI_mk, goI_out, goI_ops, opsA_nil, opsA_cons, stepA_move, stepA_assign, stepA_unOp, stepA_extract, thenV_some, extV_zero, extV_succ, eval_tmp, put_some, enterF_succ, aUn_not, Nat.reduceEqDiff, if_true, if_false, Bool.not_false, retA_ret, Tryd.results3, resultsA_1]
    exact hid_mk rfl
  | true =>
  obtain ⟨m, hm⟩ : ∃ m, m = l.take 8 := ⟨_, rfl⟩
  have hmok : ∀ v ∈ m, OkE v.e := fun v hv => hok v (List.mem_of_mem_take (hm ▸ hv))
  have hml : m.length ≤ 8 := by rw [hm, List.length_take]; omega
  rw [← hm]
  simp only [wpA_skip, wpA_region, wpA_seq, wpA_cond, condI_false, seqQ_normal, goI_out, goI_ops, opsA_nil, opsA_cons, stepA_move, stepA_assign, stepA_load, stepA_unOp, stepA_extract, stepA_call, thenV_some, extV_zero, extV_succ, eval_tmp, put_some, enterF_succ, aUn_not, aLoad_eq, aPlace_ptr, Nat.reduceEqDiff, List.map_cons, List.map_nil, if_true, if_false, Bool.not_true, lt_24, g3, r0, lr0]
  refine callI_pure cal6 (pChain m hml r h' gH) ?_
  have hA := chain_len m r
  have hA2 : 4 ^ m.length ≤ 65536 := Nat.le_trans (Nat.pow_le_pow_right (by decide) hml) (by decide)
  obtain ⟨A, p, z, hF⟩ : ∃ A p z, chainX m r = (A, p, z) := ⟨_, _, _, rfl⟩
  have pr := pChainR m hml hmok r hr h'
  rw [hF] at hA pr ⊢
  simp only at hA
  simp only [wpA_region, wpA_seq, seqQ_normal, goI_out, goI_ops, opsA_nil, opsA_cons, stepA_move, stepA_assign, stepA_load, stepA_extract, stepA_call, thenV_some, extV_zero, extV_succ, eval_tmp, put_some, enterF_succ, aLoad_eq, aPlace_ptr, Nat.reduceEqDiff, List.map_cons, List.map_nil, if_true, if_false, lt_24, chV, g3, r0, lr0]
  refine callI_pure cal7 pr ?_
  have pe := pRecsEq A A h' (by omega)
  rw [decide_eq_true rfl] at pe
  simp only [wpA_region, wpA_seq, seqQ_normal, goI_out, goI_ops, opsA_nil, opsA_cons, opsA_guardS, gvI_same, slotAt_zero, slotAt_succ, stepA_move, stepA_assign, stepA_extract, stepA_call, thenV_some, extV_zero, extV_succ, eval_tmp, put_some, enterF_succ, Nat.reduceEqDiff, List.map_cons, List.map_nil, if_true, if_false, chV]
  refine callI_pure cal8 pe ?_
  have cp : (p == p) = true := by simp
  have cz : (z == z) = true := by simp
  simp only [wpA_ret, seqQ_normal, endI_mk, goI_out, goI_ops, opsA_nil, opsA_cons, opsA_guardS, gvI_same, slotAt_zero, slotAt_succ, stepA_move, stepA_assign, stepA_pick, stepA_binOp, thenV_some, pickV_true, eval_tmp, eval_const, put_some, enterF_succ, aBin_eql, absV_bool, beq_self_eq_true, Nat.reduceEqDiff, if_true, if_false, retA_ret, Tryd.results3, resultsA_1]
  exact hid_mk rfl
end Go.Proofs.YthnleejpeocaeaaDoor.Pk
