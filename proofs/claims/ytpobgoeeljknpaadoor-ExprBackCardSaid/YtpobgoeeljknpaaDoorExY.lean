/-
  What functions of the program do, told of abstract states. Conditions: as each theorem says.
-/
import Derived.Test.YtpobgoeeljknpaaDoorExX
namespace Go.Proofs.YtpobgoeeljknpaaDoor.Pk
open Go Go.Proofs Go.Proofs.YtpobgoeeljknpaaDoor.Ab
set_option linter.unusedVariables false
set_option linter.unusedSimpArgs false
set_option maxHeartbeats 4000000 in
set_option maxRecDepth 10000 in
theorem exprBack (e : Ex) (hok : OkE e) (bs : List Nat) (hb : ∀ b ∈ bs, b < 256) (hl : bs.length ≤ 2 ^ 47) (h : AHeap) (hg : KG h) :
    SCalls Tryd.prog 9 [.agg (encE e), .imm bs.length (bytesV bs)] h (fun r h' => r = .bool true) := by
  refine SCalls.enterI (c := _) Tryd.func9 rfl (by kernel_rfl) (by simp) ?_
  have hc := ex_cells e
  have hdr : ∀ e, dropC (AObj.cells (encE e) 25 none) 0 = some (encE e) := fun e => by cases e; rfl
  have hld : ∀ e, loadGo (some (some 3)) (some (encE e)) = some (.agg (encE e)) := fun e => by cases e; rfl
  obtain ⟨H, hH⟩ : ∃ x, x = h.push (.cells (encE e) 25 none) := ⟨_, rfl⟩
  have g3 : H.get h.n = .cells (encE e) 25 none := by rw [hH]; exact get_push_new
  have kH : Keep h H none_ := by rw [hH]; exact Keep.push _ _ _
  have nH : H.n = h.n + 1 := by rw [hH]; rfl
  have gH : KG H := hg.keep kH
  simp only [wpA_region, wpA_seq, seqQ_normal, goI_out, goI_ops, opsA_nil, opsA_cons, stepA_assign, stepA_box, stepA_call, thenH_some, eval_tmp, eval_const, enterF_zero, absV_bool, aBox_eq, List.map_nil, Option.map_some, hc]
  rw [← hH]
  clear hH
  refine callI_pure cal15 (pShown4 H gH) ?_
  simp only [wpA_region, wpA_seq, seqQ_normal, goI_out, goI_ops, opsA_nil, opsA_cons, stepA_assign, stepA_load, stepA_call, thenV_some, eval_tmp, put_some, enterF_succ, aLoad_eq, aPlace_ptr, Nat.reduceEqDiff, List.map_cons, List.map_nil, if_true, if_false, lt_25, g3, hdr, hld]
  refine callI_pure cal19 (pSmall e H hok) ?_
  by_cases hs : IntKind.i64.wrap (szE e : Nat) ≤ 2000
  rotate_left
  · have c : decide (IntKind.i64.wrap (szE e : Nat) ≤ 2000) = false := by simpa using hs
    simp only [wpA_region, wpA_seq, wpA_cond, wpA_ret, condI_true, seqQ_normal, seqQ_ret, endI_mk, goI_out, goI_ops, opsA_nil, opsA_cons, stepA_move, stepA_assign, stepA_unOp, thenV_some, eval_tmp, put_some, enterF_succ, aUn_not, Nat.reduceEqDiff, if_true, if_false, Bool.not_false, c, retA_ret, Tryd.results9, resultsA_1]
    exact hid_mk rfl
  have c : decide (IntKind.i64.wrap (szE e : Nat) ≤ 2000) = true := by simpa using hs
  simp only [wpA_skip, wpA_region, wpA_seq, wpA_cond, condI_false, seqQ_normal, goI_out, goI_ops, opsA_nil, opsA_cons, stepA_load, stepA_unOp, stepA_call, thenV_some, eval_tmp, put_some, enterF_succ, aUn_not, aLoad_eq, aPlace_ptr, Nat.reduceEqDiff, List.map_cons, List.map_nil, if_true, if_false, Bool.not_true, lt_25, c, g3, hdr, hld]
  refine callI_pure cal26 (pBytesX e hok H gH) ?_
  have hxl : (∀ b ∈ bytX e, b < 256) ∧ (bytX e).length ≤ 2 ^ 47 := by
    unfold bytX
    cases hm : mayX e
    · exact ⟨by simp, by simp⟩
    · rw [if_pos rfl]
      have h1 := encX_len _ e rfl hok
      have h2 := mayX_sz hm
      exact ⟨encX_lt _ e rfl, by omega⟩
  unfold bytV
  simp only [wpA_region, wpA_seq, seqQ_normal, goI_out, goI_ops, opsA_nil, opsA_cons, stepA_move, stepA_assign, stepA_extract, stepA_call, thenV_some, extV_zero, extV_succ, eval_tmp, put_some, enterF_succ, Nat.reduceEqDiff, List.map_cons, List.map_nil, if_true, if_false]
  refine callI_pure cal28 (pOf _ (bytX e) H gH (Rd.imm _ _) hxl.1 hxl.2) ?_
  have cz := ex_cells (ofE (bytX e))
  have sz := ex_st (ofE (bytX e))
  unfold ofV
  obtain ⟨H2, hH2⟩ : ∃ x, x = H.push (.cells (encE (ofE (bytX e))) 25 none) := ⟨_, rfl⟩
  have g4 : H2.get H.n = .cells (encE (ofE (bytX e))) 25 none := by rw [hH2]; exact get_push_new
  have k2 : Keep H H2 none_ := by rw [hH2]; exact Keep.push _ _ _
  have g32 := (k2.get h.n (by omega) (by simp [none_])).trans g3
  have n2 : H2.n = H.n + 1 := by rw [hH2]; rfl
  have gH2 : KG H2 := gH.keep k2
  simp only [wpA_region, wpA_seq, seqQ_normal, goI_out, goI_ops, opsA_nil, opsA_cons, opsA_guardS, slotAt_zero, slotAt_succ, stepA_move, stepA_assign, stepA_alloc, stepA_store, stepA_binOp, stepA_extract, thenV_some, thenH_some, thenS_some, extV_zero, extV_succ, eval_tmp, eval_const, put_some, put_none, enterF_succ, aBin_eql, absV_int, aStore_eq, storeGo_ptr, aAlloc_eq, get_push_new, set_push, Nat.reduceEqDiff, Option.map_some, if_true, if_false, zc_25, zt_25, cz, sz]
  rw [← hH2]
  clear hH2
  have cw := ex_cells (ofE bs)
  have sw := ex_st (ofE bs)
  have gp : ∀ X, (H2.push X).get H2.n = X := fun X => get_push_new
  have gHp : ∀ X, KG (H2.push X) := fun X => gH2.keep (Keep.push H2 X none_)
  have tail : ∀ b, (b = true ∨ b = false) → True := fun _ _ => trivial
  have z0 : ((0 : Int) == 0) = true := rfl
  have z1 : ((0 : Int) != 0) = false := rfl
  have z2 : ((1 : Int) == 0) = false := rfl
  have z3 : ((1 : Int) != 0) = true := rfl
  cases hm : mayX e
  all_goals
    first
    | (have hm' : mayX e = false := hm
       have cf : (if false = true then (0 : Int) else 1) = 1 := rfl
       simp only [goI_ops, opsA_cons, opsA_guardS, gvI_same, gvI_ft, gvI_u, slotAt_zero, slotAt_succ, stepA_move, stepA_pick, stepA_load, stepA_binOp, stepA_call, thenV_some, pickV_false, eval_tmp, eval_const, put_some, put_none, enterF_succ, aBin_neq, absV_int, absV_bool, aLoad_eq, aPlace_ptr, Bool.false_eq_true, Nat.reduceEqDiff, List.map_cons, List.map_nil, if_true, if_false, lt_25, z2, z3, g32, hdr, hld]
       refine callI_pure cal20 (pMay e H2 gH2) ?_
       rw [hm']
       simp only [wpA_skip, wpA_region, wpA_seq, wpA_cond, condI_false, seqQ_normal, goI_out, goI_ops, opsA_nil, opsA_cons, opsA_guardS, gvI_same, slotAt_zero, slotAt_succ, stepA_move, stepA_pick, stepA_call, thenV_some, pickV_true, pickV_false, eval_tmp, eval_const, put_some, put_none, enterF_zero, enterF_succ, absV_bool, Nat.reduceEqDiff, List.map_cons, List.map_nil, if_true, if_false])
    | (have hm' : mayX e = true := hm
       have hbe : bytX e = encX e := by unfold bytX; rw [if_pos hm']
       have hoe : ofE (bytX e) = e := by rw [hbe]; unfold ofE; rw [ofX_enc hm' hok]
       have hoc : ofC (bytX e) = 0 := by rw [hbe]; unfold ofC; rw [ofX_enc hm' hok]
       have ct : (if true = true then (0 : Int) else 1) = 0 := rfl
       have oc0 : (((ofC (bytX e) : Nat) : Int) != 0) = false := by rw [hoc]; rfl
       rw [hoe] at g4
       simp only [goI_ops, opsA_guardS, gvI_same, slotAt_zero, slotAt_succ, stepA_move, stepA_load, stepA_binOp, stepA_call, thenV_some, eval_tmp, eval_const, put_some, put_none, enterF_succ, aBin_neq, absV_int, aLoad_eq, aPlace_ptr, beq_self_eq_true, Nat.reduceEqDiff, List.map_cons, List.map_nil, if_true, if_false, lt_25, oc0, g32, g4, hdr, hld]
       refine callI_pure cal30 (pSameE _ e _ rfl hok) ?_
       simp only [wpA_skip, wpA_region, wpA_seq, wpA_cond, condI_false, seqQ_normal, goI_out, goI_ops, opsA_nil, opsA_cons, opsA_guardS, gvI_same, gvI_ft, slotAt_zero, slotAt_succ, stepA_move, stepA_pick, stepA_binOp, stepA_unOp, stepA_call, thenV_some, pickV_true, pickV_false, eval_tmp, eval_const, put_some, put_none, enterF_zero, enterF_succ, aBin_neq, aUn_not, absV_int, absV_bool, bne_self_eq_false, Nat.reduceEqDiff, List.map_cons, List.map_nil, if_true, if_false, Bool.not_true])
    refine callI_pure cal28 (pOf _ bs H2 gH2 (Rd.imm _ _) hb hl) ?_
    unfold ofV
    simp only [wpA_region, wpA_seq, seqQ_normal, goI_out, goI_ops, opsA_nil, opsA_cons, stepA_move, stepA_assign, stepA_alloc, stepA_load, stepA_store, stepA_extract, stepA_call, thenV_some, thenH_some, thenS_some, extV_zero, extV_succ, eval_tmp, put_some, put_none, enterF_succ, aLoad_eq, aPlace_ptr, aStore_eq, storeGo_ptr, aAlloc_eq, get_push_new, set_push, Nat.reduceEqDiff, List.map_cons, List.map_nil, Option.map_some, if_true, if_false, lt_25, zc_25, zt_25, cw, sw, hdr, hld]
    refine callI_pure cal26 (pBytesX _ (ofE_ok hb) _ (gHp _)) ?_
    unfold bytV
    cases hx : ofX bs with
    | error c =>
      have hc0 := ofX_err hx
      have oc : ofC bs = c := by unfold ofC; rw [hx]
      have oc1 : (((ofC bs : Nat) : Int) != 0) = true := by rw [oc]; simp; omega
      simp only [wpA_region, wpA_seq, wpA_ret, seqQ_normal, endI_mk, goI_out, goI_ops, opsA_nil, opsA_cons, opsA_guardS, gvI_same, gvI_tf, gvI_u, slotAt_zero, slotAt_succ, stepA_move, stepA_assign, stepA_pick, stepA_binOp, stepA_extract, thenV_some, pickV_true, extV_zero, extV_succ, eval_tmp, eval_const, put_some, put_none, enterF_succ, aBin_neq, absV_int, absV_bool, Nat.reduceEqDiff, if_true, if_false, oc1, retA_ret, Tryd.results9, resultsA_1]
      exact hid_mk rfl
    | ok y =>
      obtain ⟨hy1, hy2, hy3⟩ := ofX_ok hb hx
      have oc : ofC bs = 0 := by unfold ofC; rw [hx]
      have oe : ofE bs = y := by unfold ofE; rw [hx]
      have oc1 : (((ofC bs : Nat) : Int) != 0) = false := by rw [oc]; rfl
      have may : mayX (ofE bs) = true := by rw [oe]; exact hy2
      have ct : (if mayX (ofE bs) = true then (0 : Int) else 1) = 0 := by rw [if_pos may]
      have hbb : bytX (ofE bs) = bs := by unfold bytX; rw [if_pos may, oe]; exact hy1.symm
      rw [hbb, ct]
      simp only [wpA_region, wpA_seq, seqQ_normal, goI_out, goI_ops, opsA_nil, opsA_cons, opsA_guardS, gvI_same, slotAt_zero, slotAt_succ, stepA_move, stepA_assign, stepA_load, stepA_binOp, stepA_extract, stepA_call, thenV_some, extV_zero, extV_succ, eval_tmp, eval_const, put_some, put_none, enterF_succ, aBin_eql, aBin_neq, absV_int, aLoad_eq, aPlace_ptr, get_push_new, beq_self_eq_true, Nat.reduceEqDiff, List.map_cons, List.map_nil, if_true, if_false, lt_25, oc1, hdr, hld]
      refine callI_pure cal20 (pMay _ _ (gHp _)) ?_
      rw [may]
      have e1 : ((strB bs).toList == (strB bs).toList) = true := by simp
      simp only [wpA_ret, seqQ_normal, endI_mk, goI_out, goI_ops, opsA_nil, opsA_cons, opsA_guardS, gvI_same, slotAt_zero, slotAt_succ, stepA_move, stepA_assign, stepA_pick, stepA_binOp, stepA_convert, thenV_some, thenC_some, pickV_true, pickV_false, eval_tmp, eval_const, put_some, put_none, enterF_zero, enterF_succ, aBin_str_eql, absV_bool, beq_self_eq_true, Nat.reduceEqDiff, if_true, if_false, convB, retA_ret, Tryd.results9, resultsA_1]
      exact hid_mk rfl
end Go.Proofs.YtpobgoeeljknpaaDoor.Pk
