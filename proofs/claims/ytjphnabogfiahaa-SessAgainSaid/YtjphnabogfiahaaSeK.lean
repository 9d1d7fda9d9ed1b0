/-
  What functions of the program do, told of abstract states. Conditions: as each theorem says.
-/
import Derived.Test.YtjphnabogfiahaaSeH
namespace Go.Proofs.Ytjphnabogfiahaa.Pk
open Go Go.Proofs Go.Proofs.Ytjphnabogfiahaa.Ab
set_option linter.unusedVariables false
set_option linter.unusedSimpArgs false
theorem lit3cS (h : AHeap) (a b c : Chg) : aBuildSlice Try.prog 28 3 [(0, .agg (chgE a)), (1, .agg (chgE b)), (2, .agg (chgE c))] h = some (.sl h.n 0 3 3, h.push (.cells ([a, b, c].flatMap chgE) 30 none)) := by rw [buildSlice_go sl_28]; rfl
set_option maxHeartbeats 2000000 in
set_option maxRecDepth 10000 in
theorem pShown14 (h : AHeap) : Pure Try.prog 8 [] h (.bool true) := by
  refine Pure.val (Clo.bool _) ?_
  refine SCalls.enterI (c := _) Try.func8 rfl (by kernel_rfl) (by simp) ?_
  simp only [wpA_region, wpA_seq, seqQ_normal, goI_out, goI_ops, opsA_nil, opsA_cons, stepA_assign, stepA_call, eval_const, absV_int, absV_bool, List.map_cons, List.map_nil]
  refine callI_of cal9 (sesNew 9 5 (by decide) (by decide) (by decide) (by decide) h) fun r h1 ⟨e1, e2⟩ => ?_
  subst e1
  have k1 : IsSes h1 h.n .snil 9 5 [] := by rw [e2]; exact IsSes.new (by decide) (by decide)
  have kk1 : Keep h h1 none_ := by rw [e2]; exact Keep.push _ _ _
  have ne : aBin Try.prog .eql 24 (.tmp 12) (.const (.pointer none)) (.ptr h.n 0) .pnil = some (.bool false) := ptr_nil_eql kt_24
  simp only [wpA_skip, wpA_region, wpA_seq, wpA_cond, condI_false, seqQ_normal, goI_out, goI_ops, opsA_nil, opsA_cons, opsA_guardS, gvI_same, slotAt_zero, slotAt_succ, stepA_move, stepA_assign, stepA_pick, stepA_binOp, stepA_extract, stepA_call, thenV_some, pickV_false, extV_zero, extV_succ, eval_tmp, eval_const, put_some, aBin_neq, ptr_nil_eql, absV_int, absV_bool, absV_pnil, bne_self_eq_false, Nat.reduceEqDiff, reduceCtorEq, List.map_cons, List.map_nil, if_true, if_false, kt_24]
  have hn : ∀ j, (h.n : Nat) = j → h.n ≤ j := fun j hj => by omega
  refine callI_of cal11 (sesPut h1 h.n .snil 9 5 1 10 7 [] rfl (by decide) (by decide) k1) fun r h2 ⟨v2, e3, k2, kp2, n2⟩ => ?_
  subst e3
  have kk2 : Keep h h2 none_ := kk1.trans kp2 fun q hq hh => by
    rcases hh with hh | hh
    · omega
    · cases hh
  have nv2 : ∀ q, idOf v2 = some q → h.n ≤ q := fun q hq => by
    rcases n2 with n2 | n2
    · rw [n2] at hq; cases hq
    · have := n2 q hq; have := kk1.n; omega
  simp only [wpA_region, wpA_seq, seqQ_normal, goI_out, goI_ops, opsA_nil, opsA_cons, stepA_move, stepA_call, eval_tmp, eval_const, put_some, absV_int, Nat.reduceEqDiff, reduceCtorEq, List.map_cons, List.map_nil, if_true, if_false]
  have l2 : putS 5 [] 1 10 7 = [⟨1, 10, 10, 7, false⟩] := by decide
  rw [l2] at k2
  refine callI_of cal11 (sesPut h2 h.n v2 9 5 1 20 8 _ rfl (by decide) (by decide) k2) fun r h3 ⟨v3, e3, k3, kp3, n3⟩ => ?_
  subst e3
  have kk3 : Keep h h3 none_ := kk2.trans kp3 fun q hq hh => by
    rcases hh with hh | hh
    · omega
    · have := nv2 q hh; omega
  have nv3 : ∀ q, idOf v3 = some q → h.n ≤ q := fun q hq => by
    rcases n3 with n3 | n3
    · exact nv2 q (by rw [← n3]; exact hq)
    · have := n3 q hq; have := kk2.n; omega
  simp only [wpA_region, wpA_seq, seqQ_normal, goI_out, goI_ops, opsA_nil, opsA_cons, stepA_move, stepA_call, eval_tmp, eval_const, put_some, absV_int, Nat.reduceEqDiff, reduceCtorEq, List.map_cons, List.map_nil, if_true, if_false]
  have l3 : putS 5 [⟨1, 10, 10, 7, false⟩] 1 20 8 = [⟨1, 10, 10, 7, false⟩, ⟨1, 20, 20, 8, false⟩] := by decide
  rw [l3] at k3
  refine callI_of cal11 (sesPut h3 h.n v3 9 5 1 15 9 _ rfl (by decide) (by decide) k3) fun r h4 ⟨v4, e4, k4, kp4, n4⟩ => ?_
  subst e4
  have kk4 : Keep h h4 none_ := kk3.trans kp4 fun q hq hh => by
    rcases hh with hh | hh
    · omega
    · have := nv3 q hh; omega
  have l4 : putS 5 [⟨1, 10, 10, 7, false⟩, ⟨1, 20, 20, 8, false⟩] 1 15 9 = [⟨1, 10, 20, 9, false⟩] := by decide
  have c4 : putC 5 [⟨1, 10, 10, 7, false⟩, ⟨1, 20, 20, 8, false⟩] 1 15 9 = [⟨1, 10, 10, 0, true⟩, ⟨1, 20, 20, 0, true⟩, ⟨1, 10, 20, 9, false⟩] := by decide
  rw [l4] at k4
  rw [c4]
  have hlit : ∀ H, _ := fun H => lit3cS H ⟨1, 10, 10, 0, true⟩ ⟨1, 20, 20, 0, true⟩ ⟨1, 10, 20, 9, false⟩
  obtain ⟨h5, c5, k5⟩ := Cast.lit (h := h4) (c := [(⟨1, 10, 10, 0, true⟩ : Chg), ⟨1, 20, 20, 0, true⟩, ⟨1, 10, 20, 9, false⟩].flatMap chgE) (e := 30) (n := 3) (sz := 5) rfl (by decide) (by decide)
  have lit := hlit h4
  unfold chgE at lit
  simp only [wpA_region, wpA_seq, seqQ_normal, goI_out, goI_ops, opsA_nil, opsA_cons, opsA_guardS, gvI_same, slotAt_zero, slotAt_succ, stepA_move, stepA_assign, stepA_build, stepA_buildSlice, stepA_binOp, stepA_extract, stepA_call, thenV_some, thenH_some, extV_zero, extV_succ, eval_tmp, eval_const, put_some, aBin_eql, absV_int, absV_bool, cells_int, cells_bool, setAll_nil, setAll_cons, aBuild_go, aFill_nil, aFill_cons, fillGo_some, buildGo_struct, List.getElem?_cons_zero, List.getElem?_cons_succ, beq_self_eq_true, Nat.reduceEqDiff, Nat.reduceAdd, Nat.reduceLeDiff, reduceCtorEq, List.map_cons, List.map_nil, Option.map_some, Nat.zero_add, List.length_cons, List.length_nil, List.set_cons_zero, List.set_cons_succ, and_self, if_true, if_false, Nat.le_refl, pl_30, zc_30, lit]
  refine callI_of cal13 (SCalls.args (CastL.cons (Cast.refl _ _) (CastL.cons c5 (CastL.refl _ _))) (pChgsEq [(⟨1, 10, 10, 0, true⟩ : Chg), ⟨1, 20, 20, 0, true⟩, ⟨1, 10, 20, 9, false⟩] [(⟨1, 10, 10, 0, true⟩ : Chg), ⟨1, 20, 20, 0, true⟩, ⟨1, 10, 20, 9, false⟩] h5 (by decide))) fun r h6 ⟨e6, e7⟩ => ?_
  subst e6
  subst e7
  simp only [goI_ops, opsA_cons, opsA_guardS, gvI_same, slotAt_zero, slotAt_succ, stepA_move, stepA_pick, stepA_call, thenV_some, pickV_true, eval_tmp, eval_const, put_some, absV_bool, decide_true, Nat.reduceEqDiff, reduceCtorEq, List.map_cons, List.map_nil, if_true, if_false]
  refine callI_pure cal16 (sesLen _ _ v4 9 5 _ (k4.keepN k5)) ?_
  simp only [wpA_ret, seqQ_normal, endI_mk, goI_out, goI_ops, opsA_nil, opsA_cons, opsA_guardS, gvI_same, slotAt_zero, slotAt_succ, stepA_assign, stepA_pick, stepA_binOp, thenV_some, pickV_true, eval_tmp, eval_const, put_some, aBin_eql, absV_int, absV_bool, Nat.reduceEqDiff, reduceCtorEq, Nat.zero_add, List.length_cons, List.length_nil, if_true, if_false, retA_ret, Try.results8, resultsA_1]
  exact hid_mk ⟨rfl, kk4.trans' k5⟩
set_option maxRecDepth 10000 in
theorem sessNobody (key time : Int) (h : AHeap) : SCalls Try.prog 6 [.int .i64 key, .int .i64 time] h (fun r _ => r = .bool true) := by
  refine SCalls.enterI (c := _) Try.func6 rfl (by kernel_rfl) (by simp) ?_
  have c0 : (((0 : Nat) : Int) == 0) = true := rfl
  simp only [wpA_region, wpA_seq, seqQ_normal, goI_out, goI_ops, opsA_nil, opsA_cons, stepA_assign, stepA_call, eval_const, absV_bool, List.map_nil]
  refine callI_pure cal8 (pShown14 h) ?_
  simp only [wpA_region, wpA_seq, seqQ_normal, goI_out, goI_ops, opsA_nil, opsA_cons, stepA_move, stepA_assign, stepA_call, eval_tmp, eval_const, put_some, enterF_zero, enterF_succ, absV_int, absV_pnil, Nat.reduceEqDiff, reduceCtorEq, List.map_cons, List.map_nil, if_true, if_false]
  refine callI_of cal11 (sesPutNil h key time 1) fun r h1 ⟨e1, e2⟩ => ?_
  subst e1; subst e2
  simp only [wpA_region, wpA_seq, seqQ_normal, goI_out, goI_ops, opsA_nil, opsA_cons, opsA_guardS, gvI_same, slotAt_zero, slotAt_succ, stepA_move, stepA_assign, stepA_pick, stepA_build, stepA_binOp, stepA_extract, stepA_call, thenV_some, pickV_true, extV_zero, extV_succ, eval_tmp, eval_const, put_some, enterF_zero, enterF_succ, aBin_eql, absV_int, absV_bool, cells_int, setAll_nil, setAll_cons, aBuild_go, aFill_nil, aFill_cons, fillGo_some, buildGo_struct, List.getElem?_cons_zero, beq_self_eq_true, Nat.reduceEqDiff, Nat.reduceAdd, Nat.reduceLeDiff, reduceCtorEq, List.map_cons, List.map_nil, Option.map_some, Nat.zero_add, List.length_cons, List.length_nil, List.set_cons_zero, and_self, if_true, if_false, pl_30, zc_30]
  refine callI_pure cal12 (sesDoNil _ ⟨key, 0, 0, 0, false⟩ rfl) ?_
  simp only [goI_ops, opsA_cons, opsA_guardS, gvI_same, slotAt_zero, slotAt_succ, stepA_move, stepA_pick, stepA_binOp, stepA_call, thenV_some, pickV_true, eval_tmp, eval_const, put_some, enterF_zero, enterF_succ, aBin_eql, absV_int, absV_bool, beq_self_eq_true, Nat.reduceEqDiff, reduceCtorEq, List.map_cons, List.map_nil, if_true, if_false]
  refine callI_pure cal15 (sesFindNil _ key time) ?_
  simp only [goI_ops, opsA_cons, opsA_guardS, gvI_same, slotAt_zero, slotAt_succ, stepA_move, stepA_pick, stepA_binOp, stepA_len, stepA_call, thenV_some, pickV_true, eval_tmp, eval_const, put_some, enterF_succ, aBin_eql, absV_int, absV_bool, aLen_imm, Nat.reduceEqDiff, List.map_cons, List.map_nil, if_true, if_false, kt_28, c0]
  refine callI_pure cal16 (sesLenNil _) ?_
  simp only [goI_ops, opsA_cons, opsA_guardS, gvI_same, slotAt_zero, slotAt_succ, stepA_move, stepA_pick, stepA_binOp, stepA_call, thenV_some, pickV_true, eval_tmp, eval_const, put_some, enterF_succ, aBin_eql, absV_int, absV_bool, beq_self_eq_true, Nat.reduceEqDiff, List.map_cons, List.map_nil, if_true, if_false]
  refine callI_pure cal14 (sesListNil _) ?_
  simp only [goI_ops, opsA_cons, opsA_guardS, gvI_same, slotAt_zero, slotAt_succ, stepA_move, stepA_pick, stepA_binOp, stepA_len, stepA_call, thenV_some, pickV_true, eval_tmp, eval_const, put_some, enterF_zero, enterF_succ, aBin_eql, absV_int, absV_bool, aLen_imm, Nat.reduceEqDiff, List.map_cons, List.map_nil, if_true, if_false, kt_28, c0]
  refine callI_pure cal10 (sesExpireNil _ time) ?_
  simp only [wpA_ret, seqQ_normal, endI_mk, goI_out, goI_ops, opsA_nil, opsA_cons, opsA_guardS, gvI_same, slotAt_zero, slotAt_succ, stepA_assign, stepA_pick, stepA_binOp, stepA_len, thenV_some, pickV_true, eval_tmp, eval_const, put_some, enterF_succ, aBin_eql, absV_int, absV_bool, aLen_imm, Nat.reduceEqDiff, if_true, if_false, kt_28, c0, retA_ret, Try.results6, resultsA_1]
  exact hid_mk rfl
end Go.Proofs.Ytjphnabogfiahaa.Pk
