/-
  What functions of the program do, told of abstract states. Conditions: as each theorem says.
-/
import Derived.Test.YtcdpepdjeneelaaDoorVeA
namespace Go.Proofs.YtcdpepdjeneelaaDoor.Pk
open Go Go.Proofs Go.Proofs.YtcdpepdjeneelaaDoor.Ab
set_option linter.unusedVariables false
set_option linter.unusedSimpArgs false

def flagsL (l : List Bool) : List (Bool × Int) := [(l.getD 0 false, 1), (l.getD 1 false, 2), (l.getD 2 false, 4), (l.getD 3 false, 8), (l.getD 4 false, 16), (l.getD 5 false, 32), (l.getD 6 false, 64), (l.getD 7 false, 128)]
def accF (l : List (Bool × Int)) : Int := l.foldl (fun a p => if p.1 then bOr .i64 a p.2 else a) 0
def flagC (l : List (Bool × Int)) : List V := l.flatMap fun p => [.bool p.1, .int .i64 p.2]
def useL (x : Ent) : List Bool := [decide (x.task ≠ 0), decide (x.epoch ≠ 0), decide (x.txn ≠ 0), decide (x.log ≠ 0), decide (x.r ≠ zR), x.del, decide (0 < x.offs.length), decide (0 < x.order.length)]
def usesN : List Int := [0, 24, 63, 199, 7, 3, 0]
def usesC : List V := usesN.map (.int .i64)
def KU (h : AHeap) : Prop := h.glob 0 = some usesC
theorem rcd_neq (k v t : Int) {xo yo : Operand} : aBin Tryd.prog .neq 45 xo yo (.agg [.int .i64 k, .int .i64 v, .int .i64 t]) (.agg [.int .i64 0, .int .i64 0, .int .i64 0]) = some (.bool (decide ((⟨k, v, t⟩ : Rcd) ≠ zR))) := by
  have h : eqK [0, 0, 0] [.int .i64 k, .int .i64 v, .int .i64 t] [.int .i64 0, .int .i64 0, .int .i64 0] = some (decide ((⟨k, v, t⟩ : Rcd) = zR)) := by
    simp only [eqK, if_true, Option.map_some, Option.some.injEq]
    rw [Bool.eq_iff_iff]
    simp [zR]
  rw [aBin_sk_neq sk_45 h]
  simp

set_option maxHeartbeats 1000000 in
set_option maxRecDepth 10000 in
theorem pFields (x : Ent) (h : AHeap) : Pure Tryd.prog 49 [.agg (entE x)] h (.int .i64 (accF (flagsL (useL x)))) := by
  refine Pure.val (Clo.int _ _) ?_
  refine SCalls.enterI (c := _) Tryd.func49 rfl (by kernel_rfl) (by simp) ?_
  have hc : (V.agg (entE x)).cells = some (entE x) := rfl
  simp only [wpA_region, wpA_seq, wpA_draw, seqQ_normal, goI_out, goI_ops, opsA_nil, opsA_cons, stepA_assign, stepA_box, thenH_some, eval_tmp, eval_const, enterF_zero, absV_int, aBox_eq, Option.map_some, hc]
  obtain ⟨H, hH⟩ : ∃ y, y = h.push (.cells (entE x) 47 none) := ⟨_, rfl⟩
  have hg : H.get h.n = .cells (entE x) 47 none := by rw [hH]; exact get_push_new
  have kH : Keep h H none_ := by rw [hH]; exact Keep.push _ _ _
  rw [← hH]
  refine SWp.drawnS none_ [] (.q 0 (.q 1 (.q 2 (.q 3 (.q 4 (.q 5 (.q 6 (.q 7 (.q 8 (.q 9 (.q 10 (.q 11 (.q 12 (.q 13 (.q 14 (.q 15 (.q 16 (.q 17 (.q 18 (.q 19 (.q 20 (.q 21 (.q 22 (.q 23 (.q 24 (.q 25 (.q 26 (.q 27 (.q 28 (.q 29 (.q 30 (.q 31 (.q 32 (.q 33 (.q 34 (.q 35 .done)))))))))))))))))))))))))))))))))))) (by kernel_rfl) (by kernel_rfl) (by kernel_rfl) ?_
  have e1 : ∀ a : Int, (a != 0) = decide (a ≠ 0) := fun a => by rw [Bool.eq_iff_iff]; simp
  have e2 : ∀ l : List Int, decide ((0 : Int) < ((l.length : Nat) : Int)) = decide (0 < l.length) := fun l => by rw [Bool.eq_iff_iff]; simp
  simp only [siI_done, siI_q, sqI_some, mOk_none', implies_true, qI_nil, qI_cons, thenQ_some, q_move, q_load, q_build, q_binOp, q_fieldAddr, q_len, wpA_block, wpA_loop, seqQ_normal, goI_out, goI_mk, eval_tmp, eval_const, put_some, enterF_succ, aBin_neq, aBin_gtr, absV_int, cells_int, cells_bool, cells_agg, aField_eq, fieldGo_ptr, aLoad_eq, loadGo_one, loadGo_row, aPlace_ptr, dropC_cells, setAll_nil, setAll_cons, aLen_imm, aBuild_go, aFill_nil, aFill_cons, fillGo_some, buildGo_struct, buildGo_array, List.getElem?_cons_zero, List.getElem?_cons_succ, Nat.reduceEqDiff, Nat.reduceAdd, Nat.reduceLeDiff, Nat.reduceMul, List.map_cons, List.map_nil, Option.map_some, Nat.zero_add, List.length_cons, List.length_nil, List.drop_zero, List.drop_succ_cons, List.take_succ_cons, List.take_zero, List.set_cons_zero, List.set_cons_succ, true_and, and_self, if_true, if_false, Nat.le_refl, ft_47_1, ft_47_2, ft_47_3, ft_47_4, ft_47_5, ft_47_6, ft_47_7, ft_47_8, kt_39, lt_3, lt_39, lt_4, lt_45, pl_106, pl_107, pl_45, zc_106, zc_107, zc_45, hg, entE, rcd_neq, e1, e2]
  refine SWp.loopG (α := Nat) (fun i f h' => Keep H h' none_ ∧ f 40 = .agg (flagC (flagsL (useL x))) ∧ f 41 = .int .i64 (i : Nat) ∧ f 3 = .int .i64 (accF ((flagsL (useL x)).take i)) ∧ i ≤ 8) (fun i => 8 - i) 0
    ⟨Keep.refl _ _, rfl, rfl, rfl, Nat.zero_le _⟩ ?_
  rintro i f h' ⟨hk, f40, f41, f3, hi⟩
  refine wpI_sound (by kernel_rfl) ?_
  generalize hF : flagsL (useL x) = F at f40 f3 ⊢
  have hlen : F.length = 8 := by rw [← hF]; rfl
  by_cases hlast : i < 8
  · have d1 : decide ((i : Int) < 8) = true := by simp; omega
    have hl2 : i < F.length := by omega
    have hw := inc64 hlast (by omega)
    have hix : aIndex Tryd.prog 107 (.agg (flagC F)) (.int .i64 (i : Int)) = some (.agg [.bool F[i].1, .int .i64 F[i].2]) := by
      rw [aIndex_arr ax_flags]
      simp only [ixA, Int.toNat_natCast, if_true]
      rw [if_pos ⟨by omega, by omega⟩, flagC, rows_drop (sz := 2) (fun _ => rfl), List.drop_eq_getElem_cons hl2]
      rfl
    have hs : accF (F.take (i + 1)) = if F[i].1 then bOr .i64 (accF (F.take i)) F[i].2 else accF (F.take i) := by
      rw [List.take_succ_eq_append_getElem hl2, accF, List.foldl_append]
      rfl
    generalize F[i] = p at hix hs
    obtain ⟨b, n⟩ := p
    cases b
    · simp only [wpA_skip, wpA_region, wpA_seq, wpA_cond, wpA_block, condI_true, condI_false, seqQ_normal, blkQ_normal, endI_mk, andThen_normal, goI_out, goI_ops, opsA_nil, opsA_cons, stepA_move, stepA_alloc, stepA_load, stepA_store, stepA_binOp, stepA_fieldAddr, stepA_index, thenV_some, thenH_some, thenS_some, eval_tmp, eval_const, put_some, put_none, aBin_add, aBin_lss, absV_int, cells_agg, one_int, one_bool, all_nil, all_cons, aField_eq, fieldGo_ptr, aLoad_eq, loadGo_one, aPlace_ptr, dropC_cells, aStore_eq, storeGo_ptr, setC_row, setAll_nil, setAll_cons, aAlloc_eq, get_push_new, set_push, Nat.reduceEqDiff, Nat.reduceAdd, Option.map_some, Nat.add_zero, Nat.zero_add, Nat.zero_le, List.length_cons, List.length_nil, List.drop_zero, List.set_cons_zero, List.set_cons_succ, if_true, if_false, Bool.and_self, Nat.le_refl, ft_106_0, lt_4, zc_106, zt_106, f40, f41, d1, hix, hw]
      refine hid_mk ⟨i + 1, ⟨hk.then_push _, f40, rfl, ?_, hlast⟩, by omega⟩
      rw [hs]
      exact f3
    · simp only [wpA_skip, wpA_region, wpA_seq, wpA_cond, wpA_block, condI_true, seqQ_normal, blkQ_normal, endI_mk, andThen_normal, goI_out, goI_ops, opsA_nil, opsA_cons, stepA_move, stepA_assign, stepA_alloc, stepA_load, stepA_store, stepA_binOp, stepA_fieldAddr, stepA_index, thenV_some, thenH_some, thenS_some, eval_tmp, eval_const, put_some, put_none, aBin_add, aBin_lss, aBin_or, absV_int, cells_agg, one_int, one_bool, all_nil, all_cons, aField_eq, fieldGo_ptr, aLoad_eq, loadGo_one, aPlace_ptr, dropC_cells, aStore_eq, storeGo_ptr, setC_row, setAll_nil, setAll_cons, aAlloc_eq, get_push_new, set_push, Nat.reduceEqDiff, Nat.reduceAdd, Nat.reduceLeDiff, Option.map_some, Nat.add_zero, Nat.zero_add, Nat.zero_le, List.length_cons, List.length_nil, List.drop_zero, List.drop_succ_cons, List.set_cons_zero, List.set_cons_succ, if_true, if_false, Bool.and_self, Nat.le_refl, ft_106_0, ft_106_1, lt_3, lt_4, zc_106, zt_106, f40, f41, f3, d1, hix, hw]
      refine hid_mk ⟨i + 1, ⟨hk.then_push _, f40, rfl, ?_, hlast⟩, by omega⟩
      rw [hs]
      rfl
  · have d1 : decide ((i : Int) < 8) = false := by simp; omega
    simp only [wpA_region, wpA_seq, wpA_cond, wpA_exit, wpA_ret, condI_false, seqQ_normal, seqQ_exit, blkQ_exit, endI_mk, goE, andThen_exit, goI_out, goI_ops, opsA_nil, opsA_cons, stepA_move, stepA_assign, stepA_binOp, thenV_some, eval_tmp, eval_const, put_some, aBin_lss, absV_int, Nat.reduceEqDiff, if_true, if_false, f41, f3, d1, retA_ret, Tryd.results49, resultsA_1]
    refine hid_mk ⟨?_, kH.trans' hk⟩
    rw [List.take_of_length_le (by omega)]
def usesK : Nat → List Bool → Bool := fun k l =>
  (decide (2 ≤ k ∧ k ≤ 5) || (!l.getD 0 false && !l.getD 1 false)) && (decide (2 ≤ k ∧ k ≤ 4) || !l.getD 2 false) && (decide (k ≤ 2) || (!l.getD 3 false && !l.getD 4 false)) &&
    (decide (k = 2) || !l.getD 5 false) && (decide (k = 3) || (!l.getD 6 false && !l.getD 7 false))
theorem uses_all : ∀ k ∈ [1, 2, 3, 4, 5, 6], ∀ a b c d e f g i : Bool, (bAndNot .i64 (accF (flagsL [a, b, c, d, e, f, g, i])) (usesN.getD k 0) == 0) = usesK k [a, b, c, d, e, f, g, i] := by
  decide +kernel
theorem uses_eq (x : Ent) {k : Nat} (hk : x.kind = (k : Int)) (h1 : 1 ≤ k) (h6 : k ≤ 6) : (bAndNot .i64 (accF (flagsL (useL x))) (usesN.getD k 0) == 0) = useB x := by
  rw [useL, uses_all k (by simp; omega)]
  have n1 : ∀ a : Int, (!decide (a ≠ 0)) = (a == 0) := fun a => by rw [Bool.eq_iff_iff]; simp
  have n2 : ∀ l : List Int, (!decide (0 < l.length)) = (l.length == 0) := fun l => by rw [Bool.eq_iff_iff]; simp
  have n3 : (!decide (x.r ≠ zR)) = decide (x.r = zR) := by rw [Bool.eq_iff_iff]; simp
  have m1 : decide (2 ≤ (k : Int) ∧ (k : Int) ≤ 5) = decide (2 ≤ k ∧ k ≤ 5) := decide_eq_decide.2 (by omega)
  have m2 : decide (2 ≤ (k : Int) ∧ (k : Int) ≤ 4) = decide (2 ≤ k ∧ k ≤ 4) := decide_eq_decide.2 (by omega)
  have m3 : decide ((k : Int) ≤ 2) = decide (k ≤ 2) := decide_eq_decide.2 (by omega)
  have m4 : decide ((k : Int) = 2) = decide (k = 2) := decide_eq_decide.2 (by omega)
  have m5 : decide ((k : Int) = 3) = decide (k = 3) := decide_eq_decide.2 (by omega)
  unfold usesK useB
  rw [hk, m1, m2, m3, m4, m5]
  simp only [List.getD_cons_zero, List.getD_cons_succ, n1, n2, n3]
end Go.Proofs.YtcdpepdjeneelaaDoor.Pk
