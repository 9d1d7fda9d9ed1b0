/-
  What functions of the program do, told of abstract states. Conditions: as each theorem says.
-/
import Derived.Test.YtpjfhfmbhjghcaaGreatDoorTyE
namespace Go.Proofs.YtpjfhfmbhjghcaaGreatDoor.Pk
open Go Go.Proofs Go.Proofs.YtpjfhfmbhjghcaaGreatDoor.Ab
set_option linter.unusedVariables false
set_option linter.unusedSimpArgs false

/-! ### Expressions -/
inductive Ex where
  | mk (op n : Int) (ks : List Ex)
def Ex.op : Ex → Int | .mk o _ _ => o
def Ex.num : Ex → Int | .mk _ n _ => n
def Ex.ks : Ex → List Ex | .mk _ _ l => l
mutual
def encE : Ex → List V
  | .mk o n l => [.int .i64 o, .int .i64 n, .imm l.length (encL l)]
def encL : List Ex → List V
  | [] => []
  | k :: r => encE k ++ encL r
end
theorem encL_eq : ∀ l : List Ex, encL l = l.flatMap encE
  | [] => by simp [encL]
  | k :: r => by rw [encL, encL_eq r]; simp
theorem encE_len (e : Ex) : (encE e).length = 3 := by cases e; rfl
theorem encE_one (e : Ex) : (encE e).all (·.one) = true := by cases e; rfl
theorem encE_eq (o n : Int) (l : List Ex) : encE (.mk o n l) = [.int .i64 o, .int .i64 n, .imm l.length (l.flatMap encE)] := by rw [encE, encL_eq]
mutual
theorem encE_clo : (e : Ex) → CloL (encE e)
  | .mk o n l => CloL.cons (Clo.int _ _) (CloL.cons (Clo.int _ _) (CloL.cons (Clo.imm (encL_clo l)) CloL.nil))
theorem encL_clo : (l : List Ex) → CloL (encL l)
  | [] => by rw [encL]; exact CloL.nil
  | k :: r => by rw [encL]; exact (encE_clo k).append (encL_clo r)
end

/-- How many kids each operation has. -/
def kidsN : List Int := [0, 0, 0, 0, 0, 0, 2, 2, 2, 2, 2, 2, 2, 3, 1, 2, 2]
def kidsC : List V := kidsN.map (.int .i64)
/-- The memory knows the table. -/
def KG (h : AHeap) : Prop := h.glob 0 = some kidsC

def fitsX : Ex → Bool
  | .mk o n l => decide (1 ≤ o ∧ o ≤ 16) && (decide ((l.length : Int) = kidsN.getD o.toNat 0) && (decide (n = 0) || decide (o = 1)))

set_option maxRecDepth 10000 in
theorem pFits (e : Ex) (h : AHeap) (hg : KG h) : Pure Tryz.prog 138 [.agg (encE e)] h (.bool (fitsX e)) := by
  refine Pure.val (Clo.bool _) ?_
  obtain ⟨o, n, l⟩ := e
  refine SCalls.enterI (c := _) Tryz.func138 rfl (by kernel_rfl) (by simp) ?_
  have hc : (V.agg (encE (.mk o n l))).cells = some [.int .i64 o, .int .i64 n, .imm l.length (l.flatMap encE)] := by rw [encE_eq]; rfl
  by_cases h1 : o < 1
  · have hG : fitsX (.mk o n l) = false := by simp [fitsX]; omega
    simp only [wpA_region, wpA_seq, wpA_cond, wpA_ret, condI_true, seqQ_normal, seqQ_ret, endI_mk, goI_out, goI_ops, opsA_nil, opsA_cons, opsA_guardS, gvI_tf, slotAt_zero, slotAt_succ, stepA_move, stepA_assign, stepA_pick, stepA_box, stepA_load, stepA_binOp, stepA_fieldAddr, thenV_some, thenH_some, pickV_true, eval_tmp, eval_const, put_some, enterF_zero, enterF_succ, aBin_lss, absV_int, absV_bool, aField_eq, fieldGo_ptr, aLoad_eq, loadGo_one, aPlace_ptr, dropC_cells, aBox_eq, get_push_new, decide_true, Nat.reduceEqDiff, Nat.reduceAdd, Option.map_some, Nat.add_zero, Nat.zero_add, Nat.zero_le, List.length_cons, List.length_nil, List.drop_zero, if_true, if_false, ft_27_0, lt_3, hc, h1, retA_ret, Tryz.results138, resultsA_1]
    exact hid_mk ⟨by rw [hG], Keep.push _ _ _⟩
  by_cases h2 : 16 < o
  · have hG : fitsX (.mk o n l) = false := by simp [fitsX]; omega
    simp only [wpA_region, wpA_seq, wpA_cond, wpA_ret, condI_true, seqQ_normal, seqQ_ret, endI_mk, goI_out, goI_ops, opsA_nil, opsA_cons, opsA_guardS, gvI_same, slotAt_zero, slotAt_succ, stepA_move, stepA_assign, stepA_pick, stepA_box, stepA_load, stepA_binOp, stepA_fieldAddr, thenV_some, thenH_some, pickV_false, eval_tmp, eval_const, put_some, enterF_zero, enterF_succ, aBin_lss, aBin_gtr, absV_int, absV_bool, aField_eq, fieldGo_ptr, aLoad_eq, loadGo_one, aPlace_ptr, dropC_cells, aBox_eq, get_push_new, decide_true, decide_false, Nat.reduceEqDiff, Nat.reduceAdd, Option.map_some, Nat.add_zero, Nat.zero_add, Nat.zero_le, List.length_cons, List.length_nil, List.drop_zero, if_true, if_false, ft_27_0, lt_3, hc, h1, h2, retA_ret, Tryz.results138, resultsA_1]
    exact hid_mk ⟨by rw [hG], Keep.push _ _ _⟩
  simp only [wpA_skip, wpA_region, wpA_seq, wpA_cond, wpA_draw, condI_false, seqQ_normal, goI_out, goI_ops, opsA_nil, opsA_cons, opsA_guardS, gvI_same, slotAt_zero, slotAt_succ, stepA_move, stepA_assign, stepA_pick, stepA_box, stepA_load, stepA_binOp, stepA_fieldAddr, thenV_some, thenH_some, pickV_false, eval_tmp, eval_const, put_some, enterF_zero, enterF_succ, aBin_lss, aBin_gtr, absV_int, absV_bool, aField_eq, fieldGo_ptr, aLoad_eq, loadGo_one, aPlace_ptr, dropC_cells, aBox_eq, get_push_new, decide_false, Nat.reduceEqDiff, Nat.reduceAdd, Option.map_some, Nat.add_zero, Nat.zero_add, Nat.zero_le, List.length_cons, List.length_nil, List.drop_zero, if_true, if_false, ft_27_0, lt_3, hc, h1, h2]
  refine SWp.drawnS none_ [] (.q 0 (.q 1 (.q 2 (.q 3 (.q 4 (.q 5 (.q 6 (.q 7 (.q 8 (.q 9 (.q 10 (.q 11 (.q 12 (.q 13 (.q 14 (.q 15 (.q 16 (.q 17 (.q 18 .done))))))))))))))))))) (by kernel_rfl) (by kernel_rfl) (by kernel_rfl) ?_
  have hgl : ∀ (f : AFrame) (a : AObj), AFrame.eval f (h.push a) (.global 0) = .at kidsC := fun f a => eval_glob (by rw [push_glob]; exact hg)
  obtain ⟨k, hk, hk16⟩ : ∃ k : Nat, o = (k : Int) ∧ k < 17 := ⟨o.toNat, by omega, by omega⟩
  subst hk
  have hdr : ∀ m, dropC (AObj.cells [.int .i64 (k : Int), .int .i64 n, .imm l.length (l.flatMap encE)] 27 none) m = if m ≤ 3 then some ([V.int .i64 (k : Int), .int .i64 n, .imm l.length (l.flatMap encE)].drop m) else none := fun m => rfl
  have hix : (if (0 : Int) ≤ (k : Int) ∧ (k : Int) < ((17 : Nat) : Int) ∧ ((k : Int).toNat * 1) ≤ kidsC.length then some (V.at (kidsC.drop ((k : Int).toNat * 1))) else none) = some (.at (.int .i64 (kidsN.getD k 0) :: kidsC.drop (k + 1))) := by
    rw [if_pos ⟨by omega, by omega, by simp [kidsC, kidsN]; omega⟩]
    have : kidsC.drop ((k : Int).toNat * 1) = .int .i64 (kidsN.getD k 0) :: kidsC.drop (k + 1) := by
      rw [Int.toNat_natCast, Nat.mul_one, List.drop_eq_getElem_cons (by simp [kidsC, kidsN]; omega)]
      simp [kidsC, List.getD, List.getElem?_eq_getElem (show k < kidsN.length by simp [kidsN]; omega)]
    rw [this]
  by_cases h3 : ((l.length : Nat) : Int) = kidsN.getD k 0
  · have c3 : (((l.length : Nat) : Int) == kidsN.getD k 0) = true := by simpa using h3
    by_cases h4 : n = 0
    · have c4 : (n == 0) = true := by simpa using h4
      have hG : fitsX (.mk (k : Int) n l) = true := by simp [fitsX, h3, h4]; omega
      simp only [siI_done, siI_q, sqI_some, mOk_none', implies_true, qI_nil, qI_cons, qI_guard, qgI_same, qgI_tf, thenQ_some, q_move, q_assign, q_pick, q_load, q_binOp, q_fieldAddr, q_indexAddr, q_len, wpA_ret, seqQ_normal, endI_mk, goI_out, goI_mk, slotAt_zero, slotAt_succ, pickV_true, eval_tmp, eval_const, put_some, enterF_succ, aBin_eql, absV_int, absV_bool, aField_eq, fieldGo_ptr, aLoad_eq, loadGo_one, aPlace_ptr, aPlace_at, aIndexAddr_eq, ixGo_at, aLen_imm, get_push_new, List.getElem?_cons_zero, List.getElem?_cons_succ, Nat.reduceEqDiff, Nat.reduceLeDiff, Nat.add_zero, Nat.zero_add, Nat.zero_le, List.drop_zero, List.drop_succ_cons, true_and, if_true, if_false, as_209, ft_27_0, ft_27_1, ft_27_2, kt_25, lt_2, lt_25, lt_3, ss_209, hdr, hgl, hix, c3, c4, retA_ret, Tryz.results138, resultsA_1]
      exact hid_mk ⟨by rw [hG], Keep.push _ _ _⟩
    · have c4 : (n == 0) = false := by simpa using h4
      have hG : fitsX (.mk (k : Int) n l) = ((k : Int) == 1) := by rw [Bool.eq_iff_iff]; simp [fitsX, h3, h4]; omega
      simp only [siI_done, siI_q, sqI_some, mOk_none', implies_true, qI_nil, qI_cons, qI_guard, qgI_same, thenQ_some, q_move, q_assign, q_pick, q_load, q_binOp, q_fieldAddr, q_indexAddr, q_len, wpA_ret, seqQ_normal, endI_mk, goI_out, goI_mk, slotAt_zero, slotAt_succ, pickV_true, pickV_false, eval_tmp, eval_const, put_some, enterF_succ, aBin_eql, absV_int, absV_bool, aField_eq, fieldGo_ptr, aLoad_eq, loadGo_one, aPlace_ptr, aPlace_at, aIndexAddr_eq, ixGo_at, aLen_imm, get_push_new, List.getElem?_cons_zero, List.getElem?_cons_succ, Nat.reduceEqDiff, Nat.reduceLeDiff, Nat.add_zero, Nat.zero_add, Nat.zero_le, List.drop_zero, List.drop_succ_cons, true_and, if_true, if_false, as_209, ft_27_0, ft_27_1, ft_27_2, kt_25, lt_2, lt_25, lt_3, ss_209, hdr, hgl, hix, c3, c4, retA_ret, Tryz.results138, resultsA_1]
      exact hid_mk ⟨by rw [hG], Keep.push _ _ _⟩
  · have c3 : (((l.length : Nat) : Int) == kidsN.getD k 0) = false := by simpa using h3
    have hG : fitsX (.mk (k : Int) n l) = false := by simp [fitsX] at h3 ⊢; omega
    simp only [siI_done, siI_q, sqI_some, mOk_none', implies_true, qI_nil, qI_cons, qI_guard, qgI_ft, qgI_u, thenQ_some, q_move, q_assign, q_pick, q_load, q_binOp, q_fieldAddr, q_indexAddr, q_len, wpA_ret, seqQ_normal, endI_mk, goI_out, goI_mk, slotAt_zero, slotAt_succ, pickV_false, eval_tmp, eval_const, put_some, enterF_succ, aBin_eql, absV_bool, aField_eq, fieldGo_ptr, aLoad_eq, loadGo_one, aPlace_ptr, aPlace_at, aIndexAddr_eq, ixGo_at, aLen_imm, get_push_new, List.getElem?_cons_zero, List.getElem?_cons_succ, Nat.reduceEqDiff, Nat.reduceLeDiff, Nat.add_zero, Nat.zero_add, Nat.zero_le, List.drop_zero, List.drop_succ_cons, true_and, if_true, if_false, as_209, ft_27_0, ft_27_2, kt_25, lt_25, lt_3, ss_209, hdr, hgl, hix, c3, retA_ret, Tryz.results138, resultsA_1]
    exact hid_mk ⟨by rw [hG], Keep.push _ _ _⟩
end Go.Proofs.YtpjfhfmbhjghcaaGreatDoor.Pk
