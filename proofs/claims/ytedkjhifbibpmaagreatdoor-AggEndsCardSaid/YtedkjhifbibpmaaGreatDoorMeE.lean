/-
  What functions of the program do, told of abstract states. Conditions: as each theorem says.
-/
import Derived.Test.YtedkjhifbibpmaaGreatDoorTyE
namespace Go.Proofs.YtedkjhifbibpmaaGreatDoor.Pk
open Go Go.Proofs Go.Proofs.YtedkjhifbibpmaaGreatDoor.Ab
set_option linter.unusedVariables false
set_option linter.unusedSimpArgs false

/-! ### Expressions -/
inductive Ex where
  | mk (op n : Int) (ks : List Ex)
def Ex.op : Ex → Int | .mk o _ _ => o
def Ex.ks : Ex → List Ex | .mk _ _ l => l
mutual
def encE : Ex → List V
  | .mk o n l => [.int .i64 o, .int .i64 n, .imm l.length (encL l)]
def encL : List Ex → List V
  | [] => []
  | k :: r => encE k ++ encL r
end
theorem encL_eq : ∀ l : List Ex, encL l = l.flatMap encE
  | [] => by simp [encL]
  | k :: r => by rw [encL, encL_eq r]; simp
theorem encE_len (e : Ex) : (encE e).length = 3 := by cases e; rfl
theorem encE_one (e : Ex) : (encE e).all (·.one) = true := by cases e; rfl
theorem encE_eq (o n : Int) (l : List Ex) : encE (.mk o n l) = [.int .i64 o, .int .i64 n, .imm l.length (l.flatMap encE)] := by rw [encE, encL_eq]
mutual
theorem encE_clo : (e : Ex) → CloL (encE e)
  | .mk o n l => CloL.cons (Clo.int _ _) (CloL.cons (Clo.int _ _) (CloL.cons (Clo.imm (encL_clo l)) CloL.nil))
theorem encL_clo : (l : List Ex) → CloL (encL l)
  | [] => by rw [encL]; exact CloL.nil
  | k :: r => by rw [encL]; exact (encE_clo k).append (encL_clo r)
end

/-- How many kids each operation has. -/
def kidsN : List Int := [0, 0, 0, 0, 0, 0, 2, 2, 2, 2, 2, 2, 2, 3, 1, 2, 2]
def kidsC : List V := kidsN.map (.int .i64)
/-- The memory knows the table. -/
def KG (h : AHeap) : Prop := h.glob 1 = some kidsC

def fitsX : Ex → Bool
  | .mk o n l => decide (1 ≤ o ∧ o ≤ 16) && (decide ((l.length : Int) = kidsN.getD o.toNat 0) && (decide (n = 0) || decide (o = 1)))

set_option maxRecDepth 10000 in
theorem pFits (e : Ex) (h : AHeap) (hg : KG h) : Pure Tryz.prog 198 [.agg (encE e)] h (.bool (fitsX e)) := by
  refine Pure.val (Clo.bool _) ?_
  obtain ⟨o, n, l⟩ := e
  refine SCalls.enterI (c := _) Tryz.func198 rfl (by kernel_rfl) (by simp) ?_
  have hc : (V.agg (encE (.mk o n l))).cells = some [.int .i64 o, .int .i64 n, .imm l.length (l.flatMap encE)] := by rw [encE_eq]; rfl
  by_cases h1 : o < 1
  · have hG : fitsX (.mk o n l) = false := by simp [fitsX]; omega
    simp only [wpA_region, wpA_seq, wpA_cond, wpA_ret, condI_true, seqQ_normal, seqQ_ret, endI_mk, goI_out, goI_ops, opsA_nil, opsA_cons, opsA_guardS, gvI_tf, slotAt_zero, slotAt_succ, stepA_move, stepA_assign, stepA_pick, stepA_box, stepA_load, stepA_binOp, stepA_fieldAddr, thenV_some, thenH_some, pickV_true, eval_tmp, eval_const, put_some, enterF_zero, enterF_succ, aBin_lss, absV_int, absV_bool, aField_eq, fieldGo_ptr, aLoad_eq, loadGo_one, aPlace_ptr, dropC_cells, aBox_eq, get_push_new, decide_true, Nat.reduceEqDiff, Nat.reduceAdd, Option.map_some, Nat.add_zero, Nat.zero_add, Nat.zero_le, List.length_cons, List.length_nil, List.drop_zero, if_true, if_false, ft_27_0, lt_3, hc, h1, retA_ret, Tryz.results198, resultsA_1]
    exact hid_mk ⟨by rw [hG], Keep.push _ _ _⟩
  by_cases h2 : 16 < o
  · have hG : fitsX (.mk o n l) = false := by simp [fitsX]; omega
    simp only [wpA_region, wpA_seq, wpA_cond, wpA_ret, condI_true, seqQ_normal, seqQ_ret, endI_mk, goI_out, goI_ops, opsA_nil, opsA_cons, opsA_guardS, gvI_same, slotAt_zero, slotAt_succ, stepA_move, stepA_assign, stepA_pick, stepA_box, stepA_load, stepA_binOp, stepA_fieldAddr, thenV_some, thenH_some, pickV_false, eval_tmp, eval_const, put_some, enterF_zero, enterF_succ, aBin_lss, aBin_gtr, absV_int, absV_bool, aField_eq, fieldGo_ptr, aLoad_eq, loadGo_one, aPlace_ptr, dropC_cells, aBox_eq, get_push_new, decide_true, decide_false, Nat.reduceEqDiff, Nat.reduceAdd, Option.map_some, Nat.add_zero, Nat.zero_add, Nat.zero_le, List.length_cons, List.length_nil, List.drop_zero, if_true, if_false, ft_27_0, lt_3, hc, h1, h2, retA_ret, Tryz.results198, resultsA_1]
    exact hid_mk ⟨by rw [hG], Keep.push _ _ _⟩
  simp only [wpA_skip, wpA_region, wpA_seq, wpA_cond, wpA_draw, condI_false, seqQ_normal, goI_out, goI_ops, opsA_nil, opsA_cons, opsA_guardS, gvI_same, slotAt_zero, slotAt_succ, stepA_move, stepA_assign, stepA_pick, stepA_box, stepA_load, stepA_binOp, stepA_fieldAddr, thenV_some, thenH_some, pickV_false, eval_tmp, eval_const, put_some, enterF_zero, enterF_succ, aBin_lss, aBin_gtr, absV_int, absV_bool, aField_eq, fieldGo_ptr, aLoad_eq, loadGo_one, aPlace_ptr, dropC_cells, aBox_eq, get_push_new, decide_false, Nat.reduceEqDiff, Nat.reduceAdd, Option.map_some, Nat.add_zero, Nat.zero_add, Nat.zero_le, List.length_cons, List.length_nil, List.drop_zero, if_true, if_false, ft_27_0, lt_3, hc, h1, h2]
  refine SWp.drawnS none_ [] (.q 0 (.q 1 (.q 2 (.q 3 (.q 4 (.q 5 (.q 6 (.q 7 (.q 8 (.q 9 (.q 10 (.q 11 (.q 12 (.q 13 (.q 14 (.q 15 (.q 16 (.q 17 (.q 18 .done))))))))))))))))))) (by kernel_rfl) (by kernel_rfl) (by kernel_rfl) ?_
  have hgl : ∀ (f : AFrame) (a : AObj), AFrame.eval f (h.push a) (.global 1) = .at kidsC := fun f a => eval_glob (by rw [push_glob]; exact hg)
  obtain ⟨k, hk, hk16⟩ : ∃ k : Nat, o = (k : Int) ∧ k < 17 := ⟨o.toNat, by omega, by omega⟩
  subst hk
  have hdr : ∀ m, dropC (AObj.cells [.int .i64 (k : Int), .int .i64 n, .imm l.length (l.flatMap encE)] 27 none) m = if m ≤ 3 then some ([V.int .i64 (k : Int), .int .i64 n, .imm l.length (l.flatMap encE)].drop m) else none := fun m => rfl
  have hix : (if (0 : Int) ≤ (k : Int) ∧ (k : Int) < ((17 : Nat) : Int) ∧ ((k : Int).toNat * 1) ≤ kidsC.length then some (V.at (kidsC.drop ((k : Int).toNat * 1))) else none) = some (.at (.int .i64 (kidsN.getD k 0) :: kidsC.drop (k + 1))) := by
    rw [if_pos ⟨by omega, by omega, by simp [kidsC, kidsN]; omega⟩]
    have : kidsC.drop ((k : Int).toNat * 1) = .int .i64 (kidsN.getD k 0) :: kidsC.drop (k + 1) := by
      rw [Int.toNat_natCast, Nat.mul_one, List.drop_eq_getElem_cons (by simp [kidsC, kidsN]; omega)]
      simp [kidsC, List.getD, List.getElem?_eq_getElem (show k < kidsN.length by simp [kidsN]; omega)]
    rw [this]
  by_cases h3 : ((l.length : Nat) : Int) = kidsN.getD k 0
  · have c3 : (((l.length : Nat) : Int) == kidsN.getD k 0) = true := by simpa using h3
    by_cases h4 : n = 0
    · have c4 : (n == 0) = true := by simpa using h4
      have hG : fitsX (.mk (k : Int) n l) = true := by simp [fitsX, h3, h4]; omega
      simp only [siI_done, siI_q, sqI_some, mOk_none', implies_true, qI_nil, qI_cons, qI_guard, qgI_same, qgI_tf, thenQ_some, q_move, q_assign, q_pick, q_load, q_binOp, q_fieldAddr, q_indexAddr, q_len, wpA_ret, seqQ_normal, endI_mk, goI_out, goI_mk, slotAt_zero, slotAt_succ, pickV_true, eval_tmp, eval_const, put_some, enterF_succ, aBin_eql, absV_int, absV_bool, aField_eq, fieldGo_ptr, aLoad_eq, loadGo_one, aPlace_ptr, aPlace_at, aIndexAddr_eq, ixGo_at, aLen_imm, get_push_new, List.getElem?_cons_zero, List.getElem?_cons_succ, Nat.reduceEqDiff, Nat.reduceLeDiff, Nat.add_zero, Nat.zero_add, Nat.zero_le, List.drop_zero, List.drop_succ_cons, true_and, if_true, if_false, as_283, ft_27_0, ft_27_1, ft_27_2, kt_25, lt_2, lt_25, lt_3, ss_283, hdr, hgl, hix, c3, c4, retA_ret, Tryz.results198, resultsA_1]
      exact hid_mk ⟨by rw [hG], Keep.push _ _ _⟩
    · have c4 : (n == 0) = false := by simpa using h4
      have hG : fitsX (.mk (k : Int) n l) = ((k : Int) == 1) := by rw [Bool.eq_iff_iff]; simp [fitsX, h3, h4]; omega
      simp only [siI_done, siI_q, sqI_some, mOk_none', implies_true, qI_nil, qI_cons, qI_guard, qgI_same, thenQ_some, q_move, q_assign, q_pick, q_load, q_binOp, q_fieldAddr, q_indexAddr, q_len, wpA_ret, seqQ_normal, endI_mk, goI_out, goI_mk, slotAt_zero, slotAt_succ, pickV_true, pickV_false, eval_tmp, eval_const, put_some, enterF_succ, aBin_eql, absV_int, absV_bool, aField_eq, fieldGo_ptr, aLoad_eq, loadGo_one, aPlace_ptr, aPlace_at, aIndexAddr_eq, ixGo_at, aLen_imm, get_push_new, List.getElem?_cons_zero, List.getElem?_cons_succ, Nat.reduceEqDiff, Nat.reduceLeDiff, Nat.add_zero, Nat.zero_add, Nat.zero_le, List.drop_zero, List.drop_succ_cons, true_and, if_true, if_false, as_283, ft_27_0, ft_27_1, ft_27_2, kt_25, lt_2, lt_25, lt_3, ss_283, hdr, hgl, hix, c3, c4, retA_ret, Tryz.results198, resultsA_1]
      exact hid_mk ⟨by rw [hG], Keep.push _ _ _⟩
  · have c3 : (((l.length : Nat) : Int) == kidsN.getD k 0) = false := by simpa using h3
    have hG : fitsX (.mk (k : Int) n l) = false := by simp [fitsX] at h3 ⊢; omega
    simp only [siI_done, siI_q, sqI_some, mOk_none', implies_true, qI_nil, qI_cons, qI_guard, qgI_ft, qgI_u, thenQ_some, q_move, q_assign, q_pick, q_load, q_binOp, q_fieldAddr, q_indexAddr, q_len, wpA_ret, seqQ_normal, endI_mk, goI_out, goI_mk, slotAt_zero, slotAt_succ, pickV_false, eval_tmp, eval_const, put_some, enterF_succ, aBin_eql, absV_bool, aField_eq, fieldGo_ptr, aLoad_eq, loadGo_one, aPlace_ptr, aPlace_at, aIndexAddr_eq, ixGo_at, aLen_imm, get_push_new, List.getElem?_cons_zero, List.getElem?_cons_succ, Nat.reduceEqDiff, Nat.reduceLeDiff, Nat.add_zero, Nat.zero_add, Nat.zero_le, List.drop_zero, List.drop_succ_cons, true_and, if_true, if_false, as_283, ft_27_0, ft_27_2, kt_25, lt_25, lt_3, ss_283, hdr, hgl, hix, c3, retA_ret, Tryz.results198, resultsA_1]
    exact hid_mk ⟨by rw [hG], Keep.push _ _ _⟩
end Go.Proofs.YtedkjhifbibpmaaGreatDoor.Pk
namespace Go.Proofs.YtedkjhifbibpmaaGreatDoor.Pk
open Go Go.Proofs Go.Proofs.YtedkjhifbibpmaaGreatDoor.Ab
set_option linter.unusedVariables false
set_option linter.unusedSimpArgs false

/-- How many expressions, within so many levels and so much room. -/
def cntL (f : Nat → Ex → Option Nat) (room : Nat) : Nat → List Ex → Option Nat
  | m, [] => some m
  | m, k :: r => match f (room - m) k with
    | some c => cntL f room (m + c) r
    | none => none
def cnt : Nat → Nat → Ex → Option Nat
  | 0, _, _ => none
  | l + 1, room, e => if room = 0 ∨ fitsX e = false then none else cntL (cnt l) room 1 e.ks
theorem cntL_le {f : Nat → Ex → Option Nat} {room : Nat} (hf : ∀ q e c, f q e = some c → 1 ≤ c ∧ c ≤ q) : ∀ {m : Nat} {l : List Ex} {c : Nat}, 1 ≤ m → m ≤ room → cntL f room m l = some c → 1 ≤ c ∧ c ≤ room
  | m, [], c, h1, h2, h => by simp [cntL] at h; omega
  | m, k :: r, c, h1, h2, h => by
    unfold cntL at h
    split at h
    · rename_i d hd
      have := hf _ _ _ hd
      exact cntL_le hf (by omega) (by omega) h
    · cases h
theorem cnt_le : ∀ {l room : Nat} {e : Ex} {c : Nat}, cnt l room e = some c → 1 ≤ c ∧ c ≤ room
  | 0, _, _, _, h => by simp [cnt] at h
  | l + 1, room, e, c, h => by
    unfold cnt at h
    split at h
    · cases h
    · rename_i hr
      exact cntL_le (fun q e c => cnt_le) (by omega) (by omega) h
def cntV : Option Nat → V
  | some m => .tuple [.int .i64 (m : Nat), .bool true]
  | none => .tuple [.int .i64 0, .bool false]
theorem fits_ks {o n : Int} {l : List Ex} (h : fitsX (.mk o n l) = true) : l.length ≤ 3 := by
  simp only [fitsX, Bool.and_eq_true, Bool.or_eq_true, decide_eq_true_eq] at h
  obtain ⟨⟨h1, h2⟩, h3, _⟩ := h
  have : ∀ k : Nat, kidsN.getD k 0 ≤ 3 := fun k => by
    by_cases hk : k < 17
    · revert hk; revert k; decide
    · rw [List.getD, List.getElem?_eq_none (by simp [kidsN]; omega)]; decide
  have := this o.toNat
  omega
theorem ex_ix {l : List Ex} {k : Nat} (hk : k < l.length) {kk : IntKind} : aIndexAddr Tryz.prog 25 (.imm l.length (l.flatMap encE)) (.int kk (k : Int)) = some (.at (encE l[k] ++ (l.drop (k + 1)).flatMap encE)) := rows_ix encE_len hk ss_25

set_option maxRecDepth 10000 in
theorem pCount : ∀ (l room : Nat) (e : Ex) (h : AHeap), KG h → l ≤ 16 → room ≤ 64 → Pure Tryz.prog 156 [.agg (encE e), .int .i64 (l : Nat), .int .i64 (room : Nat)] h (cntV (cnt l room e))
  | 0, room, e, h, hg, _, _ => by
    refine Pure.val (Clo.tuple (CloL.cons (Clo.int _ _) (CloL.cons (Clo.bool _) CloL.nil))) ?_
    refine SCalls.enterI (c := _) Tryz.func156 rfl (by kernel_rfl) (by simp) ?_
    have hc : (V.agg (encE e)).cells = some (encE e) := rfl
    have c1 : (((0 : Nat) : Int) == 0) = true := rfl
    simp only [wpA_region, wpA_seq, wpA_cond, wpA_ret, condI_true, seqQ_normal, seqQ_ret, endI_mk, goI_out, goI_ops, opsA_nil, opsA_cons, opsA_guardS, gvI_tf, slotAt_zero, slotAt_succ, stepA_move, stepA_assign, stepA_pick, stepA_box, stepA_binOp, thenV_some, thenH_some, pickV_true, eval_tmp, eval_const, put_some, enterF_zero, enterF_succ, aBin_eql, absV_int, absV_bool, aBox_eq, Nat.reduceEqDiff, Option.map_some, if_true, if_false, hc, c1, retA_ret, Tryz.results156, resultsA_2]
    exact hid_mk ⟨rfl, Keep.push _ _ _⟩
  | l + 1, room, e, h, hg, hl, hr => by
    have hclo : Clo (cntV (cnt (l + 1) room e)) := by
      cases cnt (l + 1) room e <;> exact Clo.tuple (CloL.cons (Clo.int _ _) (CloL.cons (Clo.bool _) CloL.nil))
    refine Pure.val hclo ?_
    refine SCalls.enterI (c := _) Tryz.func156 rfl (by kernel_rfl) (by simp) ?_
    have hc : (V.agg (encE e)).cells = some (encE e) := rfl
    have c1 : (((l + 1 : Nat) : Int) == 0) = false := by simp only [beq_eq_false_iff_ne, ne_eq]; omega
    by_cases h0 : room = 0
    · have c2 : (((room : Nat) : Int) == 0) = true := by simp [h0]
      have hG : cnt (l + 1) room e = none := by simp [cnt, h0]
      simp only [wpA_region, wpA_seq, wpA_cond, wpA_ret, condI_true, seqQ_normal, seqQ_ret, endI_mk, goI_out, goI_ops, opsA_nil, opsA_cons, opsA_guardS, gvI_same, gvI_tf, slotAt_zero, slotAt_succ, stepA_move, stepA_assign, stepA_pick, stepA_box, stepA_binOp, thenV_some, thenH_some, pickV_true, pickV_false, eval_tmp, eval_const, put_some, enterF_zero, enterF_succ, aBin_eql, absV_int, absV_bool, aBox_eq, Nat.reduceEqDiff, Option.map_some, if_true, if_false, hc, c1, c2, retA_ret, Tryz.results156, resultsA_2]
      exact hid_mk ⟨by rw [hG]; rfl, Keep.push _ _ _⟩
    have c2 : (((room : Nat) : Int) == 0) = false := by simp only [beq_eq_false_iff_ne, ne_eq]; omega
    have hdr : dropC (AObj.cells (encE e) 27 none) 0 = some (encE e) := by cases e; rfl
    have hld : loadGo (some (some 3)) (some (encE e)) = some (.agg (encE e)) := by cases e; rfl
    have hg1 : ∀ a, KG (h.push a) := fun a => by unfold KG; rw [push_glob]; exact hg
    simp only [wpA_region, wpA_seq, seqQ_normal, goI_out, goI_ops, opsA_nil, opsA_cons, opsA_guardS, gvI_same, slotAt_zero, slotAt_succ, stepA_move, stepA_assign, stepA_pick, stepA_box, stepA_load, stepA_binOp, stepA_call, thenV_some, thenH_some, pickV_false, eval_tmp, eval_const, put_some, enterF_zero, enterF_succ, aBin_eql, absV_int, absV_bool, aLoad_eq, aPlace_ptr, aBox_eq, get_push_new, Nat.reduceEqDiff, List.map_cons, List.map_nil, Option.map_some, if_true, if_false, lt_27, hc, c1, c2, hdr, hld]
    refine callI_pure cal198 (pFits e _ (hg1 _)) ?_
    by_cases hf : fitsX e = false
    · have hG : cnt (l + 1) room e = none := by simp [cnt, hf]
      simp only [wpA_region, wpA_seq, wpA_cond, wpA_ret, condI_true, seqQ_normal, seqQ_ret, endI_mk, goI_out, goI_ops, opsA_nil, opsA_cons, opsA_guardS, gvI_same, slotAt_zero, slotAt_succ, stepA_assign, stepA_pick, stepA_unOp, thenV_some, pickV_false, eval_tmp, eval_const, put_some, enterF_succ, aUn_not, absV_int, absV_bool, Nat.reduceEqDiff, if_true, if_false, Bool.not_false, hf, retA_ret, Tryz.results156, resultsA_2]
      exact hid_mk ⟨by rw [hG]; rfl, Keep.push _ _ _⟩
    have hf' : fitsX e = true := by simpa using hf
    obtain ⟨o, n, ks⟩ := e
    have hk3 := fits_ks hf'
    have hG : cnt (l + 1) room (.mk o n ks) = cntL (cnt l) room 1 ks := by simp [cnt, h0, hf', Ex.ks]
    have hd2 : dropC (AObj.cells (encE (.mk o n ks)) 27 none) 2 = some [.imm ks.length (ks.flatMap encE)] := by rw [encE_eq]; rfl
    simp only [wpA_skip, wpA_region, wpA_seq, wpA_cond, wpA_block, wpA_loop, condI_false, seqQ_normal, goI_out, goI_ops, opsA_nil, opsA_cons, opsA_guardS, gvI_same, slotAt_zero, slotAt_succ, stepA_move, stepA_assign, stepA_pick, stepA_load, stepA_unOp, stepA_fieldAddr, stepA_len, thenV_some, pickV_false, eval_tmp, eval_const, put_some, enterF_succ, aUn_not, absV_int, absV_bool, aField_eq, fieldGo_ptr, aLoad_eq, loadGo_one, aPlace_ptr, aLen_imm, get_push_new, Nat.reduceEqDiff, Nat.zero_add, if_true, if_false, Bool.not_true, ft_27_2, kt_25, lt_25, hf', hd2]
    refine SWp.loopG (α := Nat × Nat) (fun x f h' => f 1 = .int .i64 ((l + 1 : Nat) : Int) ∧ f 2 = .int .i64 (room : Nat) ∧ f 25 = .imm ks.length (ks.flatMap encE) ∧ f 26 = .int .i64 ((ks.length : Nat) : Int) ∧ f 27 = .int .i64 (x.1 : Nat) ∧ f 8 = .int .i64 (x.2 : Nat) ∧ x.1 ≤ ks.length ∧ 1 ≤ x.2 ∧ x.2 ≤ room ∧ Keep h h' none_ ∧ cntL (cnt l) room 1 ks = cntL (cnt l) room x.2 (ks.drop x.1))
      (fun x => ks.length - x.1) (0, 1) ⟨rfl, rfl, rfl, rfl, rfl, rfl, Nat.zero_le _, Nat.le_refl _, by omega, Keep.push _ _ _, rfl⟩ ?_
    rintro ⟨i, m⟩ f h' ⟨f1, f2, f25, f26, f27, f8, hi, hm1, hm2, hk, hE⟩
    simp only at f27 f8 hi hm1 hm2 hE
    refine wpI_sound (by kernel_rfl) ?_
    by_cases hlt : i < ks.length
    rotate_left
    · have c3 : decide ((i : Int) < ((ks.length : Nat) : Int)) = false := by simp only [decide_eq_false_iff_not]; omega
      rw [List.drop_of_length_le (by omega)] at hE
      simp only [wpA_region, wpA_seq, wpA_cond, wpA_exit, wpA_ret, condI_false, seqQ_normal, seqQ_exit, blkQ_exit, endI_mk, goE, andThen_exit, goI_out, goI_ops, opsA_nil, opsA_cons, stepA_move, stepA_assign, stepA_binOp, thenV_some, eval_tmp, eval_const, put_some, aBin_lss, absV_bool, Nat.reduceEqDiff, if_true, if_false, f26, f27, f8, c3, retA_ret, Tryz.results156, resultsA_2]
      exact hid_mk ⟨by rw [hG, hE]; rfl, hk⟩
    · have c3 : decide ((i : Int) < ((ks.length : Nat) : Int)) = true := by simp only [decide_eq_true_eq]; omega
      rw [List.drop_eq_getElem_cons hlt] at hE
      have x0 := ex_ix (kk := .i64) hlt
      generalize ks[i] = A at *
      have lr : ∀ (q : List V), loadGo (some (some 3)) (some (encE A ++ q)) = some (.agg (encE A)) := fun q => load_row (encE_len A)
      have hone : (V.agg (encE A)).cells = some (encE A) := rfl
      have hset : setC (some 3) (AObj.cells [.int .i64 0, .int .i64 0, .snil] 27 none) 0 (encE A) = some (.cells (encE A) 27 none) := by
        rw [setC_row (n := 3) (encE_len A) (encE_one A), if_pos (by decide)]; cases A; rfl
      have hdA : dropC (AObj.cells (encE A) 27 none) 0 = some (encE A) := by cases A; rfl
      have hlA : loadGo (some (some 3)) (some (encE A)) = some (.agg (encE A)) := by cases A; rfl
      have w0 : IntKind.i64.wrap (((l + 1 : Nat) : Int) - 1) = ((l : Nat) : Int) := by rw [Go.IntWalk.i64_in _ (by omega)]; omega
      have w1 : IntKind.i64.wrap (((room : Nat) : Int) - ((m : Nat) : Int)) = ((room - m : Nat) : Int) := by rw [Go.IntWalk.i64_in _ (by omega)]; omega
      have w2 : IntKind.i64.wrap (((i : Nat) : Int) + 1) = ((i + 1 : Nat) : Int) := by rw [Go.IntWalk.i64_in _ (by omega)]; omega
      have hgh : KG h' := by unfold KG; rw [hk.glob]; exact hg
      have ih := pCount l (room - m) A (h'.push (.cells (encE A) 27 none)) (by unfold KG; rw [push_glob]; exact hgh) (by omega) (by omega)
      simp only [wpA_skip, wpA_region, wpA_seq, wpA_cond, wpA_block, condI_true, seqQ_normal, goI_out, goI_ops, opsA_nil, opsA_cons, stepA_move, stepA_alloc, stepA_load, stepA_store, stepA_binOp, stepA_indexAddr, stepA_call, thenV_some, thenH_some, thenS_some, eval_tmp, eval_const, put_some, put_none, aBin_sub, aBin_lss, absV_int, aLoad_eq, aPlace_ptr, aPlace_at, aStore_eq, storeGo_ptr, aAlloc_eq, get_push_new, set_push, Nat.reduceEqDiff, List.map_cons, List.map_nil, Option.map_some, if_true, if_false, lt_27, zc_27, zt_27, f1, f2, f25, f26, f27, f8, c3, x0, lr, hone, hset, hdA, hlA, w0, w1]
      refine callI_pure cal156 ih ?_
      cases hcn : cnt l (room - m) A with
      | none =>
        have hE' : cntL (cnt l) room 1 ks = none := by rw [hE]; simp [cntL, hcn]
        simp only [wpA_region, wpA_seq, wpA_cond, wpA_ret, condI_true, seqQ_normal, seqQ_ret, blkQ_ret, endI_mk, goE, andThen_ret, goI_out, goI_ops, opsA_nil, opsA_cons, stepA_move, stepA_assign, stepA_unOp, stepA_extract, thenV_some, extV_zero, extV_succ, eval_tmp, eval_const, put_some, put_none, aUn_not, absV_int, absV_bool, Nat.reduceEqDiff, if_true, if_false, Bool.not_false, cntV, retA_ret, Tryz.results156, resultsA_2]
        exact hid_mk ⟨by rw [hG, hE']; rfl, hk.then_push _⟩
      | some c =>
        have hcl := cnt_le hcn
        have w3 : IntKind.i64.wrap (((m : Nat) : Int) + ((c : Nat) : Int)) = ((m + c : Nat) : Int) := by rw [Go.IntWalk.i64_in _ (by omega)]; omega
        simp only [wpA_skip, wpA_region, wpA_seq, wpA_cond, condI_false, seqQ_normal, blkQ_normal, endI_mk, andThen_normal, goI_out, goI_ops, opsA_nil, opsA_cons, stepA_move, stepA_assign, stepA_binOp, stepA_unOp, stepA_extract, thenV_some, extV_zero, extV_succ, eval_tmp, eval_const, put_some, put_none, aBin_add, aUn_not, absV_int, Nat.reduceEqDiff, if_true, if_false, Bool.not_true, f27, f8, cntV, w2, w3]
        exact hid_mk ⟨(i + 1, m + c), ⟨f1, f2, f25, f26, rfl, rfl, by omega, by simp only; omega, by simp only; omega, hk.then_push _, by rw [hE]; simp [cntL, hcn]⟩, by simp only; omega⟩

def mayX (e : Ex) : Bool := (cnt 16 64 e).isSome
theorem pMay (e : Ex) (h : AHeap) (hg : KG h) : Pure Tryz.prog 104 [.agg (encE e)] h (.bool (mayX e)) := by
  refine Pure.val (Clo.bool _) ?_
  refine SCalls.enterI (c := _) Tryz.func104 rfl (by kernel_rfl) (by simp) ?_
  have hc : (V.agg (encE e)).cells = some (encE e) := rfl
  have hdr : dropC (AObj.cells (encE e) 27 none) 0 = some (encE e) := by cases e; rfl
  have hld : loadGo (some (some 3)) (some (encE e)) = some (.agg (encE e)) := by cases e; rfl
  have hg1 : ∀ a, KG (h.push a) := fun a => by unfold KG; rw [push_glob]; exact hg
  simp only [wpA_region, wpA_seq, seqQ_normal, goI_out, goI_ops, opsA_nil, opsA_cons, stepA_assign, stepA_box, stepA_load, stepA_call, thenV_some, thenH_some, eval_tmp, eval_const, put_some, enterF_zero, enterF_succ, absV_int, absV_bool, aLoad_eq, aPlace_ptr, aBox_eq, get_push_new, Nat.reduceEqDiff, List.map_cons, List.map_nil, Option.map_some, if_true, if_false, lt_27, hc, hdr, hld]
  refine callI_pure cal156 (pCount 16 64 e _ (hg1 _) (by omega) (by omega)) ?_
  cases hcn : cnt 16 64 e with
  | none =>
    simp only [wpA_region, wpA_seq, wpA_ret, seqQ_normal, endI_mk, goI_out, goI_ops, opsA_nil, opsA_cons, stepA_move, stepA_assign, stepA_extract, thenV_some, extV_zero, extV_succ, eval_tmp, put_some, enterF_succ, Nat.reduceEqDiff, if_true, if_false, cntV, retA_ret, Tryz.results104, resultsA_1]
    exact hid_mk ⟨by simp [mayX, hcn], Keep.push _ _ _⟩
  | some c =>
    simp only [wpA_region, wpA_seq, wpA_ret, seqQ_normal, endI_mk, goI_out, goI_ops, opsA_nil, opsA_cons, stepA_move, stepA_assign, stepA_extract, thenV_some, extV_zero, extV_succ, eval_tmp, put_some, enterF_succ, Nat.reduceEqDiff, if_true, if_false, cntV, retA_ret, Tryz.results104, resultsA_1]
    exact hid_mk ⟨by simp [mayX, hcn], Keep.push _ _ _⟩
end Go.Proofs.YtedkjhifbibpmaaGreatDoor.Pk
namespace Go.Proofs.YtedkjhifbibpmaaGreatDoor.Pk
open Go Go.Proofs Go.Proofs.YtedkjhifbibpmaaGreatDoor.Ab
set_option linter.unusedVariables false
set_option linter.unusedSimpArgs false

/-- A call that leaves the memory as it was, and answers or panics. -/
def PureE (P : Program) (f : FuncId) (args : List V) (h : AHeap) (o : Option V) : Prop := SCallsE P f args h (fun r h' => o = some r ∧ h' = h) (fun h' => h' = h ∧ o = none)
theorem PureE.pure {P : Program} {f : FuncId} {args : List V} {h : AHeap} {v : V} (hc : PureE P f args h (some v)) : Pure P f args h v :=
  SCallsE.mono hc (fun r h' ⟨e1, e2⟩ => ⟨(Option.some.inj e1).symm, e2⟩) fun h' ⟨_, e⟩ => by cases e
theorem Pure.e {P : Program} {f : FuncId} {args : List V} {h : AHeap} {v : V} (hc : Pure P f args h v) : PureE P f args h (some v) :=
  SCallsE.mono hc (fun r h' ⟨e1, e2⟩ => ⟨by rw [e1], e2⟩) fun h' e => e.elim
theorem PureE.of {P : Program} {f : FuncId} {args : List V} {h : AHeap} (o : Option V) (hv : ∀ v, o = some v → Clo v) (hc : SCallsE P f args h (fun r h' => o = some r ∧ Keep h h' none_) (fun h' => Keep h h' none_ ∧ o = none)) : PureE P f args h o := by
  intro ρ B w0 w args' hw ha
  refine (hc ρ B w0 w args' hw ha).mono fun e w' hh => ?_
  rcases hh with ⟨ρ', r, r', h', he, hr, hw', hle, e1, hk⟩ | ⟨ρ', ch, h', he, hch, hw', hle, hk, hE⟩
  · exact .inl ⟨⟨ρ.ren, ρ'.frz, ρ.dfr⟩, r, r', h, he, hv r e1 _ _ _ hr fun _ _ h => h, hw.forget hw' hle hk, ⟨fun _ _ h => h, hle.frz, rfl⟩, e1, rfl⟩
  · exact .inr ⟨⟨ρ.ren, ρ'.frz, ρ.dfr⟩, ch, h, he, hch, hw.forget hw' hle hk, ⟨fun _ _ h => h, hle.frz, rfl⟩, rfl, hE⟩
def iV (o : Option Int) : Option V := o.map (.int .i64)
theorem iV_clo (o : Option Int) : ∀ v, iV o = some v → Clo v := fun v h => by
  obtain ⟨n, _, rfl⟩ := Option.map_eq_some_iff.1 h
  exact Clo.int _ _

theorem pTruth (b : Bool) (h : AHeap) : Pure Tryz.prog 205 [.bool b] h (.int .i64 (if b then 1 else 0)) := by
  refine SCalls.enterI (c := _) Tryz.func205 rfl (by kernel_rfl) (by simp) ?_
  cases b <;>
  · simp only [wpA_skip, wpA_region, wpA_seq, wpA_cond, wpA_ret, condI_true, condI_false, seqQ_normal, seqQ_ret, endI_mk, goI_out, goI_ops, opsA_nil, opsA_cons, stepA_move, stepA_assign, eval_tmp, eval_const, put_some, enterF_zero, enterF_succ, absV_int, Nat.reduceEqDiff, reduceCtorEq, if_true, if_false, retA_ret, Tryz.results205, resultsA_1]
    exact hid_mk ⟨rfl, rfl⟩
theorem eDivisor (n : Int) (h : AHeap) : PureE Tryz.prog 204 [.int .i64 n] h (if n = 0 then none else some (.int .i64 n)) := by
  refine SCallsE.enterI (c := _) Tryz.func204 rfl (by kernel_rfl) (by simp) ?_
  by_cases h0 : n = 0
  · have c : (n == 0) = true := by simp [h0]
    simp only [wpA_region, wpA_seq, wpA_cond, condI_true, seqQ_normal, seqQ_panic, endI_mk, excE_out, excE_ops, goI_out, goI_ops, opsA_nil, opsA_cons, stepA_move, stepA_assign, stepA_binOp, stepA_makeInterface, stepA_panic, panI_iface, ifcV_false, thenV_some, eval_tmp, eval_const, put_some, enterF_zero, enterF_succ, aBin_eql, absV_int, Nat.reduceEqDiff, reduceCtorEq, if_true, if_false, if_32, c, panI_iface, retA_panic]
    exact hid_mk ⟨rfl, by rw [if_pos h0]⟩
  · have c : (n == 0) = false := by simp [h0]
    simp only [wpA_skip, wpA_region, wpA_seq, wpA_cond, wpA_ret, condI_false, seqQ_normal, endI_mk, goI_out, goI_ops, opsA_nil, opsA_cons, stepA_move, stepA_assign, stepA_binOp, thenV_some, eval_tmp, eval_const, put_some, enterF_zero, enterF_succ, aBin_eql, absV_int, Nat.reduceEqDiff, reduceCtorEq, if_true, if_false, c, retA_ret, Tryz.results204, resultsA_1]
    exact hid_mk ⟨by rw [if_neg h0], rfl⟩
def w64 (n : Int) : Int := IntKind.i64.wrap n
def combX (op a b : Int) : Option Int :=
  if op = 6 then some (w64 (a + b)) else if op = 7 then some (w64 (a - b)) else if op = 8 then some (w64 (a * b))
  else if op = 9 then (if b = 0 then none else some (w64 (a.tdiv b))) else if op = 10 then (if b = 0 then none else some (a.tmod b))
  else if op = 11 then some (if a < b then 1 else 0) else if op = 12 then some (if a = b then 1 else 0) else if op = 15 then some (min a b) else some (max a b)

set_option maxRecDepth 10000 in
theorem eCombine (op a b : Int) (h : AHeap) : PureE Tryz.prog 167 [.int .i64 op, .int .i64 a, .int .i64 b] h (iV (combX op a b)) := by
  refine SCallsE.enterI (c := _) Tryz.func167 rfl (by kernel_rfl) (by simp) ?_
  by_cases h6 : op = 6
  · have c : (op == 6) = true := by simp [h6]
    simp only [wpA_region, wpA_seq, wpA_cond, wpA_block, wpA_ret, condI_true, seqQ_normal, seqQ_ret, blkQ_ret, endI_mk, goI_out, goI_ops, opsA_nil, opsA_cons, stepA_move, stepA_assign, stepA_binOp, thenV_some, eval_tmp, eval_const, put_some, enterF_zero, enterF_succ, aBin_add, aBin_eql, absV_int, Nat.reduceEqDiff, reduceCtorEq, if_true, if_false, c, retA_ret, Tryz.results167, resultsA_1]
    exact hid_mk ⟨by simp [combX, h6, iV, w64], rfl⟩
  have c6 : (op == 6) = false := by simp [h6]
  by_cases h7 : op = 7
  · have c : (op == 7) = true := by simp [h7]
    simp only [wpA_region, wpA_seq, wpA_cond, wpA_block, wpA_ret, condI_true, condI_false, seqQ_normal, seqQ_ret, blkQ_ret, endI_mk, goI_out, goI_ops, opsA_nil, opsA_cons, stepA_move, stepA_assign, stepA_binOp, thenV_some, eval_tmp, eval_const, put_some, enterF_zero, enterF_succ, aBin_sub, aBin_eql, absV_int, Nat.reduceEqDiff, reduceCtorEq, if_true, if_false, c6, c, retA_ret, Tryz.results167, resultsA_1]
    exact hid_mk ⟨by simp [combX, h7, iV, w64], rfl⟩
  have c7 : (op == 7) = false := by simp [h7]
  by_cases h8 : op = 8
  · have c : (op == 8) = true := by simp [h8]
    simp only [wpA_region, wpA_seq, wpA_cond, wpA_block, wpA_ret, condI_true, condI_false, seqQ_normal, seqQ_ret, blkQ_ret, endI_mk, goI_out, goI_ops, opsA_nil, opsA_cons, stepA_move, stepA_assign, stepA_binOp, thenV_some, eval_tmp, eval_const, put_some, enterF_zero, enterF_succ, aBin_mul, aBin_eql, absV_int, Nat.reduceEqDiff, reduceCtorEq, if_true, if_false, c6, c7, c, retA_ret, Tryz.results167, resultsA_1]
    exact hid_mk ⟨by simp [combX, h8, iV, w64], rfl⟩
  have c8 : (op == 8) = false := by simp [h8]
  by_cases h9 : op = 9
  · have c : (op == 9) = true := by simp [h9]
    simp only [wpA_region, wpA_seq, wpA_cond, wpA_block, condI_true, condI_false, seqQ_normal, goI_out, goI_ops, opsA_nil, opsA_cons, stepA_move, stepA_assign, stepA_binOp, stepA_call, thenV_some, eval_tmp, eval_const, put_some, enterF_zero, enterF_succ, aBin_eql, absV_int, Nat.reduceEqDiff, reduceCtorEq, List.map_cons, List.map_nil, if_true, if_false, c6, c7, c8, c]
    refine callI_ofE cal204 (eDivisor b h) (fun r h' ⟨e1, e2⟩ => ?_) (fun h' ⟨e1, e2⟩ => ?_)
    · subst e2
      by_cases hb : b = 0
      · rw [if_pos hb] at e1; cases e1
      rw [if_neg hb] at e1
      cases e1
      simp only [wpA_ret, seqQ_normal, seqQ_ret, blkQ_ret, endI_mk, goI_out, goI_ops, opsA_nil, opsA_cons, stepA_assign, stepA_binOp, thenV_some, eval_tmp, put_some, enterF_succ, Nat.reduceEqDiff, if_true, if_false, aBin_quo hb, retA_ret, Tryz.results167, resultsA_1]
      exact hid_mk ⟨by simp [combX, h9, hb, iV, w64], rfl⟩
    · subst e1
      have hb : b = 0 := Classical.byContradiction fun hb => by rw [if_neg hb] at e2; cases e2
      simp only [seqQ_panic, blkQ_panic, endI_mk, excE_out, excE_ops, retA_panic]
      exact hid_mk ⟨rfl, by simp [combX, h9, hb, iV]⟩
  have c9 : (op == 9) = false := by simp [h9]
  by_cases h10 : op = 10
  · have c : (op == 10) = true := by simp [h10]
    simp only [wpA_region, wpA_seq, wpA_cond, wpA_block, condI_true, condI_false, seqQ_normal, goI_out, goI_ops, opsA_nil, opsA_cons, stepA_move, stepA_assign, stepA_binOp, stepA_call, thenV_some, eval_tmp, eval_const, put_some, enterF_zero, enterF_succ, aBin_eql, absV_int, Nat.reduceEqDiff, reduceCtorEq, List.map_cons, List.map_nil, if_true, if_false, c6, c7, c8, c9, c]
    refine callI_ofE cal204 (eDivisor b h) (fun r h' ⟨e1, e2⟩ => ?_) (fun h' ⟨e1, e2⟩ => ?_)
    · subst e2
      by_cases hb : b = 0
      · rw [if_pos hb] at e1; cases e1
      rw [if_neg hb] at e1
      cases e1
      simp only [wpA_ret, seqQ_normal, seqQ_ret, blkQ_ret, endI_mk, goI_out, goI_ops, opsA_nil, opsA_cons, stepA_assign, stepA_binOp, thenV_some, eval_tmp, put_some, enterF_succ, Nat.reduceEqDiff, if_true, if_false, aBin_rem hb, retA_ret, Tryz.results167, resultsA_1]
      exact hid_mk ⟨by simp [combX, h10, hb, iV], rfl⟩
    · subst e1
      have hb : b = 0 := Classical.byContradiction fun hb => by rw [if_neg hb] at e2; cases e2
      simp only [seqQ_panic, blkQ_panic, endI_mk, excE_out, excE_ops, retA_panic]
      exact hid_mk ⟨rfl, by simp [combX, h10, hb, iV]⟩
  have c10 : (op == 10) = false := by simp [h10]
  by_cases h11 : op = 11
  · have c : (op == 11) = true := by simp [h11]
    simp only [wpA_region, wpA_seq, wpA_cond, wpA_block, condI_true, condI_false, seqQ_normal, goI_out, goI_ops, opsA_nil, opsA_cons, stepA_move, stepA_assign, stepA_binOp, stepA_call, thenV_some, eval_tmp, eval_const, put_some, enterF_zero, enterF_succ, aBin_eql, aBin_lss, absV_int, Nat.reduceEqDiff, reduceCtorEq, List.map_cons, List.map_nil, if_true, if_false, c6, c7, c8, c9, c10, c]
    refine callI_pure cal205 (pTruth _ h) ?_
    simp only [wpA_ret, seqQ_normal, seqQ_ret, blkQ_ret, endI_mk, goI_out, goI_ops, opsA_nil, opsA_cons, stepA_assign, eval_tmp, put_some, enterF_succ, Nat.reduceEqDiff, if_true, if_false, retA_ret, Tryz.results167, resultsA_1]
    exact hid_mk ⟨by simp [combX, h11, iV], rfl⟩
  have c11 : (op == 11) = false := by simp [h11]
  by_cases h12 : op = 12
  · have c : (op == 12) = true := by simp [h12]
    simp only [wpA_region, wpA_seq, wpA_cond, wpA_block, condI_true, condI_false, seqQ_normal, goI_out, goI_ops, opsA_nil, opsA_cons, stepA_move, stepA_assign, stepA_binOp, stepA_call, thenV_some, eval_tmp, eval_const, put_some, enterF_zero, enterF_succ, aBin_eql, absV_int, Nat.reduceEqDiff, reduceCtorEq, List.map_cons, List.map_nil, if_true, if_false, c6, c7, c8, c9, c10, c11, c]
    refine callI_pure cal205 (pTruth _ h) ?_
    simp only [wpA_ret, seqQ_normal, seqQ_ret, blkQ_ret, endI_mk, goI_out, goI_ops, opsA_nil, opsA_cons, stepA_assign, eval_tmp, put_some, enterF_succ, Nat.reduceEqDiff, if_true, if_false, retA_ret, Tryz.results167, resultsA_1]
    exact hid_mk ⟨by simp [combX, h12, iV], rfl⟩
  have c12 : (op == 12) = false := by simp [h12]
  by_cases h15 : op = 15
  · have c : (op == 15) = true := by simp [h15]
    simp only [wpA_region, wpA_seq, wpA_cond, wpA_block, wpA_ret, condI_true, condI_false, seqQ_normal, seqQ_ret, blkQ_ret, endI_mk, goI_out, goI_ops, opsA_nil, opsA_cons, stepA_move, stepA_assign, stepA_binOp, stepA_min, thenV_some, eval_tmp, eval_const, put_some, enterF_zero, enterF_succ, aBin_eql, mmV_min, absV_int, Nat.reduceEqDiff, reduceCtorEq, if_true, if_false, c6, c7, c8, c9, c10, c11, c12, c, retA_ret, Tryz.results167, resultsA_1]
    exact hid_mk ⟨by simp [combX, h15, iV], rfl⟩
  have c15 : (op == 15) = false := by simp [h15]
  simp only [wpA_skip, wpA_region, wpA_seq, wpA_cond, wpA_block, wpA_ret, condI_false, seqQ_normal, blkQ_normal, endI_mk, goI_out, goI_ops, opsA_nil, opsA_cons, stepA_move, stepA_assign, stepA_binOp, stepA_max, thenV_some, eval_tmp, eval_const, put_some, enterF_zero, enterF_succ, aBin_eql, mmV_max, absV_int, Nat.reduceEqDiff, reduceCtorEq, if_true, if_false, c6, c7, c8, c9, c10, c11, c12, c15, retA_ret, Tryz.results167, resultsA_1]
  exact hid_mk ⟨by simp [combX, h6, h7, h8, h9, h10, h11, h12, h15, iV], rfl⟩
end Go.Proofs.YtedkjhifbibpmaaGreatDoor.Pk
namespace Go.Proofs.YtedkjhifbibpmaaGreatDoor.Pk
open Go Go.Proofs Go.Proofs.YtedkjhifbibpmaaGreatDoor.Ab
set_option linter.unusedVariables false
set_option linter.unusedSimpArgs false

def valF (rk rv rt acc : Int) : Nat → Ex → Option Int
  | 0, _ => none
  | d + 1, .mk o n ks =>
    if o = 1 then some n else if o = 2 then some rk else if o = 3 then some rv else if o = 4 then some rt else if o = 5 then some acc
    else if o = 14 then ((ks[0]?).bind (valF rk rv rt acc d)).map fun a => w64 (-a)
    else if o = 13 then ((ks[0]?).bind (valF rk rv rt acc d)).bind fun a => if a = 0 then (ks[2]?).bind (valF rk rv rt acc d) else (ks[1]?).bind (valF rk rv rt acc d)
    else ((ks[0]?).bind (valF rk rv rt acc d)).bind fun a => ((ks[1]?).bind (valF rk rv rt acc d)).bind fun b => combX o a b

/-- It may be, within so many levels. -/
def okX (d : Nat) (e : Ex) : Prop := ∃ room c, cnt d room e = some c
theorem cntL_mem {f : Nat → Ex → Option Nat} {room : Nat} : ∀ {m : Nat} {l : List Ex} {c : Nat}, cntL f room m l = some c → ∀ k ∈ l, ∃ q c, f q k = some c
  | m, [], c, h, k, hk => by simp at hk
  | m, a :: r, c, h, k, hk => by
    unfold cntL at h
    split at h
    · rename_i d hd
      rcases List.mem_cons.1 hk with rfl | hk
      · exact ⟨_, _, hd⟩
      · exact cntL_mem h k hk
    · cases h
theorem okX.fits {d : Nat} {e : Ex} (h : okX (d + 1) e) : fitsX e = true ∧ ∀ k ∈ e.ks, okX d k := by
  obtain ⟨room, c, h⟩ := h
  unfold cnt at h
  split at h
  · cases h
  · rename_i hn
    refine ⟨?_, fun k hk => cntL_mem h k hk⟩
    cases hf : fitsX e <;> simp_all
theorem okX.zero {e : Ex} (h : okX 0 e) : False := by
  obtain ⟨room, c, h⟩ := h
  simp [cnt] at h
theorem kid_ix {ks : List Ex} {k : Nat} {A : Ex} (h : ks[k]? = some A) : ∃ r, aIndexAddr Tryz.prog 25 (.imm ks.length (ks.flatMap encE)) (.int .i64 (k : Int)) = some (.at (encE A ++ r)) :=
  rows_at encE_len rfl h ss_25
theorem fits_len {o n : Int} {ks : List Ex} (h : fitsX (.mk o n ks) = true) : (ks.length : Int) = kidsN.getD o.toNat 0 ∧ 1 ≤ o ∧ o ≤ 16 := by
  simp only [fitsX, Bool.and_eq_true, Bool.or_eq_true, decide_eq_true_eq] at h
  exact ⟨h.2.1, h.1⟩

set_option maxHeartbeats 2000000 in
set_option maxRecDepth 10000 in
theorem eValue (rk rv rt acc : Int) : ∀ (d : Nat) (e : Ex) (h : AHeap), okX d e → PureE Tryz.prog 115 [.agg (encE e), .agg [.int .i64 rk, .int .i64 rv, .int .i64 rt], .int .i64 acc] h (iV (valF rk rv rt acc d e))
  | 0, e, h, hok => hok.zero.elim
  | d + 1, .mk o n ks, h, hok => by
    obtain ⟨hfit, hkids⟩ := hok.fits
    obtain ⟨hlen, ho1, ho2⟩ := fits_len hfit
    refine PureE.of _ (iV_clo _) ?_
    rw [encE_eq]
    refine SCallsE.enterI (c := _) Tryz.func115 rfl (by kernel_rfl) (by simp) ?_
    have kp : ∀ a b, Keep h ((h.push a).push b) none_ := fun a b => (Keep.push _ _ _).then_push _
    by_cases h1 : o = 1
    · have c : (o == 1) = true := by simp [h1]
      simp only [wpA_region, wpA_seq, wpA_cond, wpA_block, wpA_ret, condI_true, seqQ_normal, seqQ_ret, blkQ_ret, endI_mk, goI_out, goI_ops, opsA_nil, opsA_cons, stepA_assign, stepA_box, stepA_load, stepA_binOp, stepA_fieldAddr, thenV_some, thenH_some, eval_tmp, eval_const, put_some, enterF_zero, enterF_succ, aBin_eql, absV_int, cells_agg, aField_eq, fieldGo_ptr, aLoad_eq, loadGo_one, aPlace_ptr, dropC_cells, aBox_eq, push_n, get_push2', Nat.reduceEqDiff, Nat.reduceAdd, Nat.reduceLeDiff, Option.map_some, Nat.add_zero, Nat.zero_add, Nat.zero_le, List.length_cons, List.length_nil, List.drop_zero, List.drop_succ_cons, if_true, if_false, ft_27_0, ft_27_1, lt_2, lt_3, c, retA_ret, Tryz.results115, resultsA_1]
      exact hid_mk ⟨by simp [valF, h1, iV], kp _ _⟩
    have c1 : (o == 1) = false := by simp [h1]
    by_cases h2 : o = 2
    · have c : (o == 2) = true := by simp [h2]
      simp only [wpA_region, wpA_seq, wpA_cond, wpA_block, wpA_ret, condI_true, condI_false, seqQ_normal, seqQ_ret, blkQ_ret, endI_mk, goI_out, goI_ops, opsA_nil, opsA_cons, stepA_assign, stepA_box, stepA_load, stepA_binOp, stepA_fieldAddr, thenV_some, thenH_some, eval_tmp, eval_const, put_some, enterF_zero, enterF_succ, aBin_eql, absV_int, cells_agg, aField_eq, fieldGo_ptr, aLoad_eq, loadGo_one, aPlace_ptr, dropC_cells, aBox_eq, push_n, get_push2, get_push2', Nat.reduceEqDiff, Nat.reduceAdd, Option.map_some, Nat.add_zero, Nat.zero_add, Nat.zero_le, List.length_cons, List.length_nil, List.drop_zero, if_true, if_false, ft_27_0, ft_38_0, lt_2, lt_3, c1, c, retA_ret, Tryz.results115, resultsA_1]
      exact hid_mk ⟨by simp [valF, h2, iV], kp _ _⟩
    have c2 : (o == 2) = false := by simp [h2]
    by_cases h3 : o = 3
    · have c : (o == 3) = true := by simp [h3]
      simp only [wpA_region, wpA_seq, wpA_cond, wpA_block, wpA_ret, condI_true, condI_false, seqQ_normal, seqQ_ret, blkQ_ret, endI_mk, goI_out, goI_ops, opsA_nil, opsA_cons, stepA_assign, stepA_box, stepA_load, stepA_binOp, stepA_fieldAddr, thenV_some, thenH_some, eval_tmp, eval_const, put_some, enterF_zero, enterF_succ, aBin_eql, absV_int, cells_agg, aField_eq, fieldGo_ptr, aLoad_eq, loadGo_one, aPlace_ptr, dropC_cells, aBox_eq, push_n, get_push2, get_push2', Nat.reduceEqDiff, Nat.reduceAdd, Nat.reduceLeDiff, Option.map_some, Nat.add_zero, Nat.zero_add, Nat.zero_le, List.length_cons, List.length_nil, List.drop_zero, List.drop_succ_cons, if_true, if_false, ft_27_0, ft_38_1, lt_2, lt_3, c1, c2, c, retA_ret, Tryz.results115, resultsA_1]
      exact hid_mk ⟨by simp [valF, h3, iV], kp _ _⟩
    have c3 : (o == 3) = false := by simp [h3]
    by_cases h4 : o = 4
    · have c : (o == 4) = true := by simp [h4]
      simp only [wpA_region, wpA_seq, wpA_cond, wpA_block, wpA_ret, condI_true, condI_false, seqQ_normal, seqQ_ret, blkQ_ret, endI_mk, goI_out, goI_ops, opsA_nil, opsA_cons, stepA_assign, stepA_box, stepA_load, stepA_binOp, stepA_fieldAddr, thenV_some, thenH_some, eval_tmp, eval_const, put_some, enterF_zero, enterF_succ, aBin_eql, absV_int, cells_agg, aField_eq, fieldGo_ptr, aLoad_eq, loadGo_one, aPlace_ptr, dropC_cells, aBox_eq, push_n, get_push2, get_push2', Nat.reduceEqDiff, Nat.reduceAdd, Nat.reduceLeDiff, Option.map_some, Nat.add_zero, Nat.zero_add, Nat.zero_le, List.length_cons, List.length_nil, List.drop_zero, List.drop_succ_cons, if_true, if_false, ft_27_0, ft_38_2, lt_2, lt_3, c1, c2, c3, c, retA_ret, Tryz.results115, resultsA_1]
      exact hid_mk ⟨by simp [valF, h4, iV], kp _ _⟩
    have c4 : (o == 4) = false := by simp [h4]
    by_cases h5 : o = 5
    · have c : (o == 5) = true := by simp [h5]
      simp only [wpA_region, wpA_seq, wpA_cond, wpA_block, wpA_ret, condI_true, condI_false, seqQ_normal, seqQ_ret, blkQ_ret, endI_mk, goI_out, goI_ops, opsA_nil, opsA_cons, stepA_move, stepA_assign, stepA_box, stepA_load, stepA_binOp, stepA_fieldAddr, thenV_some, thenH_some, eval_tmp, eval_const, put_some, enterF_zero, enterF_succ, aBin_eql, absV_int, cells_agg, aField_eq, fieldGo_ptr, aLoad_eq, loadGo_one, aPlace_ptr, dropC_cells, aBox_eq, push_n, get_push2', Nat.reduceEqDiff, Nat.reduceAdd, Option.map_some, Nat.add_zero, Nat.zero_add, Nat.zero_le, List.length_cons, List.length_nil, List.drop_zero, if_true, if_false, ft_27_0, lt_3, c1, c2, c3, c4, c, retA_ret, Tryz.results115, resultsA_1]
      exact hid_mk ⟨by simp [valF, h5, iV], kp _ _⟩
    have c5 : (o == 5) = false := by simp [h5]
    have lr : ∀ (A : Ex) (q : List V), loadGo (some (some 3)) (some (encE A ++ q)) = some (.agg (encE A)) := fun A q => load_row (encE_len A)
    have two : ∀ {A : Type} {l : List A} {k : Nat}, k < l.length → ∃ x, l[k]? = some x := fun hk => ⟨_, List.getElem?_eq_getElem hk⟩
    have hl1 : 0 < ks.length := by
      have : (1 : Int) ≤ kidsN.getD o.toNat 0 := by
        have : o.toNat = 6 ∨ o.toNat = 7 ∨ o.toNat = 8 ∨ o.toNat = 9 ∨ o.toNat = 10 ∨ o.toNat = 11 ∨ o.toNat = 12 ∨ o.toNat = 13 ∨ o.toNat = 14 ∨ o.toNat = 15 ∨ o.toNat = 16 := by omega
        rcases this with q | q | q | q | q | q | q | q | q | q | q <;> rw [q] <;> decide
      omega
    obtain ⟨A, hA⟩ := two hl1
    obtain ⟨r0, x0'⟩ := kid_ix hA
    have x0 : aIndexAddr Tryz.prog 25 (.imm ks.length (ks.flatMap encE)) (.int .i64 0) = some (.at (encE A ++ r0)) := x0'
    clear x0'
    have okA := hkids A (List.mem_of_getElem? hA)
    by_cases h14 : o = 14
    · have c : (o == 14) = true := by simp [h14]
      have hG : valF rk rv rt acc (d + 1) (.mk o n ks) = (valF rk rv rt acc d A).map fun a => w64 (-a) := by simp [valF, h14, hA]
      generalize ks.length = N at *
      generalize ks.flatMap encE = Cs at *
      simp only [wpA_region, wpA_seq, wpA_cond, wpA_block, wpA_draw, condI_true, condI_false, seqQ_normal, goI_out, goI_ops, opsA_nil, opsA_cons, stepA_assign, stepA_box, stepA_load, stepA_binOp, stepA_fieldAddr, thenV_some, thenH_some, eval_tmp, eval_const, put_some, enterF_zero, enterF_succ, aBin_eql, absV_int, cells_agg, aField_eq, fieldGo_ptr, aLoad_eq, loadGo_one, aPlace_ptr, dropC_cells, aBox_eq, push_n, get_push2', Nat.reduceEqDiff, Nat.reduceAdd, Option.map_some, Nat.add_zero, Nat.zero_add, Nat.zero_le, List.length_cons, List.length_nil, List.drop_zero, if_true, if_false, ft_27_0, lt_3, c1, c2, c3, c4, c5, c]
      refine SWp.drawnI [6] (by kernel_rfl) (by kernel_rfl) (by kernel_rfl) ?_
      simp only [gI_cons, goI_rest, ggI_true, wantedA_none, idleOp, Bool.or_true, Bool.or_false, List.contains_cons, List.contains_nil, Nat.reduceBEq, beq_self_eq_true, stepA_move, stepA_load, stepA_fieldAddr, stepA_indexAddr, stepA_call, thenV_some, eval_tmp, eval_const, put_some, enterF_zero, enterF_succ, absV_int, aField_eq, fieldGo_ptr, aLoad_eq, loadGo_one, loadGo_row, aPlace_ptr, aPlace_at, dropC_cells, get_push2, get_push2', beq_self_eq_true, Nat.reduceEqDiff, Nat.reduceAdd, Nat.reduceLeDiff, List.map_cons, List.map_nil, Nat.zero_add, Nat.zero_le, List.length_cons, List.length_nil, List.drop_zero, List.drop_succ_cons, List.take_succ_cons, List.take_nil, if_true, if_false, Nat.le_refl, ft_27_2, lt_25, lt_27, lt_38, x0, lr]
      refine callI_ofE cal115 (eValue rk rv rt acc d A _ okA) (fun r h' ⟨e1, e2⟩ => ?_) (fun h' ⟨e1, e2⟩ => ?_)
      · subst e2
        obtain ⟨a, ha, rfl⟩ := Option.map_eq_some_iff.1 e1
        simp only [gI_nil, gI_cons, goI_rest, ggI_true, wantedA_none, idleOp, Bool.or_false, List.contains_cons, List.contains_nil, Nat.reduceBEq, wpA_ret, seqQ_normal, seqQ_ret, blkQ_ret, endI_mk, goI_out, stepA_assign, stepA_unOp, thenV_some, eval_tmp, put_some, enterF_succ, aUn_neg, Nat.reduceEqDiff, Nat.reduceAdd, if_true, if_false, retA_ret, Tryz.results115, resultsA_1]
        exact hid_mk ⟨by simp [hG, ha, iV, w64], kp _ _⟩
      · subst e1
        simp only [excE_rest, seqQ_panic, blkQ_panic, endI_mk, excE_out, Nat.reduceAdd, retA_panic]
        have : valF rk rv rt acc d A = none := by simpa [iV] using e2
        exact hid_mk ⟨kp _ _, by simp [hG, this, iV]⟩
    have c14 : (o == 14) = false := by simp [h14]
    have hl2 : 1 < ks.length := by
      have : (2 : Int) ≤ kidsN.getD o.toNat 0 := by
        have : o.toNat = 6 ∨ o.toNat = 7 ∨ o.toNat = 8 ∨ o.toNat = 9 ∨ o.toNat = 10 ∨ o.toNat = 11 ∨ o.toNat = 12 ∨ o.toNat = 13 ∨ o.toNat = 15 ∨ o.toNat = 16 := by omega
        rcases this with q | q | q | q | q | q | q | q | q | q <;> rw [q] <;> decide
      omega
    obtain ⟨B, hB⟩ := two hl2
    obtain ⟨r1, x1'⟩ := kid_ix hB
    have x1 : aIndexAddr Tryz.prog 25 (.imm ks.length (ks.flatMap encE)) (.int .i64 1) = some (.at (encE B ++ r1)) := x1'
    clear x1'
    have okB := hkids B (List.mem_of_getElem? hB)
    by_cases h13 : o = 13
    · have c : (o == 13) = true := by simp [h13]
      have hl3 : 2 < ks.length := by
        rw [h13] at hlen
        have : (ks.length : Int) = 3 := hlen
        omega
      obtain ⟨C, hC⟩ := two hl3
      obtain ⟨r2, x2'⟩ := kid_ix hC
      have x2 : aIndexAddr Tryz.prog 25 (.imm ks.length (ks.flatMap encE)) (.int .i64 2) = some (.at (encE C ++ r2)) := x2'
      clear x2'
      have okC := hkids C (List.mem_of_getElem? hC)
      have hG : valF rk rv rt acc (d + 1) (.mk o n ks) = (valF rk rv rt acc d A).bind fun a => if a = 0 then valF rk rv rt acc d C else valF rk rv rt acc d B := by simp [valF, h13, hA, hB, hC]
      generalize ks.length = N at *
      generalize ks.flatMap encE = Cs at *
      simp only [wpA_region, wpA_seq, wpA_cond, wpA_block, wpA_draw, condI_true, condI_false, seqQ_normal, goI_out, goI_ops, opsA_nil, opsA_cons, stepA_assign, stepA_box, stepA_load, stepA_binOp, stepA_fieldAddr, thenV_some, thenH_some, eval_tmp, eval_const, put_some, enterF_zero, enterF_succ, aBin_eql, absV_int, cells_agg, aField_eq, fieldGo_ptr, aLoad_eq, loadGo_one, aPlace_ptr, dropC_cells, aBox_eq, push_n, get_push2', Nat.reduceEqDiff, Nat.reduceAdd, Option.map_some, Nat.add_zero, Nat.zero_add, Nat.zero_le, List.length_cons, List.length_nil, List.drop_zero, if_true, if_false, ft_27_0, lt_3, c1, c2, c3, c4, c5, c14, c]
      refine SWp.drawnI [6] (by kernel_rfl) (by kernel_rfl) (by kernel_rfl) ?_
      simp only [gI_cons, goI_rest, ggI_true, wantedA_none, idleOp, Bool.or_true, Bool.or_false, List.contains_cons, List.contains_nil, Nat.reduceBEq, beq_self_eq_true, stepA_move, stepA_load, stepA_fieldAddr, stepA_indexAddr, stepA_call, thenV_some, eval_tmp, eval_const, put_some, enterF_zero, enterF_succ, absV_int, aField_eq, fieldGo_ptr, aLoad_eq, loadGo_one, loadGo_row, aPlace_ptr, aPlace_at, dropC_cells, get_push2, get_push2', beq_self_eq_true, Nat.reduceEqDiff, Nat.reduceAdd, Nat.reduceLeDiff, List.map_cons, List.map_nil, Nat.zero_add, Nat.zero_le, List.length_cons, List.length_nil, List.drop_zero, List.drop_succ_cons, List.take_succ_cons, List.take_nil, if_true, if_false, Nat.le_refl, ft_27_2, lt_25, lt_27, lt_38, x0, lr]
      refine callI_ofE cal115 (eValue rk rv rt acc d A _ okA) (fun r h' ⟨e1, e2⟩ => ?_) (fun h' ⟨e1, e2⟩ => ?_)
      · subst e2
        obtain ⟨a, ha, rfl⟩ := Option.map_eq_some_iff.1 e1
        by_cases ha0 : a = 0
        · have q : (a != 0) = false := by simp [ha0]
          simp only [gI_nil, gI_cons, goI_rest, ggI_true, wantedA_none, idleOp, Bool.or_false, List.contains_cons, List.contains_nil, Nat.reduceBEq, wpA_skip, wpA_seq, wpA_cond, wpA_draw, condI_false, seqQ_normal, goI_out, stepA_binOp, thenV_some, eval_tmp, eval_const, put_some, enterF_succ, aBin_neq, absV_int, Nat.reduceEqDiff, Nat.reduceAdd, if_true, if_false, q]
          refine SWp.drawnI [6] (by kernel_rfl) (by kernel_rfl) (by kernel_rfl) ?_
          simp only [gI_cons, goI_rest, ggI_true, wantedA_none, idleOp, Bool.or_true, Bool.or_false, List.contains_cons, List.contains_nil, Nat.reduceBEq, beq_self_eq_true, stepA_move, stepA_load, stepA_fieldAddr, stepA_indexAddr, stepA_call, thenV_some, eval_tmp, eval_const, put_some, enterF_zero, enterF_succ, absV_int, aField_eq, fieldGo_ptr, aLoad_eq, loadGo_one, loadGo_row, aPlace_ptr, aPlace_at, dropC_cells, get_push2, get_push2', beq_self_eq_true, Nat.reduceEqDiff, Nat.reduceAdd, Nat.reduceLeDiff, List.map_cons, List.map_nil, Nat.zero_add, Nat.zero_le, List.length_cons, List.length_nil, List.drop_zero, List.drop_succ_cons, List.take_succ_cons, List.take_nil, if_true, if_false, Nat.le_refl, ft_27_2, lt_25, lt_27, lt_38, x2, lr]
          refine callI_ofE cal115 (eValue rk rv rt acc d C _ okC) (fun r h' ⟨e1, e2⟩ => ?_) (fun h' ⟨e1, e2⟩ => ?_)
          · subst e2
            obtain ⟨b, hb, rfl⟩ := Option.map_eq_some_iff.1 e1
            simp only [gI_nil, gI_cons, goI_rest, ggI_true, wantedA_none, idleOp, Bool.or_false, List.contains_cons, List.contains_nil, Nat.reduceBEq, wpA_ret, seqQ_normal, seqQ_ret, blkQ_ret, endI_mk, goI_out, stepA_assign, eval_tmp, put_some, enterF_succ, Nat.reduceEqDiff, Nat.reduceAdd, if_true, if_false, retA_ret, Tryz.results115, resultsA_1]
            exact hid_mk ⟨by simp [hG, ha, ha0, hb, iV], kp _ _⟩
          · subst e1
            simp only [excE_rest, seqQ_panic, blkQ_panic, endI_mk, excE_out, Nat.reduceAdd, retA_panic]
            have : valF rk rv rt acc d C = none := by simpa [iV] using e2
            exact hid_mk ⟨kp _ _, by simp [hG, ha, ha0, this, iV]⟩
        · have q : (a != 0) = true := by simp [ha0]
          simp only [gI_nil, gI_cons, goI_rest, ggI_true, wantedA_none, idleOp, Bool.or_false, List.contains_cons, List.contains_nil, Nat.reduceBEq, wpA_seq, wpA_cond, wpA_draw, condI_true, seqQ_normal, goI_out, stepA_binOp, thenV_some, eval_tmp, eval_const, put_some, enterF_succ, aBin_neq, absV_int, Nat.reduceEqDiff, Nat.reduceAdd, if_true, if_false, q]
          refine SWp.drawnI [6] (by kernel_rfl) (by kernel_rfl) (by kernel_rfl) ?_
          simp only [gI_cons, goI_rest, ggI_true, wantedA_none, idleOp, Bool.or_true, Bool.or_false, List.contains_cons, List.contains_nil, Nat.reduceBEq, beq_self_eq_true, stepA_move, stepA_load, stepA_fieldAddr, stepA_indexAddr, stepA_call, thenV_some, eval_tmp, eval_const, put_some, enterF_zero, enterF_succ, absV_int, aField_eq, fieldGo_ptr, aLoad_eq, loadGo_one, loadGo_row, aPlace_ptr, aPlace_at, dropC_cells, get_push2, get_push2', beq_self_eq_true, Nat.reduceEqDiff, Nat.reduceAdd, Nat.reduceLeDiff, List.map_cons, List.map_nil, Nat.zero_add, Nat.zero_le, List.length_cons, List.length_nil, List.drop_zero, List.drop_succ_cons, List.take_succ_cons, List.take_nil, if_true, if_false, Nat.le_refl, ft_27_2, lt_25, lt_27, lt_38, x1, lr]
          refine callI_ofE cal115 (eValue rk rv rt acc d B _ okB) (fun r h' ⟨e1, e2⟩ => ?_) (fun h' ⟨e1, e2⟩ => ?_)
          · subst e2
            obtain ⟨b, hb, rfl⟩ := Option.map_eq_some_iff.1 e1
            simp only [gI_nil, gI_cons, goI_rest, ggI_true, wantedA_none, idleOp, Bool.or_false, List.contains_cons, List.contains_nil, Nat.reduceBEq, wpA_ret, seqQ_normal, seqQ_ret, blkQ_ret, endI_mk, goI_out, stepA_assign, eval_tmp, put_some, enterF_succ, Nat.reduceEqDiff, Nat.reduceAdd, if_true, if_false, retA_ret, Tryz.results115, resultsA_1]
            exact hid_mk ⟨by simp [hG, ha, ha0, hb, iV], kp _ _⟩
          · subst e1
            simp only [excE_rest, seqQ_panic, blkQ_panic, endI_mk, excE_out, Nat.reduceAdd, retA_panic]
            have : valF rk rv rt acc d B = none := by simpa [iV] using e2
            exact hid_mk ⟨kp _ _, by simp [hG, ha, ha0, this, iV]⟩
      · subst e1
        simp only [excE_rest, seqQ_panic, blkQ_panic, endI_mk, excE_out, Nat.reduceAdd, retA_panic]
        have : valF rk rv rt acc d A = none := by simpa [iV] using e2
        exact hid_mk ⟨kp _ _, by simp [hG, this, iV]⟩
    have c13 : (o == 13) = false := by simp [h13]
    have hG : valF rk rv rt acc (d + 1) (.mk o n ks) = (valF rk rv rt acc d A).bind fun a => (valF rk rv rt acc d B).bind fun b => combX o a b := by simp [valF, h1, h2, h3, h4, h5, h14, h13, hA, hB]
    generalize ks.length = N at *
    generalize ks.flatMap encE = Cs at *
    simp only [wpA_skip, wpA_region, wpA_seq, wpA_cond, wpA_block, wpA_draw, condI_false, seqQ_normal, blkQ_normal, goI_out, goI_ops, opsA_nil, opsA_cons, stepA_assign, stepA_box, stepA_load, stepA_binOp, stepA_fieldAddr, thenV_some, thenH_some, eval_tmp, eval_const, put_some, enterF_zero, enterF_succ, aBin_eql, absV_int, cells_agg, aField_eq, fieldGo_ptr, aLoad_eq, loadGo_one, aPlace_ptr, dropC_cells, aBox_eq, push_n, get_push2', Nat.reduceEqDiff, Nat.reduceAdd, Option.map_some, Nat.add_zero, Nat.zero_add, Nat.zero_le, List.length_cons, List.length_nil, List.drop_zero, if_true, if_false, ft_27_0, lt_3, c1, c2, c3, c4, c5, c14, c13]
    refine SWp.drawnI [6] (by kernel_rfl) (by kernel_rfl) (by kernel_rfl) ?_
    simp only [gI_cons, goI_rest, ggI_true, wantedA_none, idleOp, Bool.or_true, Bool.or_false, List.contains_cons, List.contains_nil, Nat.reduceBEq, beq_self_eq_true, stepA_move, stepA_load, stepA_fieldAddr, stepA_indexAddr, stepA_call, thenV_some, eval_tmp, eval_const, put_some, enterF_zero, enterF_succ, absV_int, aField_eq, fieldGo_ptr, aLoad_eq, loadGo_one, loadGo_row, aPlace_ptr, aPlace_at, dropC_cells, get_push2, get_push2', beq_self_eq_true, Nat.reduceEqDiff, Nat.reduceAdd, Nat.reduceLeDiff, List.map_cons, List.map_nil, Nat.zero_add, Nat.zero_le, List.length_cons, List.length_nil, List.drop_zero, List.drop_succ_cons, List.take_succ_cons, List.take_nil, if_true, if_false, Nat.le_refl, ft_27_2, lt_25, lt_27, lt_38, x0, lr]
    refine callI_ofE cal115 (eValue rk rv rt acc d A _ okA) (fun r h' ⟨e1, e2⟩ => ?_) (fun h' ⟨e1, e2⟩ => ?_)
    · subst e2
      obtain ⟨a, ha, rfl⟩ := Option.map_eq_some_iff.1 e1
      simp only [gI_nil, gI_cons, goI_rest, ggI_true, wantedA_none, idleOp, Bool.or_false, List.contains_cons, List.contains_nil, Nat.reduceBEq, wpA_seq, wpA_draw, seqQ_normal, goI_out, stepA_assign, eval_tmp, put_some, enterF_succ, Nat.reduceEqDiff, Nat.reduceAdd, if_true, if_false]
      refine SWp.drawnS none_ [9, 10] (.q 0 (.q 1 (.q 2 (.q 3 (.q 4 (.q 5 (.q 6 (.q 7 (.q 8 (.e 9 (.a 10 (.q 11 .done)) .stop)))))))))) (by kernel_rfl) (by kernel_rfl) (by kernel_rfl) ?_
      simp only [siI_stop, siI_q, siI_e, sqI_some, seI_some, mOk_none', implies_true, qI_nil, qI_cons, thenQ_some, q_move, q_load, q_fieldAddr, q_indexAddr, goI_mk, opsA_cons, stepA_call, eval_tmp, eval_const, put_some, enterF_zero, enterF_succ, absV_int, aField_eq, fieldGo_ptr, aLoad_eq, loadGo_one, loadGo_row, aPlace_ptr, aPlace_at, dropC_cells, get_push2, get_push2', List.getElem?_cons_zero, List.getElem?_cons_succ, Nat.reduceEqDiff, Nat.reduceAdd, Nat.reduceLeDiff, List.map_cons, List.map_nil, Nat.add_zero, Nat.zero_add, Nat.zero_le, List.length_cons, List.length_nil, List.drop_zero, List.drop_succ_cons, List.take_succ_cons, List.take_nil, and_true, true_and, if_true, if_false, Nat.le_refl, ft_27_0, ft_27_2, lt_25, lt_27, lt_3, lt_38, x1, lr]
      refine callI_ofE cal115 (eValue rk rv rt acc d B _ okB) (fun r h' ⟨e1, e2⟩ => ?_) (fun h' ⟨e1, e2⟩ => ?_)
      · subst e2
        obtain ⟨b, hb, rfl⟩ := Option.map_eq_some_iff.1 e1
        simp only [siI_a, saI_some, keepT0, goI_ops, goI_mk, opsA_nil, opsA_cons, stepA_call, eval_tmp, put_some, enterF_succ, List.getElem?_cons_zero, List.getElem?_cons_succ, Nat.reduceEqDiff, List.map_cons, List.map_nil, true_and, if_true, if_false]
        refine callI_ofE cal167 (eCombine o a b _) (fun r h' ⟨e1, e2⟩ => ?_) (fun h' ⟨e1, e2⟩ => ?_)
        · subst e2
          obtain ⟨c, hc, rfl⟩ := Option.map_eq_some_iff.1 e1
          simp only [siI_done, siI_q, sqI_some, mOk_none', implies_true, qI_nil, qI_cons, q_assign, wpA_ret, seqQ_normal, endI_mk, goI_out, goI_ops, goI_mk, opsA_nil, eval_tmp, put_some, enterF_succ, List.getElem?_cons_zero, List.getElem?_cons_succ, Bool.false_eq_true, Nat.reduceEqDiff, true_and, if_true, if_false, retA_ret, Tryz.results115, resultsA_1]
          exact hid_mk ⟨by simp [hG, ha, hb, hc, iV], kp _ _⟩
        · subst e1
          simp only [siI_done, siI_q, sqI_some, mOk_none', Kt_fnE, implies_true, qI_nil, qI_cons, q_assign, wpA_ret, seqQ_normal, seqQ_panic, endI_mk, excE_out, excE_ops, goI_out, goI_mk, eval_tmp, List.getElem?_cons_zero, List.getElem?_cons_succ, Bool.false_eq_true, true_and, retA_panic, excE_out]
          have : combX o a b = none := by simpa [iV] using e2
          exact fun _ => hid_mk ⟨kp _ _, by simp [hG, ha, hb, this, iV]⟩
      · subst e1
        simp only [siI_a, saI_some, Kt_fnE, seqQ_panic, endI_mk, excE_out, excE_ops, opsA_cons, stepA_call, eval_tmp, List.getElem?_cons_zero, List.getElem?_cons_succ, List.map_cons, List.map_nil, retA_panic, excE_out]
        have : valF rk rv rt acc d B = none := by simpa [iV] using e2
        exact fun _ => hid_mk ⟨kp _ _, by simp [hG, ha, this, iV]⟩
    · subst e1
      simp only [excE_rest, seqQ_panic, endI_mk, excE_out, Nat.reduceAdd, retA_panic]
      have : valF rk rv rt acc d A = none := by simpa [iV] using e2
      exact hid_mk ⟨kp _ _, by simp [hG, this, iV]⟩
end Go.Proofs.YtedkjhifbibpmaaGreatDoor.Pk
namespace Go.Proofs.YtedkjhifbibpmaaGreatDoor.Pk
open Go Go.Proofs Go.Proofs.YtedkjhifbibpmaaGreatDoor.Ab
set_option linter.unusedVariables false
set_option linter.unusedSimpArgs false

/-! ### The deferred closure -/
theorem eval1_idle (p q : Value) (w : World) : CallsD Tryz.prog 114 #[p, q] .returning w fun e u' w' => e = .returned (.tuple #[]) ∧ u' = .returning ∧ w' = w := by
  refine callsD_of_wpS Tryz.func114 rfl fun c₀ cs hu => ?_
  apply wpS_seq
  apply wpS_region
  simp [wpOpsS, go_sem, recoverD, hu, Tryz.ntmps114, Exit.thenS]
  refine wpS_cond (t := false) (by simp [Act.eval, Array.replicate]) ?_
  simp only [Bool.false_eq_true, if_false]
  refine wpS_of_wp (wp_skip ?_)
  cases c₀
  simp_all [bodyPostS, results, Tryz.results114]
theorem dDefR {h : AHeap} {vx vy : V} {R : AHeap → Prop} (hR : R h) : SDefR Tryz.prog 114 [vx, vy] h R := by
  intro ρ B w0 w args' hw ha
  obtain ⟨p, t1, e1, hp, ha1⟩ := ha.uncons
  obtain ⟨q, t2, rfl, hq, ha2⟩ := ha1.uncons
  have := ha2.eq_nil
  subst this
  obtain rfl : args' = #[p, q] := Array.ext' (by simpa using e1)
  exact (eval1_idle p q w).mono fun e u' w' ⟨h1, h2, h3⟩ => ⟨h1, h2, ρ, h, h3 ▸ hw, Ren.le.refl ρ, hR⟩
theorem dDefP {h : AHeap} {i j : Nat} {a b : Int} (hi : h.get i = .cells [.int .i64 a] 2 none) (hj : h.get j = .cells [.int .i64 b] 32 none) (hij : i ≠ j) {R : AHeap → Prop}
    (hR : R ((h.set i (.cells [.int .i64 0] 2 none)).set j (.cells [.int .i64 10] 32 none))) : SDefP Tryz.prog 114 [.ptr i 0, .ptr j 0] h R := by
  intro ρ B w0 w args' tt vv hw ha
  obtain ⟨p, t1, e1, hp, ha1⟩ := ha.uncons
  obtain ⟨q, t2, rfl, hq, ha2⟩ := ha1.uncons
  have := ha2.eq_nil
  subst this
  obtain rfl : args' = #[p, q] := Array.ext' (by simpa using e1)
  refine callsD_of_wpS Tryz.func114 rfl fun c₀ cs hu => ?_
  apply wpS_seq
  apply wpS_region
  simp [wpOpsS, go_sem, recoverD, hu, Tryz.ntmps114, Exit.thenS]
  refine wpS_cond (t := true) (by simp [Act.eval, Array.replicate]) ?_
  simp only [if_true]
  refine wpS_of_wp ?_
  refine wp_mono (Q := CPost 4 B w0 { ρ with dfr := [] } (fun x f h2 => x = .normal ∧ h2 = (h.set i (.cells [.int .i64 0] 2 none)).set j (.cells [.int .i64 10] 32 none)))
    ((show SWp Tryz.prog 4 _ _ (fun k => if k = 0 then .ptr i 0 else if k = 1 then .ptr j 0 else .top) h from wpI_sound (by kernel_rfl) ?_) { ρ with dfr := [] } B w0 _ w (hw.dfr []) ⟨fun k => ?_, rfl, rfl⟩) ?_
  · have hj' : (h.set i (.cells [.int .i64 0] 2 none)).get j = .cells [.int .i64 b] 32 none := by rw [get_set_ne (Ne.symm hij)]; exact hj
    simp only [wpA_region, endI_mk, goI_out, goI_ops, opsA_nil, opsA_cons, stepA_store, thenS_some, eval_tmp, eval_const, put_none, absV_int, cells_int, one_int, all_nil, all_cons, aStore_eq, storeGo_ptr, setC_row, setAll_nil, setAll_cons, reduceCtorEq, Option.map_some, Nat.zero_add, List.length_cons, List.length_nil, List.set_cons_zero, and_self, if_true, if_false, Bool.and_self, Nat.le_refl, zt_2, zt_32, hi, hj']
  · match k with
    | 0 => exact hp.dfr []
    | 1 => exact hq.dfr []
    | n + 2 => exact .top _
  · rintro e a' w' ⟨ρ', z, f, h2, hx, hw', hf', hl, rfl, rfl⟩
    cases e <;> simp only [XR] at hx
    refine ⟨hf'.defers.trans hl.dfr, _, rfl, .tuple #[], by simp [results, Tryz.results114], rfl, rfl, _, _, hw'.dfr ρ.dfr, hl.dfr_back, hR⟩

set_option maxHeartbeats 1000000 in
set_option maxRecDepth 10000 in
theorem pEval (e : Ex) (rk rv rt acc : Int) (h : AHeap) (hg : KG h) :
    Pure Tryz.prog 59 [.agg (encE e), .agg [.int .i64 rk, .int .i64 rv, .int .i64 rt], .int .i64 acc] h
      (if mayX e then (match valF rk rv rt acc 16 e with | some n => .tuple [.int .i64 n, .int .i64 0] | none => .tuple [.int .i64 0, .int .i64 10]) else .tuple [.int .i64 0, .int .i64 1]) := by
  refine Pure.val (by split <;> (try split) <;> exact Clo.tuple (CloL.cons (Clo.int _ _) (CloL.cons (Clo.int _ _) CloL.nil))) ?_
  have hc : (V.agg (encE e)).cells = some (encE e) := rfl
  have hdr : dropC (AObj.cells (encE e) 27 none) 0 = some (encE e) := by cases e; rfl
  have hld : loadGo (some (some 3)) (some (encE e)) = some (.agg (encE e)) := by cases e; rfl
  obtain ⟨H, hH⟩ : ∃ x, x = (((h.push (.cells (encE e) 27 none)).push (.cells [.int .i64 rk, .int .i64 rv, .int .i64 rt] 38 none)).push (.cells [.int .i64 0] 2 none)).push (.cells [.int .i64 0] 32 none) := ⟨_, rfl⟩
  have g3 : H.get h.n = .cells (encE e) 27 none := by rw [hH]; simp [get_push, push_n]; rw [if_neg (by omega), if_neg (by omega)]
  have g4 : H.get (h.n + 1) = .cells [.int .i64 rk, .int .i64 rv, .int .i64 rt] 38 none := by rw [hH]; simp [get_push, push_n]
  have g6 : H.get (h.n + 1 + 1) = .cells [.int .i64 0] 2 none := by rw [hH]; simp [get_push, push_n]
  have g7 : H.get (h.n + 1 + 1 + 1) = .cells [.int .i64 0] 32 none := by rw [hH]; simp [get_push, push_n]
  have kH : Keep h H none_ := by rw [hH]; exact (((Keep.push _ _ _).then_push _).then_push _).then_push _
  have gH : KG H := by unfold KG; rw [kH.glob]; exact hg
  have kS : ∀ a b, Keep h ((H.set (h.n + 1 + 1) a).set (h.n + 1 + 1 + 1) b) none_ := fun a b => by
    refine ⟨by rw [set_n, set_n]; exact kH.n, fun i hi _ => ?_, by rw [set_glob, set_glob]; exact kH.glob⟩
    rw [get_set_ne (by omega), get_set_ne (by omega)]
    exact kH.get i hi (by simp [none_])
  have g7' : ∀ a, (H.set (h.n + 1 + 1) a).get (h.n + 1 + 1 + 1) = .cells [.int .i64 0] 32 none := fun a => by rw [get_set_ne (by omega)]; exact g7
  have g6' : ∀ a b, ((H.set (h.n + 1 + 1) a).set (h.n + 1 + 1 + 1) b).get (h.n + 1 + 1) = a := fun a b => by rw [get_set_ne (by omega), get_set_same]
  refine SCalls.enterD (A := _) (A2 := _) (C := _) (M := fun f h' => mayX e = true ∧ f 2 = .int .i64 acc ∧ f 3 = .ptr h.n 0 ∧ f 4 = .ptr (h.n + 1) 0 ∧ f 6 = .ptr (h.n + 1 + 1) 0 ∧ f 7 = .ptr (h.n + 1 + 1 + 1) 0 ∧ h' = H)
    (KR := fun vx vy f h' => ∃ n, valF rk rv rt acc 16 e = some n ∧ mayX e = true ∧ f 6 = .ptr (h.n + 1 + 1) 0 ∧ f 7 = .ptr (h.n + 1 + 1 + 1) 0 ∧ h' = (H.set (h.n + 1 + 1) (.cells [.int .i64 n] 2 none)).set (h.n + 1 + 1 + 1) (.cells [.int .i64 0] 32 none))
    (KP := fun vx vy f h' => valF rk rv rt acc 16 e = none ∧ mayX e = true ∧ vx = .ptr (h.n + 1 + 1) 0 ∧ vy = .ptr (h.n + 1 + 1 + 1) 0 ∧ f 6 = .ptr (h.n + 1 + 1) 0 ∧ f 7 = .ptr (h.n + 1 + 1 + 1) 0 ∧ h' = H)
    Tryz.func59 rfl (by decide) cal114 (by simp) ?_ ?_ ?_ ?_
  · refine wpI_sound (by kernel_rfl) ?_
    simp only [wpA_region, endI_mk, goI_out, goI_ops, opsA_nil, opsA_cons, stepA_alloc, stepA_box, thenH_some, eval_tmp, put_some, enterF_zero, enterF_succ, cells_agg, aAlloc_eq, aBox_eq, push_n, Nat.reduceEqDiff, Option.map_some, true_and, if_false, zc_2, zc_32, hc]
    rw [← hH]
    refine wpI_sound (by kernel_rfl) ?_
    simp only [wpA_region, wpA_seq, goI_ops, opsA_cons, stepA_load, stepA_call, thenV_some, eval_tmp, put_some, enterF_succ, aLoad_eq, aPlace_ptr, Nat.reduceEqDiff, List.map_cons, List.map_nil, if_true, if_false, lt_27, g3, hdr, hld]
    refine callI_pure cal104 (pMay e H gH) ?_
    cases hm : mayX e with
    | false =>
      simp only [wpA_region, wpA_seq, wpA_cond, wpA_ret, condI_true, seqQ_normal, endI_mk, goI_out, goI_ops, opsA_nil, opsA_cons, stepA_store, stepA_unOp, thenV_some, thenS_some, eval_tmp, eval_const, put_some, put_none, enterF_zero, enterF_succ, aUn_not, absV_int, cells_int, one_int, all_nil, all_cons, aLoad_eq, loadGo_one, aPlace_ptr, dropC_cells, aStore_eq, storeGo_ptr, setC_row, setAll_nil, setAll_cons, get_set_same, Bool.false_eq_true, Nat.reduceEqDiff, reduceCtorEq, Option.map_some, Nat.zero_add, Nat.zero_le, List.length_cons, List.length_nil, List.drop_zero, List.set_cons_zero, true_and, if_true, if_false, Bool.and_self, Bool.not_false, Nat.le_refl, lt_2, lt_32, zt_2, zt_32, g6, g7', endsV, Tryz.results59, resultsC_2, resultA_cell, res2_some, g6']
      exact .inl (kS _ _)
    | true =>
      simp only [wpA_skip, wpA_cond, condI_false, seqQ_normal, endI_mk, goI_out, goI_ops, opsA_nil, opsA_cons, stepA_unOp, thenV_some, eval_tmp, put_some, enterF_zero, enterF_succ, aUn_not, Nat.reduceEqDiff, reduceCtorEq, and_self, if_true, if_false, Bool.not_true]
      refine .inr ?_
      trivial
  · rintro f h' ⟨hm, f2, f3, f4, f6, f7, rfl⟩
    refine wpI_sound (by kernel_rfl) ?_
    have hok : okX 16 e := by
      unfold mayX at hm
      obtain ⟨c, hc⟩ := Option.isSome_iff_exists.1 hm
      exact ⟨64, c, hc⟩
    simp only [wpA_region, wpA_seq, goI_ops, opsA_cons, stepA_move, stepA_load, stepA_call, thenV_some, eval_tmp, put_some, aLoad_eq, loadGo_row, aPlace_ptr, dropC_cells, Nat.reduceEqDiff, Nat.reduceAdd, List.map_cons, List.map_nil, Nat.zero_add, Nat.zero_le, List.length_cons, List.length_nil, List.drop_zero, List.take_succ_cons, List.take_nil, if_true, if_false, Nat.le_refl, lt_27, lt_38, f2, f3, f4, g3, g4, hdr, hld]
    refine callI_ofE cal115 (eValue rk rv rt acc 16 e h' hok) (fun r h2 ⟨e1, e2⟩ => ?_) (fun h2 ⟨e1, e2⟩ => ?_)
    · subst e2
      obtain ⟨n, hn, rfl⟩ := Option.map_eq_some_iff.1 e1
      simp only [wpA_ret, seqQ_normal, endI_mk, goI_out, goI_ops, opsA_nil, opsA_cons, stepA_store, thenS_some, eval_tmp, eval_const, put_some, put_none, absV_int, cells_int, one_int, all_nil, all_cons, aStore_eq, storeGo_ptr, setC_row, setAll_nil, setAll_cons, Nat.reduceEqDiff, reduceCtorEq, Option.map_some, Nat.zero_add, List.length_cons, List.length_nil, List.set_cons_zero, true_and, if_true, if_false, Bool.and_self, Nat.le_refl, zt_2, zt_32, f6, f7, g6, g7']
      exact .inl ⟨.inl trivial, n, hn, hm, rfl⟩
    · subst e1
      have : valF rk rv rt acc 16 e = none := by simpa [iV] using e2
      simp only [seqQ_panic, endI_mk, excE_out, excE_ops, put_some, Nat.reduceEqDiff, reduceCtorEq, and_true, true_and, and_self, if_false, f6, f7]
      exact .inr ⟨this, hm⟩
  · rintro vx vy f h' ⟨n, hn, hm, f6, f7, rfl⟩
    refine dDefR ?_
    simp only [aLoad_eq, loadGo_one, aPlace_ptr, dropC_cells, get_set_same, Nat.zero_add, Nat.zero_le, List.length_cons, List.length_nil, List.drop_zero, if_true, lt_2, lt_32, endsV, Tryz.results59, resultsC_2, resultA_cell, res2_some, f6, f7, g6']
    exact ⟨by simp [hm, hn], kS _ _⟩
  · rintro vx vy f h' ⟨hn, hm, rfl, rfl, f6, f7, rfl⟩
    refine dDefP g6 g7 (by omega) ?_
    simp only [aLoad_eq, loadGo_one, aPlace_ptr, dropC_cells, get_set_same, Nat.zero_add, Nat.zero_le, List.length_cons, List.length_nil, List.drop_zero, if_true, lt_2, lt_32, endsV, Tryz.results59, resultsC_2, resultA_cell, res2_some, f6, f7, g6']
    exact ⟨by simp [hm, hn], kS _ _⟩
end Go.Proofs.YtedkjhifbibpmaaGreatDoor.Pk
namespace Go.Proofs.YtedkjhifbibpmaaGreatDoor.Pk
open Go Go.Proofs Go.Proofs.YtedkjhifbibpmaaGreatDoor.Ab
set_option linter.unusedVariables false
set_option linter.unusedSimpArgs false
theorem Cast.agg {l l2 : List V} {h h2 : AHeap} (a : CastL l h l2 h2) : Cast (.agg l) h (.agg l2) h2 := fun ρ B w0 w r' hw hv => by
  cases hv with
  | agg hs hx =>
    rename_i xs
    obtain ⟨ρ1, l1, w1, v1⟩ := a ρ B w0 w xs.toList hw ⟨by simpa using hs, by simpa using hx⟩
    exact ⟨ρ1, l1, w1, v1.arr'.agg⟩
theorem castE0 (o n : Int) (h : AHeap) : Cast (.agg [.int .i64 o, .int .i64 n, .snil]) h (.agg (encE (.mk o n []))) h := by
  rw [encE_eq]
  exact Pk.Cast.agg (CastL.skip (CastL.skip (CastL.last (Cast.nil0 h))))
theorem castE {h : AHeap} {v : V} {ks : List Ex} (o n : Int) (ho : Own h 27 3 v (ks.flatMap encE)) : ∃ h2, Cast (.agg [.int .i64 o, .int .i64 n, v]) h (.agg (encE (.mk o n ks))) h2 ∧ Keep h h2 (isId v) := by
  obtain ⟨h2, c, k⟩ := Cast.own (n := ks.length) ho (rows_len encE_len ks) (by decide)
  refine ⟨h2, ?_, k⟩
  rw [encE_eq]
  exact Pk.Cast.agg (CastL.cons (Cast.refl _ _) (CastL.cons (Cast.refl _ _) (CastL.cons c (CastL.refl _ _))))
theorem KG.keep {h h' : AHeap} {M : Nat → Prop} (hg : KG h) (hk : Keep h h' M) : KG h' := by unfold KG; rw [hk.glob]; exact hg
theorem KG.or {h hs h' : AHeap} {M : Nat → Prop} (hg : KG hs) (hg2 : KG h) (hk : Keep hs h' M ∨ h' = h) : KG h' := by
  rcases hk with hk | rfl
  · exact hg.keep hk
  · exact hg2

/-! ### How many, and which operations -/
/-- All lists of kids are shorter than memory. -/
inductive OkE : Ex → Prop
  | mk (o n : Int) (l : List Ex) (hl : l.length < 2 ^ 47) (h : ∀ k ∈ l, OkE k) (ho : -2 ^ 63 ≤ o ∧ o < 2 ^ 63) (hn : -2 ^ 63 ≤ n ∧ n < 2 ^ 63) : OkE (.mk o n l)
theorem OkE.len {e : Ex} (h : OkE e) : e.ks.length < 2 ^ 47 := by cases h; assumption
theorem OkE.kid {e : Ex} (h : OkE e) : ∀ k ∈ e.ks, OkE k := by cases h; assumption
mutual
def szE : Ex → Nat
  | .mk _ _ l => szL l + 1
def szL : List Ex → Nat
  | [] => 0
  | k :: r => szE k + szL r
end
theorem szL_drop {l : List Ex} {i : Nat} (hi : i < l.length) : szL (l.take (i + 1)) = szL (l.take i) + szE l[i] := by
  induction l generalizing i with
  | nil => simp at hi
  | cons a r ih =>
    cases i with
    | zero => simp [szL]
    | succ i => simp only [List.take_succ_cons, szL, List.getElem_cons_succ]; rw [ih (by simpa using hi)]; omega
theorem szE_kid {e : Ex} : ∀ k ∈ e.ks, szE k < szE e := by
  obtain ⟨o, n, l⟩ := e
  have : ∀ (l : List Ex) (k : Ex), k ∈ l → szE k ≤ szL l := fun l => by
    induction l with
    | nil => intro k hk; simp at hk
    | cons a r ih =>
      intro k hk
      rcases List.mem_cons.1 hk with rfl | hk
      · simp [szL]
      · have := ih k hk; simp only [szL]; omega
  intro k hk
  have := this l k hk
  simp only [szE]; omega
end Go.Proofs.YtedkjhifbibpmaaGreatDoor.Pk
namespace Go.Proofs.YtedkjhifbibpmaaGreatDoor.Pk
open Go Go.Proofs Go.Proofs.YtedkjhifbibpmaaGreatDoor.Ab
set_option linter.unusedVariables false
set_option linter.unusedSimpArgs false
/-! ### The document's answer: which may be -/
def kidsR (o : Int) : Int := if o ≤ 5 then 0 else if o = 14 then 1 else if o = 13 then 3 else 2
theorem kidsR_eq {o : Int} (h1 : 1 ≤ o) (h2 : o ≤ 16) : kidsN.getD o.toNat 0 = kidsR o := by
  obtain ⟨k, rfl⟩ : ∃ k : Nat, o = k := ⟨o.toNat, by omega⟩
  have hk : k < 17 := by omega
  simp only [Int.toNat_natCast]
  have : ∀ k : Nat, k < 17 → 1 ≤ k → kidsN.getD k 0 = kidsR (k : Int) := by decide
  exact this k hk (by omega)
def deepX : Nat → Ex → Bool
  | 0, _ => false
  | n + 1, e => fitsX e && e.ks.all (deepX n)

/-! The two agree. -/
theorem szE_pos (e : Ex) : 1 ≤ szE e := by cases e; simp [szE]
theorem cnt_eq : ∀ (l room : Nat) (e : Ex), cnt l room e = if deepX l e = true ∧ szE e ≤ room then some (szE e) else none
  | 0, room, e => by simp [cnt, deepX]
  | l + 1, room, .mk o n ks => by
    have hL : ∀ (ks : List Ex) (m : Nat), 1 ≤ m → cntL (cnt l) room m ks = if ks.all (deepX l) = true ∧ m + szL ks ≤ room ∨ ks = [] then some (m + szL ks) else none := by
      intro ks
      induction ks with
      | nil => intro m hm; simp [cntL, szL]
      | cons k r ih =>
        intro m hm
        have hp := szE_pos k
        unfold cntL
        rw [cnt_eq l (room - m) k]
        by_cases hd : deepX l k = true
        · by_cases hs : szE k ≤ room - m
          · rw [if_pos ⟨hd, hs⟩]
            simp only
            rw [ih _ (by omega)]
            cases r with
            | nil => simp [szL, hd]; omega
            | cons a r =>
              simp only [List.all_cons, hd, Bool.true_and, szL, reduceCtorEq, or_false]
              by_cases hq : (deepX l a && r.all (deepX l)) = true ∧ m + szE k + (szE a + szL r) ≤ room
              · rw [if_pos hq, if_pos ⟨hq.1, by omega⟩]; congr 1; omega
              · rw [if_neg hq, if_neg (fun hh => hq ⟨hh.1, by omega⟩)]
          · rw [if_neg (fun hh => hs hh.2)]
            simp only [List.all_cons, szL, reduceCtorEq, or_false]
            rw [if_neg (fun hh => by omega)]
        · rw [if_neg (fun hh => hd hh.1)]
          simp only [List.all_cons, reduceCtorEq, or_false]
          rw [if_neg (fun hh => by simp [hd] at hh)]
    have hdeep : deepX (l + 1) (.mk o n ks) = (fitsX (.mk o n ks) && ks.all (deepX l)) := rfl
    have hsz : szE (.mk o n ks) = szL ks + 1 := by simp [szE]
    have hcnt : cnt (l + 1) room (.mk o n ks) = if room = 0 ∨ fitsX (.mk o n ks) = false then none else cntL (cnt l) room 1 ks := rfl
    rw [hcnt]
    by_cases h0 : room = 0
    · rw [if_pos (.inl h0), if_neg (fun hh => by omega)]
    · cases hf : fitsX (.mk o n ks) with
      | false => rw [if_pos (.inr rfl), if_neg (fun hh => by rw [hdeep, hf] at hh; simp at hh)]
      | true =>
        rw [if_neg (by simp [h0]), hL ks 1 (Nat.le_refl _)]
        rw [hf, Bool.true_and] at hdeep
        cases ks with
        | nil => rw [if_pos (.inr rfl), if_pos ⟨by rw [hdeep]; rfl, by rw [hsz]; simp [szL]; omega⟩, hsz]; rfl
        | cons a r =>
          by_cases hq : (a :: r).all (deepX l) = true ∧ 1 + szL (a :: r) ≤ room
          · rw [if_pos (.inl hq), if_pos ⟨by rw [hdeep]; exact hq.1, by rw [hsz]; omega⟩, hsz]; congr 1; omega
          · rw [if_neg (by simp only [reduceCtorEq, or_false]; exact hq), if_neg (fun hh => hq ⟨by rw [← hdeep]; exact hh.1, by rw [hsz] at hh; omega⟩)]
end Go.Proofs.YtedkjhifbibpmaaGreatDoor.Pk
