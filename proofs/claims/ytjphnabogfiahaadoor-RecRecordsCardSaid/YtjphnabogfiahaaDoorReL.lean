/-
  What functions of the program do, told of abstract states. Conditions: as each theorem says.
-/
import Derived.Test.YtjphnabogfiahaaDoorReI
import Derived.Laws.Strings
namespace Go.Proofs.YtjphnabogfiahaaDoor.Pk
open Go Go.Proofs Go.Proofs.YtjphnabogfiahaaDoor.Ab
set_option linter.unusedVariables false
set_option linter.unusedSimpArgs false

theorem strB_list (l : List Nat) : (strB l).toList = l.map fun n => UInt8.ofNat n := by
  rw [ByteArray.toList_eq, strB, strOfNums_data, List.map_map]
  rfl
theorem strB_eq {a b : List Nat} (ha : ∀ n ∈ a, n < 256) (hb : ∀ n ∈ b, n < 256) : ((strB a).toList == (strB b).toList) = decide (a = b) := by
  rw [strB_list, strB_list, Bool.eq_iff_iff]
  simp only [beq_iff_eq, decide_eq_true_eq]
  refine ⟨fun h => ?_, fun h => by rw [h]⟩
  have h2 := congrArg (List.map UInt8.toNat) h
  rw [List.map_map, List.map_map] at h2
  have e : ∀ l : List Nat, (∀ n ∈ l, n < 256) → l.map (UInt8.toNat ∘ fun n => UInt8.ofNat n) = l := fun l hl => by
    conv => rhs; rw [← List.map_id l]
    refine List.map_congr_left fun n hn => ?_
    have := hl n hn
    simp
    omega
  rw [e a ha, e b hb] at h2
  exact h2
theorem encR_lt (r : Rcd) : ∀ b ∈ encR r, b < 256 := flat_lt _
theorem entD_in {bs : List Nat} (hb : ∀ b ∈ bs, b < 256) : eIn (entD bs).1 ∧ eLen (entD bs).1 := by
  by_cases h : (entD bs).2 = 0
  · obtain ⟨_, hm, hr⟩ := entD_back hb h
    obtain ⟨hk, h1, h2, h3, h4, _, o1, o2, r1, r2, _⟩ := (may_iff _).1 hm
    rw [fit_iff] at h1 h2 h3 h4
    refine ⟨⟨⟨by omega, by omega⟩, ⟨by omega, by omega⟩, ⟨by omega, by omega⟩, ⟨by omega, by omega⟩, ⟨by omega, by omega⟩, hr, fun n hn => ?_, fun n hn => ?_⟩, by omega, by omega⟩
    · have := (fit_iff n).1 (o2 n hn); exact ⟨by omega, by omega⟩
    · have := (fit_iff n).1 (r2 n hn); exact ⟨by omega, by omega⟩
  · have : (entD bs).1 = zE := by
      rw [entD_eq] at h ⊢
      split
      · rfl
      · rename_i he
        rw [if_neg he] at h
        split
        · rfl
        · rename_i h2; rw [if_neg h2] at h; exact absurd rfl h
    rw [this]
    exact ⟨⟨by constructor <;> decide, by constructor <;> decide, by constructor <;> decide, by constructor <;> decide, by constructor <;> decide, ⟨by constructor <;> decide, by constructor <;> decide, by constructor <;> decide⟩, by simp [zE], by simp [zE]⟩, by decide, by decide⟩

set_option maxHeartbeats 2000000 in
set_option maxRecDepth 10000 in
theorem recOnes (bs : List Nat) (hb : ∀ b ∈ bs, b < 256) (hc : bs.length ≤ 2 ^ 47) (h : AHeap) (hu : KU h) : SCalls Tryd.prog 6 [.imm bs.length (bytesV bs)] h (fun r h' => r = .bool true) := by
  refine SCalls.enterI (c := _) Tryd.func6 rfl (by kernel_rfl) (by simp) ?_
  simp only [wpA_region, wpA_seq, seqQ_normal, goI_out, goI_ops, opsA_nil, opsA_cons, stepA_assign, stepA_call, eval_const, absV_bool, List.map_nil]
  refine callI_pure cal9 (pShown3 _ hu) ?_
  simp only [wpA_region, wpA_seq, seqQ_normal, goI_out, goI_ops, opsA_nil, opsA_cons, stepA_move, stepA_assign, stepA_call, eval_tmp, put_some, enterF_zero, enterF_succ, Nat.reduceEqDiff, reduceCtorEq, List.map_cons, List.map_nil, if_true, if_false]
  refine callI_pure cal10 (pToRecord _ bs _ (Rd.imm _ _) hb hc) ?_
  have hcr : ∀ x : Rcd, (V.agg (rcdE x)).cells = some [.int .i64 x.k, .int .i64 x.v, .int .i64 x.t] := fun _ => rfl
  have hce : ∀ x : Ent, (V.agg (entE x)).cells = some (entE x) := fun _ => rfl
  have hst : ∀ x : Ent, setC (some 11) (AObj.cells [.int .i64 0, .int .i64 0, .int .i64 0, .int .i64 0, .int .i64 0, .int .i64 0, .int .i64 0, .int .i64 0, .bool false, .snil, .snil] 35 none) 0 (entE x) = some (.cells (entE x) 35 none) := fun x => rfl
  simp only [wpA_region, wpA_seq, seqQ_normal, goI_out, goI_ops, opsA_nil, opsA_cons, stepA_move, stepA_assign, stepA_alloc, stepA_store, stepA_extract, stepA_call, thenV_some, thenH_some, thenS_some, extV_zero, extV_succ, eval_tmp, put_some, put_none, enterF_zero, enterF_succ, one_int, all_nil, all_cons, aStore_eq, storeGo_ptr, setC_row, setAll_nil, setAll_cons, aAlloc_eq, get_push_new, set_push, Nat.reduceEqDiff, Nat.reduceAdd, reduceCtorEq, List.map_cons, List.map_nil, Option.map_some, Nat.zero_add, List.length_cons, List.length_nil, List.set_cons_zero, List.set_cons_succ, if_true, if_false, Bool.and_self, Nat.le_refl, zc_23, zt_23, hcr]
  refine callI_pure cal16 (pToEntry _ bs _ hu (Rd.imm _ _) hb hc) ?_
  simp only [wpA_seq, wpA_draw, seqQ_normal, goI_out, goI_ops, opsA_nil, opsA_cons, stepA_move, stepA_assign, stepA_alloc, stepA_store, stepA_extract, thenV_some, thenH_some, thenS_some, extV_zero, extV_succ, eval_tmp, put_some, put_none, enterF_succ, aStore_eq, storeGo_ptr, aAlloc_eq, push_n, get_push2, set_push2, Nat.reduceEqDiff, Option.map_some, if_true, if_false, zc_35, zt_35, hce, hst]
  obtain ⟨H, hH⟩ : ∃ y, y = (h.push (.cells [.int .i64 (recD bs).1.k, .int .i64 (recD bs).1.v, .int .i64 (recD bs).1.t] 23 none)).push (.cells (entE (entD bs).1) 35 none) := ⟨_, rfl⟩
  have g0 : H.get h.n = .cells [.int .i64 (recD bs).1.k, .int .i64 (recD bs).1.v, .int .i64 (recD bs).1.t] 23 none := by rw [hH]; exact get_push2'
  have g1 : H.get (h.n + 1) = .cells (entE (entD bs).1) 35 none := by rw [hH]; exact get_push2
  have kH : Keep h H none_ := by rw [hH]; exact (Keep.push _ _ _).then_push _
  have uH : KU H := by unfold KU; rw [kH.glob]; exact hu
  rw [← hH]
  clear hH
  have ent : ∀ (f : AFrame), True := fun _ => trivial
  have hdr : dropC (AObj.cells (entE (entD bs).1) 35 none) 0 = some (entE (entD bs).1) := rfl
  have hld : (if 11 ≤ (entE (entD bs).1).length then some (V.agg (List.take 11 (entE (entD bs).1))) else none) = some (.agg (entE (entD bs).1)) := rfl
  have hin := entD_in hb
  refine SWp.drawnS none_ [] (.q 0 (.q 1 (.q 2 (.q 3 (.c 4 (.q 5 (.q 6 (.q 7 (.q 8 (.q 9 .done)))))))))) (by kernel_rfl) (by kernel_rfl) (by kernel_rfl) ?_
  by_cases h1 : (recD bs).2 = 0
  rotate_left
  · have c1 : ((((recD bs).2 : Nat) : Int) == 0) = false := by simp; omega
    simp only [siI_q, sqI_some, mOk_none', implies_true, qI_nil, qI_cons, qI_guard, qgI_ft, thenQ_some, q_move, q_binOp, goI_mk, slotAt_zero, slotAt_succ, eval_tmp, eval_const, put_some, put_none, enterF_succ, aBin_eql, absV_int, List.getElem?_cons_zero, List.getElem?_cons_succ, Nat.reduceEqDiff, true_and, if_true, if_false, c1]
    refine siI_cskip rfl rfl ?_
    simp only [siI_done, siI_q, sqI_some, mOk_none', implies_true, qI_nil, qI_cons, qI_guard, qgI_ft, thenQ_some, q_pick, wpA_skip, wpA_region, wpA_seq, wpA_cond, condI_false, seqQ_normal, goI_out, goI_ops, goI_mk, opsA_nil, opsA_cons, slotAt_zero, slotAt_succ, stepA_move, stepA_binOp, thenV_some, pickV_false, eval_tmp, eval_const, put_some, put_none, enterF_succ, aBin_eql, absV_int, absV_bool, List.getElem?_cons_zero, List.getElem?_cons_succ, Nat.reduceEqDiff, true_and, if_true, if_false]
    by_cases h2 : (entD bs).2 = 0
    rotate_left
    · have c2 : ((((entD bs).2 : Nat) : Int) == 0) = false := by simp; omega
      simp only [wpA_skip, wpA_region, wpA_seq, wpA_ret, condI_false, seqQ_normal, endI_mk, goI_out, goI_ops, opsA_nil, opsA_cons, stepA_move, stepA_assign, eval_tmp, put_some, put_none, enterF_succ, Nat.reduceEqDiff, if_true, if_false, c2, retA_ret, Tryd.results6, resultsA_1]
      exact hid_mk rfl
    have c2 : ((((entD bs).2 : Nat) : Int) == 0) = true := by simp [h2]
    obtain ⟨b1, b2, b3⟩ := entD_back hb h2
    have e1 : encV (entD bs).1 = bs := by rw [encV, if_pos b2, b1]
    have e2 : codeV (entD bs).1 = 0 := by rw [codeV, if_pos b2]
    simp only [wpA_region, wpA_seq, condI_true, goI_ops, opsA_cons, stepA_load, stepA_call, thenV_some, eval_tmp, put_some, put_none, enterF_succ, aLoad_eq, loadGo_row, aPlace_ptr, Nat.reduceEqDiff, List.map_cons, List.map_nil, if_true, if_false, lt_35, c2, g1, hdr, hld]
    refine callI_pure cal14 (pEntry _ H uH hin.1 hin.2) ?_
    rw [e1, e2]
    simp only [wpA_region, wpA_seq, seqQ_normal, goI_out, goI_ops, opsA_nil, opsA_cons, opsA_guardS, gvI_same, slotAt_zero, slotAt_succ, stepA_move, stepA_assign, stepA_pick, stepA_load, stepA_binOp, stepA_convert, stepA_extract, stepA_call, thenV_some, pickV_true, extV_zero, extV_succ, eval_tmp, eval_const, put_some, put_none, enterF_zero, enterF_succ, aBin_eql, aBin_str_eql, absV_int, absV_bool, aLoad_eq, loadGo_row, aPlace_ptr, beq_self_eq_true, Nat.reduceEqDiff, reduceCtorEq, List.map_cons, List.map_nil, if_true, if_false, lt_35, g1, hdr, hld, convB]
    refine callI_pure cal19 (pMay _ H uH hin.2) ?_
    rw [b2]
    simp only [wpA_ret, seqQ_normal, seqQ_ret, endI_mk, goI_out, goI_ops, opsA_nil, opsA_cons, stepA_assign, stepA_pick, thenV_some, pickV_true, eval_tmp, eval_const, put_some, put_none, enterF_succ, absV_bool, Nat.reduceEqDiff, if_true, if_false, retA_ret, Tryd.results6, resultsA_1]
    exact hid_mk rfl
  have c1 : ((((recD bs).2 : Nat) : Int) == 0) = true := by simp [h1]
  obtain ⟨a1, a2⟩ := recD_back hb h1
  simp only [siI_q, sqI_some, mOk_none', implies_true, qI_nil, qI_cons, qI_guard, qgI_same, thenQ_some, q_move, q_load, q_binOp, goI_mk, slotAt_zero, slotAt_succ, eval_tmp, eval_const, put_some, put_none, enterF_succ, aBin_eql, absV_int, aLoad_eq, loadGo_row, aPlace_ptr, dropC_cells, List.getElem?_cons_zero, List.getElem?_cons_succ, Nat.reduceEqDiff, Nat.reduceAdd, Nat.zero_add, Nat.zero_le, List.length_cons, List.length_nil, List.drop_zero, List.take_succ_cons, List.take_nil, true_and, if_true, if_false, Nat.le_refl, lt_23, c1, g0]
  refine siI_c rfl rfl rfl (fun h' _ => pRecord (recD bs).1 h' a2) ?_
  rw [a1]
  simp only [siI_done, siI_q, sqI_some, mOk_none', implies_true, qI_nil, qI_cons, qI_guard, qgI_same, thenQ_some, q_move, q_pick, q_binOp, q_convert, wpA_skip, wpA_region, wpA_seq, wpA_cond, condI_false, seqQ_normal, goI_out, goI_ops, goI_mk, opsA_nil, opsA_cons, slotAt_zero, slotAt_succ, stepA_move, stepA_binOp, thenV_some, pickV_true, eval_tmp, eval_const, put_some, put_none, enterF_zero, enterF_succ, aBin_eql, aBin_str_neq, absV_int, absV_bool, List.getElem?_cons_zero, List.getElem?_cons_succ, beq_self_eq_true, Nat.reduceEqDiff, reduceCtorEq, true_and, if_true, if_false, Bool.not_true, convB]
  by_cases h2 : (entD bs).2 = 0
  rotate_left
  · have c2 : ((((entD bs).2 : Nat) : Int) == 0) = false := by simp; omega
    simp only [wpA_skip, wpA_region, wpA_seq, wpA_ret, condI_false, seqQ_normal, endI_mk, goI_out, goI_ops, opsA_nil, opsA_cons, stepA_move, stepA_assign, eval_tmp, put_some, put_none, enterF_succ, Nat.reduceEqDiff, if_true, if_false, c2, retA_ret, Tryd.results6, resultsA_1]
    exact hid_mk rfl
  have c2 : ((((entD bs).2 : Nat) : Int) == 0) = true := by simp [h2]
  obtain ⟨b1, b2, b3⟩ := entD_back hb h2
  have e1 : encV (entD bs).1 = bs := by rw [encV, if_pos b2, b1]
  have e2 : codeV (entD bs).1 = 0 := by rw [codeV, if_pos b2]
  simp only [wpA_region, wpA_seq, condI_true, goI_ops, opsA_cons, stepA_load, stepA_call, thenV_some, eval_tmp, put_some, put_none, enterF_succ, aLoad_eq, loadGo_row, aPlace_ptr, Nat.reduceEqDiff, List.map_cons, List.map_nil, if_true, if_false, lt_35, c2, g1, hdr, hld]
  refine callI_pure cal14 (pEntry _ H uH hin.1 hin.2) ?_
  rw [e1, e2]
  simp only [wpA_region, wpA_seq, seqQ_normal, goI_out, goI_ops, opsA_nil, opsA_cons, opsA_guardS, gvI_same, slotAt_zero, slotAt_succ, stepA_move, stepA_assign, stepA_pick, stepA_load, stepA_binOp, stepA_convert, stepA_extract, stepA_call, thenV_some, pickV_true, extV_zero, extV_succ, eval_tmp, eval_const, put_some, put_none, enterF_zero, enterF_succ, aBin_eql, aBin_str_eql, absV_int, absV_bool, aLoad_eq, loadGo_row, aPlace_ptr, beq_self_eq_true, Nat.reduceEqDiff, reduceCtorEq, List.map_cons, List.map_nil, if_true, if_false, lt_35, g1, hdr, hld, convB]
  refine callI_pure cal19 (pMay _ H uH hin.2) ?_
  rw [b2]
  simp only [wpA_ret, seqQ_normal, seqQ_ret, endI_mk, goI_out, goI_ops, opsA_nil, opsA_cons, stepA_assign, stepA_pick, thenV_some, pickV_true, eval_tmp, eval_const, put_some, put_none, enterF_succ, absV_bool, Nat.reduceEqDiff, if_true, if_false, retA_ret, Tryd.results6, resultsA_1]
  exact hid_mk rfl
end Go.Proofs.YtjphnabogfiahaaDoor.Pk
