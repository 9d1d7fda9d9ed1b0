/-
  What functions of the program do, told of abstract states. Conditions: as each theorem says.
-/
import Derived.Test.YtjphnabogfiahaaDoorReT
namespace Go.Proofs.YtjphnabogfiahaaDoor.Pk
open Go Go.Proofs Go.Proofs.YtjphnabogfiahaaDoor.Ab
set_option linter.unusedVariables false
set_option linter.unusedSimpArgs false

def negN (n : Nat) : Int := if n ≤ 1048576 then (n : Int) else -1
def entN (l : List Nat) (o r : List Int) : Ent := ⟨negN (l.getD 0 0), negN (l.getD 1 0), negN (l.getD 2 0), negN (l.getD 3 0), negN (l.getD 4 0), ⟨unz (l.getD 5 0), unz (l.getD 6 0), unz (l.getD 7 0)⟩, l.getD 8 0 == 1, o, r⟩
theorem negN_ge {n : Nat} (h : 0 ≤ negN n) : negN n = (n : Int) ∧ n ≤ 1048576 := by unfold negN at *; split at h <;> simp_all
theorem entN_eq {l : List Nat} {o r : List Int} (h : mayB (entN l o r) = true) : entN l o r = entOf l o r := by
  obtain ⟨hk, h1, h2, h3, h4, _⟩ := (may_iff _).1 h
  simp only [entN, fit_iff] at hk h1 h2 h3 h4
  simp only [entN, entOf, Ent.mk.injEq, and_true]
  exact ⟨(negN_ge (by omega)).1, (negN_ge h1.1).1, (negN_ge h2.1).1, (negN_ge h3.1).1, (negN_ge h4.1).1⟩
theorem entOf_eqN {l : List Nat} {o r : List Int} (h : mayB (entOf l o r) = true) : entN l o r = entOf l o r := by
  obtain ⟨hk, h1, h2, h3, h4, _⟩ := (may_iff _).1 h
  simp only [entOf, fit_iff] at hk h1 h2 h3 h4
  simp only [entN, entOf, Ent.mk.injEq, and_true]
  unfold negN
  exact ⟨if_pos (by omega), if_pos (by omega), if_pos (by omega), if_pos (by omega), if_pos (by omega)⟩
theorem entN_may {l : List Nat} {o r : List Int} : mayB (entN l o r) = mayB (entOf l o r) := by
  rw [Bool.eq_iff_iff]
  refine ⟨fun h => ?_, fun h => ?_⟩
  · rw [← entN_eq h]; exact h
  · rw [entOf_eqN h]; exact h
theorem entD_eqN (bs : List Nat) : entD bs = if errE bs ≠ 0 then (zE, errE bs)
    else if (ordQ bs).2.1 ≠ [] ∨ 1 < (nums 9 bs []).1.getD 8 0 ∨ mayB (entN (nums 9 bs []).1 (offsQ bs).1 (ordQ bs).1) = false then (zE, 5) else (entN (nums 9 bs []).1 (offsQ bs).1 (ordQ bs).1, 0) := by
  rw [entD_eq, entN_may, ← entC_may]
  by_cases h : errE bs ≠ 0
  · rw [if_pos h, if_pos h]
  rw [if_neg h, if_neg h]
  by_cases h4 : (ordQ bs).2.1 ≠ [] ∨ 1 < (nums 9 bs []).1.getD 8 0 ∨ mayB (entC (nums 9 bs []).1 (offsQ bs).1 (ordQ bs).1) = false
  · rw [if_pos h4, if_pos h4]
  · rw [if_neg h4, if_neg h4]
    have hm : mayB (entC (nums 9 bs []).1 (offsQ bs).1 (ordQ bs).1) = true := by
      cases hh : mayB (entC (nums 9 bs []).1 (offsQ bs).1 (ordQ bs).1) with
      | true => rfl
      | false => exact absurd (.inr (.inr hh)) h4
    rw [entC_eq hm, entOf_eqN (by rw [← entC_may]; exact hm)]
set_option maxHeartbeats 4000000 in
set_option maxRecDepth 10000 in
theorem rToEntry (bs : List Nat) (h : AHeap) (hb : ∀ b ∈ bs, b < 256) (hc : bs.length ≤ 2 ^ 47) :
    Pure Tryd.prog 17 [.imm bs.length (bytesV bs)] h (.tuple [.agg (entE (entD bs).1), .int .i64 ((entD bs).2 : Nat)]) := by
  refine Pure.of (Clo.tuple (CloL.cons (Clo.agg (entE_clo _)) (CloL.cons (Clo.int _ _) CloL.nil))) ?_
  refine SCalls.enterI (c := _) Tryd.func17 rfl (by kernel_rfl) (by simp) ?_
  simp only [wpA_region, wpA_seq, wpA_block, wpA_loop, seqQ_normal, goI_out, goI_ops, opsA_nil, opsA_cons, stepA_move, stepA_assign, stepA_alloc, thenH_some, eval_tmp, eval_const, put_some, enterF_zero, enterF_succ, absV_int, absV_snil, aAlloc_eq, Int.reduceNeg, Nat.reduceEqDiff, reduceCtorEq, Option.map_some, if_true, if_false, zc_35]
  obtain ⟨H, hH⟩ : ∃ y, y = h.push (.cells zeroS 35 none) := ⟨_, rfl⟩
  have g0 : H.get h.n = .cells zeroS 35 none := by rw [hH]; exact get_push_new
  have kH : Keep h H none_ := by rw [hH]; exact Keep.push _ _ _
  have nH : H.n = h.n + 1 := by rw [hH]; rfl
  unfold zeroS at hH
  rw [← hH]
  clear hH
  have hN : nums 9 bs [] = if (nums 5 bs []).2.2 = 0 then nums 4 (nums 5 bs []).2.1 (nums 5 bs []).1 else ([], [], (nums 5 bs []).2.2) := nums_split 4 5 bs []
  refine SWp.loopG (α := Nat × List Nat × List Nat × V) (fun x f h' => f 2 = .ptr h.n 0 ∧ f 4 = x.2.2.2 ∧ f 5 = .imm x.2.2.1.length (bytesV x.2.2.1) ∧ f 6 = .int .i64 (x.1 : Nat) ∧ x.1 ≤ 5 ∧ x.2.1.length = x.1 ∧
      Acc H h' 3 1 x.2.2.2 (i64V (x.2.1.map negN)) ∧
      nums (5 - x.1) x.2.2.1 x.2.1 = nums 5 bs [] ∧ x.2.2.1.length ≤ bs.length ∧ ∀ b ∈ x.2.2.1, b < 256) (fun x => 5 - x.1) (0, [], bs, .snil)
    ⟨rfl, rfl, rfl, rfl, Nat.zero_le _, rfl, Acc.nil (Keep.refl _ _), rfl, Nat.le_refl _, hb⟩ ?_
  rintro ⟨k, acc, rest, v⟩ f h1 ⟨f2, f4, f5, f6, hk, ha, hacc, hnu, hl, hb2⟩
  simp only at f4 f5 f6 hk ha hacc hnu hl hb2
  refine wpI_sound (by kernel_rfl) ?_
  have q0 := (hacc.keep.get h.n (by omega) (by simp [none_])).trans g0
  have kk := kH.trans' hacc.keep
  have n1 := hacc.keep.n
  have q0p : ∀ o, (h1.push o).get h.n = _ := fun o => (get_push_lt (by omega)).trans q0
  have hzs : setC (some 11) (AObj.cells zeroS 35 none) 0 zeroS = some (.cells zeroS 35 none) := rfl
  have hzl : (if 11 ≤ zeroS.length then some (V.agg (zeroS.take 11)) else none) = some (.agg zeroS) := rfl
  have nz : ∀ n : Nat, (((n : Nat) : Int) != 0) = !decide (n = 0) := fun n => by rw [Bool.eq_iff_iff]; simp
  by_cases hlast : k < 5
  · have d1 : decide ((k : Int) < 5) = true := decide_eq_true (by omega)
    have hw := inc64 hlast (by omega)
    simp only [wpA_skip, wpA_region, wpA_seq, wpA_cond, wpA_block, condI_true, seqQ_normal, goI_out, goI_ops, opsA_nil, opsA_cons, stepA_move, stepA_binOp, stepA_call, thenV_some, eval_tmp, eval_const, put_some, aBin_lss, absV_int, Int.reduceNeg, Nat.reduceEqDiff, List.map_cons, List.map_nil, if_true, if_false, f5, f6, d1]
    refine callI_pure cal35 (ReadUint rest h1 hb2 (by omega)) ?_
    rw [gotC_eq]
    have hlt := dec_lt rest 0 0 (by omega) (by decide) hb2
    rw [show 5 - k = (5 - (k + 1)) + 1 by omega] at hnu
    by_cases herr : (dec rest 0 0).2.2 = 0
    rotate_left
    · rw [nums_err herr] at hnu
      have hq2 : (nums 5 bs []).2.2 = (dec rest 0 0).2.2 := by rw [← hnu]
      have hE : errE bs = (dec rest 0 0).2.2 := by
        rw [if_neg (by rw [hq2]; exact herr), hq2] at hN
        rw [err_nums (by rw [hN]; exact herr), hN]
      have hD : entD bs = (zE, (dec rest 0 0).2.2) := by rw [entD_eqN, if_pos (by rw [hE]; exact herr), hE]
      have hne : (h1.n = h.n) = False := eq_false (by omega)
      unfold zeroS at q0p
      simp only [wpA_region, wpA_seq, wpA_cond, wpA_draw, condI_true, seqQ_normal, goI_out, goI_ops, opsA_nil, opsA_cons, stepA_alloc, stepA_load, stepA_store, stepA_binOp, stepA_fieldAddr, thenV_some, thenH_some, thenS_some, eval_tmp, eval_const, put_some, put_none, aBin_neq, absV_int, cells_agg, one_int, one_imm, all_nil, all_cons, aField_eq, fieldGo_ptr, aLoad_eq, loadGo_one, aPlace_ptr, dropC_cells, aStore_eq, storeGo_ptr, setC_row, setAll_nil, setAll_cons, aAlloc_eq, get_push_new, set_push, Int.reduceNeg, decide_false, Nat.reduceEqDiff, Nat.reduceAdd, Nat.reduceLeDiff, Option.map_some, Nat.zero_add, List.length_cons, List.length_nil, List.drop_zero, List.drop_succ_cons, List.set_cons_zero, List.set_cons_succ, if_true, if_false, Bool.and_self, Bool.not_false, Nat.le_refl, ft_69_2, lt_3, zc_69, zt_69, nz, herr]
      refine SWp.drawnS (fun x => x = h.n) [3] (.q 0 (.q 1 (.q 2 (.e 3 (.q 4 .done) .stop)))) (by kernel_rfl) (by kernel_rfl) (by kernel_rfl) ?_
      simp only [keepS, mOk_assign, mOk_build, mOk_fieldAddr, mOk_load, mOkV_ptr, nne2, nne3, nne4, nne1', nne2', not_false_eq_true, siI_done, siI_stop, siI_q, siI_e, sqI_some, seI_some, implies_true, qI_nil, qI_cons, thenQ_some, q_assign, q_load, q_build, q_fieldAddr, wpA_ret, seqQ_normal, seqQ_ret, blkQ_ret, endI_mk, goE, andThen_ret, goI_out, goI_ops, goI_mk, opsA_nil, opsA_cons, stepA_store, thenS_some, eval_tmp, put_some, put_none, cells_agg, one_int, one_bool, one_snil, all_nil, all_cons, aField_eq, fieldGo_ptr, aLoad_eq, loadGo_one, loadGo_row, aPlace_ptr, dropC_cells, aStore_eq, storeGo_ptr, setC_row, setAll_nil, setAll_cons, aBuild_go, aFill_nil, buildGo_struct, get_push_new, get_set_same, List.getElem?_cons_zero, List.getElem?_cons_succ, Int.reduceNeg, Bool.false_eq_true, Nat.reduceEqDiff, Nat.reduceAdd, Nat.reduceLeDiff, List.map_nil, Option.map_some, Nat.zero_add, Nat.zero_le, List.length_cons, List.length_nil, List.drop_zero, List.drop_succ_cons, List.take_succ_cons, List.take_nil, List.set_cons_zero, List.set_cons_succ, and_true, true_and, if_true, if_false, Bool.and_self, Nat.le_refl, ft_69_2, lt_3, lt_35, pl_35, zc_35, zt_35, f2, q0p, hne, retA_ret, Tryd.results17, resultsC_2, resultA_tmp, resultA_cell, res2_some]
      refine hid_mk ⟨_, by rw [hD]; exact castZ _ _, ?_⟩
      exact (kk.then_push _).trans (Keep.set _ _ _) fun j hj hh => by omega
    · rw [nums_ok herr] at hnu
      have hst := dec_step hb2 herr
      have hch : ∀ w : Int, w = negN (dec rest 0 0).1 → ∃ v2 h2, aAppend Tryd.prog 33 33 v (.sl (h1.n + 1) 0 1 1) ((h1.push (.cells [.int .u64 ((dec rest 0 0).1 : Nat), .imm (rest.drop (dec rest 0 0).2.1).length (bytesV (rest.drop (dec rest 0 0).2.1)), .int .i64 ((0 : Nat) : Int)] 69 none)).push (.cells [.int .i64 w] 3 none)) = some (v2, h2) ∧
          Acc H h2 3 1 v2 (i64V ((acc ++ [(dec rest 0 0).1]).map negN)) ∧ dropC (h2.get h1.n) 1 = some [.imm (rest.drop (dec rest 0 0).2.1).length (bytesV (rest.drop (dec rest 0 0).2.1)), .int .i64 ((0 : Nat) : Int)] := fun w hw => by
        have acc1 := hacc.on (Keep.push h1 (.cells [.int .u64 ((dec rest 0 0).1 : Nat), .imm (rest.drop (dec rest 0 0).2.1).length (bytesV (rest.drop (dec rest 0 0).2.1)), .int .i64 ((0 : Nat) : Int)] 69 none) none_)
        obtain ⟨v2, h2, e2, o2, k2, d2⟩ := append_elemM sl_33 (by decide) acc1.own (xs := [.int .i64 w]) rfl rfl (fun m hm => by
          change m * 1 = _ + 1 at hm
          rw [Nat.mul_one, i64V_length, List.length_map, ha] at hm
          exact ⟨by simp only [lim]; omega, by simp only [lim]; omega⟩)
        refine ⟨v2, h2, e2, (acc1.step o2 k2 d2).conv (by simp [i64V, hw]), ?_⟩
        rw [k2.get h1.n (by rw [push_n]; omega) (fun hh => by have := hacc.own.lt _ hh; omega), get_push_new]
        rfl
      by_cases hbig : (dec rest 0 0).1 ≤ 1048576
      · have c1 : decide ((((dec rest 0 0).1 : Nat) : Int) ≤ 1048576) = true := decide_eq_true (by omega)
        have w1 := nat_i64 (n := (dec rest 0 0).1) (by omega)
        obtain ⟨v2, h2, e2, a2, r2⟩ := hch ((dec rest 0 0).1 : Nat) (by rw [negN, if_pos hbig])
        simp only [wpA_skip, wpA_region, wpA_seq, wpA_cond, condI_true, condI_false, seqQ_normal, blkQ_normal, endI_mk, andThen_normal, goI_out, goI_ops, opsA_nil, opsA_cons, stepA_move, stepA_assign, stepA_alloc, stepA_buildSlice, stepA_load, stepA_store, stepA_binOp, stepA_convert, stepA_fieldAddr, stepA_append, thenV_some, thenH_some, thenS_some, eval_tmp, eval_const, put_some, put_none, aBin_add, aBin_neq, aBin_leq, absV_int, cells_agg, one_int, one_imm, all_nil, all_cons, aField_eq, fieldGo_ptr, aLoad_eq, loadGo_one, aPlace_ptr, dropC_cells, aStore_eq, storeGo_ptr, setC_row, setAll_nil, setAll_cons, aAlloc_eq, push_n, get_push_new, set_push, Int.reduceNeg, decide_true, Nat.reduceEqDiff, Nat.reduceAdd, Nat.reduceLeDiff, List.map_cons, List.map_nil, Option.map_some, Nat.add_zero, Nat.zero_add, Nat.zero_le, List.length_cons, List.length_nil, List.drop_zero, List.drop_succ_cons, List.set_cons_zero, List.set_cons_succ, if_true, if_false, Bool.and_self, Bool.not_true, Nat.le_refl, ft_69_0, ft_69_1, ft_69_2, lt_24, lt_3, lt_63, zc_69, zt_69, f4, f6, nz, herr, c1, aConv_int it_63 it_3, w1, lit1i, e2, r2, hw]
        refine hid_mk ⟨(k + 1, acc ++ [(dec rest 0 0).1], rest.drop (dec rest 0 0).2.1, v2), ⟨f2, rfl, rfl, rfl, hlast, by simp [ha], a2, hnu, ?_, mem_drop hb2 _⟩, by simp only; omega⟩
        simp only [List.length_drop]; omega
      · have c1 : decide ((((dec rest 0 0).1 : Nat) : Int) ≤ 1048576) = false := decide_eq_false (by omega)
        obtain ⟨v2, h2, e2, a2, r2⟩ := hch (-1) (by rw [negN, if_neg hbig])
        simp only [wpA_skip, wpA_region, wpA_seq, wpA_cond, condI_false, seqQ_normal, blkQ_normal, endI_mk, andThen_normal, goI_out, goI_ops, opsA_nil, opsA_cons, stepA_move, stepA_assign, stepA_alloc, stepA_buildSlice, stepA_load, stepA_store, stepA_binOp, stepA_fieldAddr, stepA_append, thenV_some, thenH_some, thenS_some, eval_tmp, eval_const, put_some, put_none, aBin_add, aBin_neq, aBin_leq, absV_int, cells_agg, one_int, one_imm, all_nil, all_cons, aField_eq, fieldGo_ptr, aLoad_eq, loadGo_one, aPlace_ptr, dropC_cells, aStore_eq, storeGo_ptr, setC_row, setAll_nil, setAll_cons, aAlloc_eq, push_n, get_push_new, set_push, Int.reduceNeg, decide_true, Nat.reduceEqDiff, Nat.reduceAdd, Nat.reduceLeDiff, List.map_cons, List.map_nil, Option.map_some, Nat.add_zero, Nat.zero_add, Nat.zero_le, List.length_cons, List.length_nil, List.drop_zero, List.drop_succ_cons, List.set_cons_zero, List.set_cons_succ, if_true, if_false, Bool.and_self, Bool.not_true, Nat.le_refl, ft_69_0, ft_69_1, ft_69_2, lt_24, lt_3, lt_63, zc_69, zt_69, f4, f6, nz, herr, c1, lit1i, e2, r2, hw]
        refine hid_mk ⟨(k + 1, acc ++ [(dec rest 0 0).1], rest.drop (dec rest 0 0).2.1, v2), ⟨f2, rfl, rfl, rfl, hlast, by simp [ha], a2, hnu, ?_, mem_drop hb2 _⟩, by simp only; omega⟩
        simp only [List.length_drop]; omega
  · have d1 : decide ((k : Int) < 5) = false := decide_eq_false (by omega)
    have hk5 : k = 5 := by omega
    subst hk5
    rw [Nat.sub_self, nums] at hnu
    have hN : nums 9 bs [] = nums 4 rest acc := by rw [hN, ← hnu]; rfl
    have hN : nums 9 bs [] = if (nums 3 rest acc).2.2 = 0 then nums 1 (nums 3 rest acc).2.1 (nums 3 rest acc).1 else ([], [], (nums 3 rest acc).2.2) := by rw [hN]; exact nums_split 1 3 rest acc
    rw [nums_acc 3 rest acc] at hN
    simp only [wpA_region, wpA_seq, wpA_cond, wpA_exit, condI_false, seqQ_normal, seqQ_exit, blkQ_exit, endI_mk, goE, andThen_exit, goI_out, goI_ops, opsA_nil, opsA_cons, stepA_move, stepA_binOp, stepA_call, thenV_some, eval_tmp, eval_const, put_some, aBin_lss, absV_int, Int.reduceNeg, Nat.reduceEqDiff, List.map_cons, List.map_nil, if_true, if_false, f5, f6, d1]
    refine callI_pure cal25 (rThree rest h1 hb2 (by omega)) ?_
    unfold threeV threeR
    generalize hq3 : nums 3 rest [] = Q3 at hN
    obtain ⟨l3, rest3, er3⟩ := Q3
    simp only at hN
    have hcr : ∀ x : Rcd, (V.agg (rcdE x)).cells = some [.int .i64 x.k, .int .i64 x.v, .int .i64 x.t] := fun _ => rfl
    by_cases he3 : er3 = 0
    rotate_left
    · rw [if_neg he3, if_neg he3] at hN
      have hE : errE bs = er3 := by rw [err_nums (by rw [hN]; exact he3), hN]
      have hD : entD bs = (zE, er3) := by rw [entD_eqN, if_pos (by rw [hE]; exact he3), hE]
      unfold zeroS at q0p
      simp only [wpA_region, wpA_seq, wpA_cond, wpA_ret, condI_true, seqQ_normal, seqQ_ret, endI_mk, goI_out, goI_ops, opsA_nil, opsA_cons, stepA_move, stepA_assign, stepA_alloc, stepA_build, stepA_store, stepA_binOp, stepA_extract, thenV_some, thenH_some, thenS_some, extV_zero, extV_succ, eval_tmp, eval_const, put_some, put_none, aBin_neq, absV_int, cells_agg, one_int, one_bool, one_snil, all_nil, all_cons, aLoad_eq, loadGo_row, aPlace_ptr, dropC_cells, aStore_eq, storeGo_ptr, setC_row, setAll_nil, setAll_cons, aAlloc_eq, aBuild_go, aFill_nil, buildGo_struct, get_push_new, get_set_same, set_push, decide_false, Nat.reduceEqDiff, Nat.reduceAdd, List.map_nil, Option.map_some, Nat.zero_add, Nat.zero_le, List.length_cons, List.length_nil, List.drop_zero, List.take_succ_cons, List.take_nil, List.set_cons_zero, List.set_cons_succ, if_true, if_false, Bool.and_self, Bool.not_false, Nat.le_refl, lt_35, pl_35, zc_23, zc_35, zt_23, zt_35, f2, nz, he3, hcr, q0p, retA_ret, Tryd.results17, resultsC_2, resultA_tmp, resultA_cell, res2_some]
      refine hid_mk ⟨_, by rw [hD]; exact castZ _ _, ?_⟩
      exact (kk.then_push _).trans (Keep.set _ _ _) fun j hj hh => by omega
    subst he3
    have hlen3 : l3.length = 3 := by have := nums_len (k := 3) (bs := rest) (acc := []) (by rw [hq3]); rw [hq3] at this; simpa using this
    have hlt3 := nums_lt (k := 3) (bs := rest) (acc := []) hb2
    rw [hq3] at hlt3
    simp only at hlt3
    rw [if_pos rfl] at hN
    simp only [if_true] at hN
    have hrq : recQ (l3, rest3, 0) = rcdOf l3 := by rw [recQ, if_pos rfl]
    rw [hrq, if_pos rfl]
    have zt : (((0 : Nat) : Int) != 0) = false := rfl
    obtain ⟨H3, hH3⟩ : ∃ y, y = h1.push (.cells [.int .i64 (rcdOf l3).k, .int .i64 (rcdOf l3).v, .int .i64 (rcdOf l3).t] 23 none) := ⟨_, rfl⟩
    have k3 : Keep h1 H3 none_ := by rw [hH3]; exact Keep.push _ _ _
    have s0 := (k3.get h.n (by omega) (by simp [none_])).trans q0
    have s2 : H3.get h1.n = .cells [.int .i64 (rcdOf l3).k, .int .i64 (rcdOf l3).v, .int .i64 (rcdOf l3).t] 23 none := by rw [hH3]; exact get_push_new
    have n3 : H3.n = h1.n + 1 := by rw [hH3]; rfl
    have kk3 := kk.trans' k3
    have acc3 := hacc.on k3
    simp only [wpA_skip, wpA_region, wpA_seq, wpA_cond, condI_false, seqQ_normal, goI_out, goI_ops, opsA_nil, opsA_cons, stepA_move, stepA_assign, stepA_alloc, stepA_store, stepA_binOp, stepA_extract, stepA_call, thenV_some, thenH_some, thenS_some, extV_zero, extV_succ, eval_tmp, eval_const, put_some, put_none, aBin_neq, absV_int, one_int, all_nil, all_cons, aStore_eq, storeGo_ptr, setC_row, setAll_nil, setAll_cons, aAlloc_eq, get_push_new, set_push, Nat.reduceEqDiff, Nat.reduceAdd, List.map_cons, List.map_nil, Option.map_some, Nat.zero_add, List.length_cons, List.length_nil, List.set_cons_zero, List.set_cons_succ, if_true, if_false, Bool.and_self, Nat.le_refl, zc_23, zt_23, zt, hcr]
    rw [← hH3]
    clear hH3
    refine callI_pureG (fun f => f 2 = .ptr h.n 0 ∧ f 4 = v ∧ f 9 = .ptr h1.n 0 ∧ f 56 = .agg (gotC rest3)) cal35 (ReadUint rest3 H3 hlt3.1 (by omega)) ⟨f2, f4, rfl, rfl⟩ ?_
    clear f2 f4 f5 f6
    rintro f ⟨f2, f4, f9, f56⟩
    rw [gotC_eq] at f56
    have hd4 := dec_lt rest3 0 0 (by omega) (by decide) hlt3.1
    generalize hd : dec rest3 0 0 = d4 at f56 hd4
    by_cases he4 : d4.2.2 = 0
    rotate_left
    · rw [show nums 1 rest3 (acc ++ l3) = ([], [], d4.2.2) from by rw [← hd]; exact nums_err (by rw [hd]; exact he4)] at hN
      have hE : errE bs = d4.2.2 := by rw [err_nums (by rw [hN]; exact he4), hN]
      have hD : entD bs = (zE, d4.2.2) := by rw [entD_eqN, if_pos (by rw [hE]; exact he4), hE]
      have hne : (H3.n = h.n) = False := eq_false (by omega)
      have s0p : ∀ o, (H3.push o).get h.n = _ := fun o => (get_push_lt (by omega)).trans s0
      unfold zeroS at s0p
      simp only [wpA_region, wpA_seq, wpA_cond, wpA_draw, condI_true, seqQ_normal, goI_out, goI_ops, opsA_nil, opsA_cons, stepA_alloc, stepA_load, stepA_store, stepA_binOp, stepA_fieldAddr, thenV_some, thenH_some, thenS_some, eval_tmp, eval_const, put_some, put_none, aBin_neq, absV_int, cells_agg, one_int, one_imm, all_nil, all_cons, aField_eq, fieldGo_ptr, aLoad_eq, loadGo_one, aPlace_ptr, dropC_cells, aStore_eq, storeGo_ptr, setC_row, setAll_nil, setAll_cons, aAlloc_eq, get_push_new, set_push, decide_false, Nat.reduceEqDiff, Nat.reduceAdd, Nat.reduceLeDiff, Option.map_some, Nat.zero_add, List.length_cons, List.length_nil, List.drop_zero, List.drop_succ_cons, List.set_cons_zero, List.set_cons_succ, if_true, if_false, Bool.and_self, Bool.not_false, Nat.le_refl, ft_69_2, lt_3, zc_69, zt_69, f56, nz, he4]
      refine SWp.drawnS (fun x => x = h.n) [3] (.q 0 (.q 1 (.q 2 (.e 3 (.q 4 .done) .stop)))) (by kernel_rfl) (by kernel_rfl) (by kernel_rfl) ?_
      simp only [keepS, mOk_assign, mOk_build, mOk_fieldAddr, mOk_load, mOkV_ptr, nne2, nne3, nne4, nne1', nne2', not_false_eq_true, siI_done, siI_stop, siI_q, siI_e, sqI_some, seI_some, implies_true, qI_nil, qI_cons, thenQ_some, q_assign, q_load, q_build, q_fieldAddr, wpA_ret, seqQ_normal, seqQ_ret, endI_mk, goI_out, goI_ops, goI_mk, opsA_nil, opsA_cons, stepA_store, thenS_some, eval_tmp, put_some, put_none, cells_agg, one_int, one_bool, one_snil, all_nil, all_cons, aField_eq, fieldGo_ptr, aLoad_eq, loadGo_one, loadGo_row, aPlace_ptr, dropC_cells, aStore_eq, storeGo_ptr, setC_row, setAll_nil, setAll_cons, aBuild_go, aFill_nil, buildGo_struct, get_push_new, get_set_same, List.getElem?_cons_zero, List.getElem?_cons_succ, Bool.false_eq_true, Nat.reduceEqDiff, Nat.reduceAdd, Nat.reduceLeDiff, List.map_nil, Option.map_some, Nat.zero_add, Nat.zero_le, List.length_cons, List.length_nil, List.drop_zero, List.drop_succ_cons, List.take_succ_cons, List.take_nil, List.set_cons_zero, List.set_cons_succ, and_true, true_and, if_true, if_false, Bool.and_self, Nat.le_refl, ft_69_2, lt_3, lt_35, pl_35, zc_35, zt_35, f2, s0p, hne, retA_ret, Tryd.results17, resultsC_2, resultA_tmp, resultA_cell, res2_some]
      refine hid_mk ⟨_, by rw [hD]; exact castZ _ _, ?_⟩
      exact (kk3.then_push _).trans (Keep.set _ _ _) fun j hj hh => by omega
    rw [show nums 1 rest3 (acc ++ l3) = (acc ++ l3 ++ [d4.1], rest3.drop d4.2.1, 0) from by rw [← hd]; exact nums_ok (by rw [hd]; exact he4)] at hN
    have hN1 : (nums 9 bs []).1 = acc ++ l3 ++ [d4.1] := by rw [hN]
    have hN2 : (nums 9 bs []).2.1 = rest3.drop d4.2.1 := by rw [hN]
    have hN3 : (nums 9 bs []).2.2 = 0 := by rw [hN]
    have hO : offsQ bs = getInts (rest3.drop d4.2.1) 8 := by rw [offsQ, hN2]
    have hb4 : ∀ b ∈ rest3.drop d4.2.1, b < 256 := mem_drop hlt3.1 _
    have hl4 : (rest3.drop d4.2.1).length ≤ 2 ^ 47 := by simp only [List.length_drop]; omega
    obtain ⟨H4, hH4⟩ : ∃ y, y = H3.push (.cells [.int .u64 (d4.1 : Nat), .imm (rest3.drop d4.2.1).length (bytesV (rest3.drop d4.2.1)), .int .i64 (d4.2.2 : Nat)] 69 none) := ⟨_, rfl⟩
    have k4 : Keep H3 H4 none_ := by rw [hH4]; exact Keep.push _ _ _
    have t0 := (k4.get h.n (by omega) (by simp [none_])).trans s0
    have t2 := (k4.get h1.n (by omega) (by simp [none_])).trans s2
    have t3 : H4.get H3.n = .cells [.int .u64 (d4.1 : Nat), .imm (rest3.drop d4.2.1).length (bytesV (rest3.drop d4.2.1)), .int .i64 (d4.2.2 : Nat)] 69 none := by rw [hH4]; exact get_push_new
    have n4 : H4.n = H3.n + 1 := by rw [hH4]; rfl
    have kk4 := kk3.trans' k4
    have acc4 := acc3.on k4
    simp only [wpA_skip, wpA_region, wpA_seq, wpA_cond, condI_false, seqQ_normal, goI_out, goI_ops, opsA_nil, opsA_cons, stepA_alloc, stepA_load, stepA_store, stepA_binOp, stepA_fieldAddr, stepA_call, thenV_some, thenH_some, thenS_some, eval_tmp, eval_const, put_some, put_none, aBin_neq, absV_int, cells_agg, one_int, one_imm, all_nil, all_cons, aField_eq, fieldGo_ptr, aLoad_eq, loadGo_one, aPlace_ptr, dropC_cells, aStore_eq, storeGo_ptr, setC_row, setAll_nil, setAll_cons, aAlloc_eq, get_push_new, set_push, decide_true, Nat.reduceEqDiff, Nat.reduceAdd, Nat.reduceLeDiff, List.map_cons, List.map_nil, Option.map_some, Nat.zero_add, List.length_cons, List.length_nil, List.drop_zero, List.drop_succ_cons, List.set_cons_zero, List.set_cons_succ, if_true, if_false, Bool.and_self, Bool.not_true, Nat.le_refl, ft_69_1, ft_69_2, lt_24, lt_3, zc_69, zt_69, f56, nz, he4]
    rw [he4] at hH4 t3
    rw [← hH4]
    clear hH4
    refine callI_pureG (fun f => f 2 = .ptr h.n 0 ∧ f 4 = v ∧ f 9 = .ptr h1.n 0 ∧ f 12 = .ptr H3.n 0 ∧ f 66 = .tuple [.imm (offsQ bs).1.length (i64V (offsQ bs).1), .imm (offsQ bs).2.1.length (bytesV (offsQ bs).2.1), .int .i64 ((offsQ bs).2.2 : Nat)]) cal36 (ReadIntsG _ 8 H4 hb4 hl4 (.inr (by decide)) (by decide)) ⟨f2, f4, f9, rfl, by rw [hO]; rfl⟩ ?_
    clear f2 f4 f9 f56
    rintro f ⟨f2, f4, f9, f12, f66⟩
    have t0' := t0
    unfold zeroS at t0'
    by_cases he5 : (offsQ bs).2.2 = 0
    rotate_left
    · have hE : errE bs = (offsQ bs).2.2 := by unfold errE; rw [if_neg (by omega), if_pos he5]
      have hD : entD bs = (zE, (offsQ bs).2.2) := by rw [entD_eqN, if_pos (by rw [hE]; exact he5), hE]
      simp only [wpA_region, wpA_seq, wpA_cond, wpA_ret, condI_true, seqQ_normal, seqQ_ret, endI_mk, goI_out, goI_ops, opsA_nil, opsA_cons, stepA_move, stepA_assign, stepA_build, stepA_store, stepA_binOp, stepA_extract, thenV_some, thenS_some, extV_zero, extV_succ, eval_tmp, eval_const, put_some, put_none, aBin_neq, absV_int, cells_agg, one_int, one_bool, one_snil, all_nil, all_cons, aLoad_eq, loadGo_row, aPlace_ptr, dropC_cells, aStore_eq, storeGo_ptr, setC_row, setAll_nil, setAll_cons, aBuild_go, aFill_nil, buildGo_struct, get_set_same, decide_false, Nat.reduceEqDiff, Nat.reduceAdd, List.map_nil, Option.map_some, Nat.zero_add, Nat.zero_le, List.length_cons, List.length_nil, List.drop_zero, List.take_succ_cons, List.take_nil, List.set_cons_zero, List.set_cons_succ, if_true, if_false, Bool.and_self, Bool.not_false, Nat.le_refl, lt_35, pl_35, zc_35, zt_35, f2, f66, nz, he5, t0', retA_ret, Tryd.results17, resultsC_2, resultA_tmp, resultA_cell, res2_some]
      refine hid_mk ⟨_, by rw [hD]; exact castZ _ _, ?_⟩
      exact kk4.trans (Keep.set _ _ _) fun j hj hh => by omega
    simp only [wpA_skip, wpA_region, wpA_seq, wpA_cond, condI_false, seqQ_normal, goI_out, goI_ops, opsA_nil, opsA_cons, stepA_move, stepA_assign, stepA_binOp, stepA_extract, stepA_call, thenV_some, extV_zero, extV_succ, eval_tmp, eval_const, put_some, aBin_neq, absV_int, decide_true, Nat.reduceEqDiff, List.map_cons, List.map_nil, if_true, if_false, Bool.not_true, f66, nz, he5]
    have hW : ordQ bs = getInts (offsQ bs).2.1 256 := rfl
    have hgl := getInts_lt (bs := rest3.drop d4.2.1) 8 hb4
    rw [← hO] at hgl
    refine callI_pureG (fun f => f 2 = .ptr h.n 0 ∧ f 4 = v ∧ f 9 = .ptr h1.n 0 ∧ f 12 = .ptr H3.n 0 ∧ f 13 = .imm (offsQ bs).1.length (i64V (offsQ bs).1) ∧ f 76 = .tuple [.imm (ordQ bs).1.length (i64V (ordQ bs).1), .imm (ordQ bs).2.1.length (bytesV (ordQ bs).2.1), .int .i64 ((ordQ bs).2.2 : Nat)]) cal36 (ReadIntsG _ 256 H4 hgl.1 (by omega) (.inr (by decide)) (by decide)) ⟨f2, f4, f9, f12, rfl, by rw [hW]; rfl⟩ ?_
    clear f2 f4 f9 f12 f66
    rintro f ⟨f2, f4, f9, f12, f13, f76⟩
    by_cases he6 : (ordQ bs).2.2 = 0
    rotate_left
    · have hE : errE bs = (ordQ bs).2.2 := by unfold errE; rw [if_neg (by omega), if_neg (by omega)]
      have hD : entD bs = (zE, (ordQ bs).2.2) := by rw [entD_eqN, if_pos (by rw [hE]; exact he6), hE]
      simp only [wpA_region, wpA_seq, wpA_cond, wpA_ret, condI_true, seqQ_normal, seqQ_ret, endI_mk, goI_out, goI_ops, opsA_nil, opsA_cons, stepA_move, stepA_assign, stepA_build, stepA_store, stepA_binOp, stepA_extract, thenV_some, thenS_some, extV_zero, extV_succ, eval_tmp, eval_const, put_some, put_none, aBin_neq, absV_int, cells_agg, one_int, one_bool, one_snil, all_nil, all_cons, aLoad_eq, loadGo_row, aPlace_ptr, dropC_cells, aStore_eq, storeGo_ptr, setC_row, setAll_nil, setAll_cons, aBuild_go, aFill_nil, buildGo_struct, get_set_same, decide_false, Nat.reduceEqDiff, Nat.reduceAdd, List.map_nil, Option.map_some, Nat.zero_add, Nat.zero_le, List.length_cons, List.length_nil, List.drop_zero, List.take_succ_cons, List.take_nil, List.set_cons_zero, List.set_cons_succ, if_true, if_false, Bool.and_self, Bool.not_false, Nat.le_refl, lt_35, pl_35, zc_35, zt_35, f2, f76, nz, he6, t0', retA_ret, Tryd.results17, resultsC_2, resultA_tmp, resultA_cell, res2_some]
      refine hid_mk ⟨_, by rw [hD]; exact castZ _ _, ?_⟩
      exact kk4.trans (Keep.set _ _ _) fun j hj hh => by omega
    have hE : errE bs = 0 := by unfold errE; rw [if_neg (by omega), if_neg (by omega), he6]
    have ol := ord_len hb hE
    have hD := entD_eqN bs
    rw [if_neg (by omega)] at hD
    generalize hX : entN (nums 9 bs []).1 (offsQ bs).1 (ordQ bs).1 = X at hD
    have hXl : eLen X := by rw [← hX]; exact ⟨by simp only [entN]; omega, by simp only [entN]; omega⟩
    match acc, ha, l3, hlen3 with
    | [a, b, c, d, e], _, [x1, x2, x3], _ =>
      have hcs : (i64V (([a, b, c, d, e] : List Nat).map negN)).length = 5 := rfl
      have el := fun (k : Nat) (hk : k < 5) => own_elem (P := Tryd.prog) (t := 33) (kk := .i64) ss_33 acc4.own (k := k) (by rw [hcs]; exact hk)
      obtain ⟨i, a0, i0, ⟨r0, b0⟩, _⟩ := el 0 (by decide)
      obtain ⟨i1, a1, i1', ⟨r1, b1⟩, _⟩ := el 1 (by decide)
      obtain ⟨i2, a2, i2', ⟨r2, b2⟩, _⟩ := el 2 (by decide)
      obtain ⟨i3, a3, i3', ⟨r3, b3⟩, _⟩ := el 3 (by decide)
      obtain ⟨i4, a4, i4', ⟨r4, b4⟩, _⟩ := el 4 (by decide)
      obtain rfl : i1 = i := by rw [i0] at i1'; exact (Option.some.inj i1').symm
      obtain rfl : i2 = i1 := by rw [i0] at i2'; exact (Option.some.inj i2').symm
      obtain rfl : i3 = i2 := by rw [i0] at i3'; exact (Option.some.inj i3').symm
      obtain rfl : i4 = i3 := by rw [i0] at i4'; exact (Option.some.inj i4').symm
      change aIndexAddr Tryd.prog 33 v (.int .i64 0) = _ at a0
      change aIndexAddr Tryd.prog 33 v (.int .i64 1) = _ at a1
      change aIndexAddr Tryd.prog 33 v (.int .i64 2) = _ at a2
      change aIndexAddr Tryd.prog 33 v (.int .i64 3) = _ at a3
      change aIndexAddr Tryd.prog 33 v (.int .i64 4) = _ at a4
      change dropC _ 0 = some (.int .i64 (negN a) :: r0) at b0
      change dropC _ 1 = some (.int .i64 (negN b) :: r1) at b1
      change dropC _ 2 = some (.int .i64 (negN c) :: r2) at b2
      change dropC _ 3 = some (.int .i64 (negN d) :: r3) at b3
      change dropC _ 4 = some (.int .i64 (negN e) :: r4) at b4
      have hz : (((d4.1 : Nat) : Int) == 1) = (d4.1 == 1) := by rw [Bool.eq_iff_iff]; simp; omega
      simp only [wpA_skip, wpA_region, wpA_seq, wpA_cond, wpA_draw, condI_false, seqQ_normal, goI_out, goI_ops, opsA_nil, opsA_cons, stepA_move, stepA_assign, stepA_binOp, stepA_extract, thenV_some, extV_zero, extV_succ, eval_tmp, eval_const, put_some, aBin_neq, absV_int, decide_true, Nat.reduceEqDiff, if_true, if_false, Bool.not_true, f76, nz, he6]
      refine SWp.drawnS none_ [22, 23] (.q 0 (.q 1 (.q 2 (.q 3 (.q 4 (.q 5 (.q 6 (.q 7 (.q 8 (.q 9 (.q 10 (.q 11 (.q 12 (.q 13 (.q 14 (.q 15 (.q 16 (.q 17 (.q 18 (.q 19 (.q 20 (.q 21 (.e 22 (.a 23 .done) .stop))))))))))))))))))))))) (by kernel_rfl) (by kernel_rfl) (by kernel_rfl) ?_
      simp only [siI_done, siI_stop, siI_q, siI_a, siI_e, sqI_some, saI_some, seI_some, mOk_none', keepT1, implies_true, qI_nil, qI_cons, thenQ_some, q_move, q_load, q_build, q_binOp, q_fieldAddr, q_indexAddr, wpA_region, wpA_seq, seqQ_normal, goI_out, goI_ops, goI_mk, opsA_nil, opsA_cons, opsA_guardS, slotAt_zero, slotAt_succ, stepA_move, stepA_alloc, stepA_store, stepA_binOp, stepA_len, thenV_some, thenH_some, thenS_some, eval_tmp, eval_const, put_some, put_none, aBin_eql, aBin_neq, absV_int, cells_int, cells_bool, cells_imm, cells_agg, one_int, one_bool, one_imm, all_nil, all_cons, aField_eq, fieldGo_ptr, aLoad_eq, loadGo_one, loadGo_row, aPlace_ptr, dropC_cells, aStore_eq, storeGo_ptr, setC_row, setAll_nil, setAll_cons, aAlloc_eq, aLen_imm, aBuild_go, aFill_nil, aFill_cons, fillGo_some, buildGo_struct, get_push_new, set_push, List.getElem?_cons_zero, List.getElem?_cons_succ, Nat.reduceEqDiff, Nat.reduceAdd, Nat.reduceLeDiff, List.map_cons, List.map_nil, Option.map_some, Nat.add_zero, Nat.zero_add, Nat.zero_le, List.length_cons, List.length_nil, List.drop_zero, List.take_succ_cons, List.take_nil, List.set_cons_zero, List.set_cons_succ, and_true, true_and, and_self, if_true, if_false, Bool.and_self, Nat.le_refl, ft_69_0, kt_24, lt_23, lt_3, lt_63, pl_35, zc_35, zt_35, f4, f9, f12, f13, a0, a1, a2, a3, a4, b0, b1, b2, b3, b4, t2, t3, hz]
      have hXc : [V.int .i64 (negN a), V.int .i64 (negN b), V.int .i64 (negN c), V.int .i64 (negN d), V.int .i64 (negN e), V.int .i64 (rcdOf [x1, x2, x3]).k, V.int .i64 (rcdOf [x1, x2, x3]).v, V.int .i64 (rcdOf [x1, x2, x3]).t, V.bool (d4.1 == 1), V.imm (offsQ bs).1.length (i64V (offsQ bs).1), V.imm (ordQ bs).1.length (i64V (ordQ bs).1)] = entE X := by
        rw [← hX, hN1]; rfl
      have hd8 : (nums 9 bs []).1.getD 8 0 = d4.1 := by rw [hN1]; rfl
      rw [hd8] at hD
      rw [hXc]
      have t0p : ∀ o, (H4.push o).get h.n = _ := fun o => (get_push_lt (by omega)).trans t0'
      have hdX : dropC (AObj.cells (entE X) 35 none) 0 = some (entE X) := rfl
      have hlX : (if 11 ≤ (entE X).length then some (V.agg (List.take 11 (entE X))) else none) = some (.agg (entE X)) := rfl
      have hcX : (V.agg (entE X)).cells = some [.int .i64 X.kind, .int .i64 X.task, .int .i64 X.epoch, .int .i64 X.txn, .int .i64 X.log, .int .i64 X.r.k, .int .i64 X.r.v, .int .i64 X.r.t, .bool X.del, .imm X.offs.length (i64V X.offs), .imm X.order.length (i64V X.order)] := rfl
      have kEnd : ∀ o o', Keep h ((H4.push o).set h.n o') none_ := fun o o' => (kk4.then_push _).trans (Keep.set _ _ _) fun j hj hh => by omega
      by_cases hre : (ordQ bs).2.1 = []
      rotate_left
      · have hl0 : decide ((ordQ bs).2.1.length = 0) = false := by simpa using hre
        rw [if_pos (.inl hre)] at hD
        simp only [wpA_region, wpA_seq, wpA_cond, wpA_ret, condI_true, seqQ_normal, seqQ_ret, endI_mk, goI_out, goI_ops, opsA_nil, opsA_cons, opsA_guardS, gvI_tf, slotAt_zero, slotAt_succ, stepA_move, stepA_assign, stepA_pick, stepA_build, stepA_store, thenV_some, thenS_some, pickV_true, eval_tmp, eval_const, put_some, put_none, absV_int, absV_bool, cells_agg, one_int, one_bool, one_snil, all_nil, all_cons, aLoad_eq, loadGo_row, aPlace_ptr, dropC_cells, aStore_eq, storeGo_ptr, setC_row, setAll_nil, setAll_cons, aBuild_go, aFill_nil, buildGo_struct, get_set_same, Nat.reduceEqDiff, Nat.reduceAdd, List.map_nil, Option.map_some, Nat.zero_add, Nat.zero_le, List.length_cons, List.length_nil, List.drop_zero, List.take_succ_cons, List.take_nil, List.set_cons_zero, List.set_cons_succ, if_true, if_false, Bool.and_self, Bool.not_false, Nat.le_refl, lt_35, pl_35, zc_35, zt_35, f2, nz, hl0, t0p, retA_ret, Tryd.results17, resultsC_2, resultA_tmp, resultA_cell, res2_some]
        exact hid_mk ⟨_, by rw [hD]; exact castZ _ _, kEnd _ _⟩
      have hl0 : decide ((ordQ bs).2.1.length = 0) = true := by simpa using hre
      by_cases hd1 : 1 < d4.1
      · have c1 : decide ((1 : Int) < ((d4.1 : Nat) : Int)) = true := decide_eq_true (by omega)
        rw [if_pos (.inr (.inl hd1))] at hD
        simp only [wpA_region, wpA_seq, wpA_cond, wpA_ret, condI_true, seqQ_normal, seqQ_ret, endI_mk, goI_out, goI_ops, opsA_nil, opsA_cons, opsA_guardS, gvI_same, gvI_tf, slotAt_zero, slotAt_succ, stepA_move, stepA_assign, stepA_pick, stepA_build, stepA_load, stepA_store, stepA_binOp, stepA_fieldAddr, thenV_some, thenS_some, pickV_true, pickV_false, eval_tmp, eval_const, put_some, put_none, aBin_gtr, absV_int, absV_bool, cells_agg, one_int, one_bool, one_snil, all_nil, all_cons, aField_eq, fieldGo_ptr, aLoad_eq, loadGo_one, loadGo_row, aPlace_ptr, dropC_cells, aStore_eq, storeGo_ptr, setC_row, setAll_nil, setAll_cons, aBuild_go, aFill_nil, buildGo_struct, get_set_same, Nat.reduceEqDiff, Nat.reduceAdd, List.map_nil, Option.map_some, Nat.add_zero, Nat.zero_add, Nat.zero_le, List.length_cons, List.length_nil, List.drop_zero, List.take_succ_cons, List.take_nil, List.set_cons_zero, List.set_cons_succ, if_true, if_false, Bool.and_self, Bool.not_true, Nat.le_refl, ft_69_0, lt_35, lt_63, pl_35, zc_35, zt_35, f2, f12, nz, hl0, t0p, t3, c1, get_push_lt (show H3.n < H4.n by omega), retA_ret, Tryd.results17, resultsC_2, resultA_tmp, resultA_cell, res2_some]
        exact hid_mk ⟨_, by rw [hD]; exact castZ _ _, kEnd _ _⟩
      have c1 : decide ((1 : Int) < ((d4.1 : Nat) : Int)) = false := decide_eq_false (by omega)
      simp only [goI_ops, opsA_cons, opsA_guardS, gvI_same, slotAt_zero, slotAt_succ, stepA_move, stepA_pick, stepA_load, stepA_binOp, stepA_fieldAddr, stepA_call, thenV_some, pickV_false, eval_tmp, eval_const, put_some, put_none, aBin_gtr, absV_int, absV_bool, aField_eq, fieldGo_ptr, aLoad_eq, loadGo_one, loadGo_row, aPlace_ptr, dropC_cells, get_push_new, Nat.reduceEqDiff, Nat.reduceAdd, List.map_cons, List.map_nil, Nat.add_zero, Nat.zero_add, Nat.zero_le, List.length_cons, List.length_nil, List.drop_zero, if_true, if_false, Bool.not_true, ft_69_0, lt_35, lt_63, f12, nz, hl0, t3, c1, get_push_lt (show H3.n < H4.n by omega), hdX, hlX]
      refine callI_pure cal20 (rMay X _ hXl) ?_
      cases hm : mayB X
      · rw [if_pos (.inr (.inr hm))] at hD
        simp only [wpA_region, wpA_seq, wpA_cond, wpA_ret, condI_true, seqQ_normal, seqQ_ret, endI_mk, goI_out, goI_ops, opsA_nil, opsA_cons, opsA_guardS, gvI_same, slotAt_zero, slotAt_succ, stepA_assign, stepA_pick, stepA_build, stepA_store, stepA_unOp, thenV_some, thenS_some, pickV_false, eval_tmp, eval_const, put_some, put_none, aUn_not, absV_int, absV_bool, cells_agg, one_int, one_bool, one_snil, all_nil, all_cons, aLoad_eq, loadGo_row, aPlace_ptr, dropC_cells, aStore_eq, storeGo_ptr, setC_row, setAll_nil, setAll_cons, aBuild_go, aFill_nil, buildGo_struct, get_set_same, Nat.reduceEqDiff, Nat.reduceAdd, List.map_nil, Option.map_some, Nat.zero_add, Nat.zero_le, List.length_cons, List.length_nil, List.drop_zero, List.take_succ_cons, List.take_nil, List.set_cons_zero, List.set_cons_succ, if_true, if_false, Bool.and_self, Bool.not_false, Nat.le_refl, lt_35, pl_35, zc_35, zt_35, f2, t0p, retA_ret, Tryd.results17, resultsC_2, resultA_tmp, resultA_cell, res2_some]
        exact hid_mk ⟨_, by rw [hD]; exact castZ _ _, kEnd _ _⟩
      · rw [if_neg (by rintro (q | q | q); exact q hre; exact hd1 q; rw [hm] at q; cases q)] at hD
        simp only [wpA_skip, wpA_region, wpA_seq, wpA_cond, wpA_ret, condI_false, seqQ_normal, endI_mk, goI_out, goI_ops, opsA_nil, opsA_cons, opsA_guardS, gvI_same, slotAt_zero, slotAt_succ, stepA_assign, stepA_pick, stepA_load, stepA_store, stepA_unOp, thenV_some, thenS_some, pickV_false, eval_tmp, eval_const, put_some, put_none, aUn_not, absV_int, absV_bool, one_int, one_bool, one_imm, all_nil, all_cons, aLoad_eq, loadGo_row, aPlace_ptr, dropC_cells, aStore_eq, storeGo_ptr, setC_row, setAll_nil, setAll_cons, get_push_new, get_set_same, Nat.reduceEqDiff, Nat.reduceAdd, Option.map_some, Nat.zero_add, Nat.zero_le, List.length_cons, List.length_nil, List.drop_zero, List.take_succ_cons, List.take_nil, List.set_cons_zero, List.set_cons_succ, if_true, if_false, Bool.and_self, Bool.not_true, Nat.le_refl, lt_35, zt_35, f2, t0p, hdX, hlX, hcX, retA_ret, Tryd.results17, resultsC_2, resultA_tmp, resultA_cell, res2_some]
        exact hid_mk ⟨_, by rw [hD]; exact Cast.refl _ _, kEnd _ _⟩
set_option maxHeartbeats 2000000 in
set_option maxRecDepth 10000 in
theorem recEntries (x : Ent) (bs : List Nat) (hx : eIn x) (hxl : eLen x) (hb : ∀ b ∈ bs, b < 256) (hc : bs.length ≤ 2 ^ 47) (h : AHeap) (hu : KU h) :
    SCalls Tryd.prog 4 [.agg (entE x), .imm bs.length (bytesV bs)] h (fun v h' => v = .bool true) := by
  refine SCalls.enterI (c := _) Tryd.func4 rfl (by kernel_rfl) (by simp) ?_
  have hcr : ∀ q : Ent, (V.agg (entE q)).cells = some (entE q) := fun _ => rfl
  have hld : ∀ q : Ent, (if 11 ≤ (entE q).length then some (V.agg (List.take 11 (entE q))) else none) = some (.agg (entE q)) := fun _ => rfl
  have hst : ∀ q : Ent, setC (some 11) (AObj.cells [V.int .i64 0, V.int .i64 0, V.int .i64 0, V.int .i64 0, V.int .i64 0, V.int .i64 0, V.int .i64 0, V.int .i64 0, V.bool false, V.snil, V.snil] 35 none) 0 (entE q) = some (.cells (entE q) 35 none) := fun _ => rfl
  have hu1 : ∀ o, KU (h.push o) := fun o => by unfold KU; rw [push_glob]; exact hu
  have hu2 : ∀ o o', KU ((h.push o).push o') := fun o o' => by unfold KU; rw [push_glob, push_glob]; exact hu
  have hu3 : ∀ o o' o2, KU (((h.push o).push o').push o2) := fun o o' o2 => by unfold KU; rw [push_glob, push_glob, push_glob]; exact hu
  simp only [wpA_region, wpA_seq, seqQ_normal, goI_out, goI_ops, opsA_nil, opsA_cons, stepA_assign, stepA_box, stepA_call, thenH_some, eval_tmp, eval_const, enterF_zero, absV_bool, aBox_eq, List.map_nil, Option.map_some, hcr]
  refine callI_pure cal9 (pShown3 _ (hu1 _)) ?_
  simp only [wpA_region, wpA_seq, seqQ_normal, goI_out, goI_ops, opsA_nil, opsA_cons, stepA_assign, stepA_load, stepA_call, thenV_some, eval_tmp, put_some, enterF_succ, aLoad_eq, loadGo_row, aPlace_ptr, dropC_cells, get_push_new, Nat.reduceEqDiff, List.map_cons, List.map_nil, Nat.zero_le, List.drop_zero, if_true, if_false, lt_35, hld]
  refine callI_pure cal14 (pEntry x _ (hu1 _) hx hxl) ?_
  simp only [wpA_region, wpA_seq, seqQ_normal, goI_out, goI_ops, opsA_nil, opsA_cons, stepA_move, stepA_assign, stepA_load, stepA_extract, stepA_call, thenV_some, extV_zero, extV_succ, eval_tmp, put_some, enterF_succ, aLoad_eq, loadGo_row, aPlace_ptr, dropC_cells, get_push_new, Nat.reduceEqDiff, List.map_cons, List.map_nil, Nat.zero_le, List.drop_zero, if_true, if_false, lt_35, hld]
  refine callI_pure cal15 (rEntry x _ hx hxl) ?_
  simp only [wpA_region, wpA_seq, seqQ_normal, goI_out, goI_ops, opsA_nil, opsA_cons, stepA_move, stepA_assign, stepA_extract, stepA_call, thenV_some, extV_zero, extV_succ, eval_tmp, put_some, enterF_zero, enterF_succ, Nat.reduceEqDiff, List.map_cons, List.map_nil, if_true, if_false]
  refine callI_pure cal16 (pToEntry _ bs _ (hu1 _) (Rd.imm _ bs) hb hc) ?_
  simp only [wpA_region, wpA_seq, seqQ_normal, goI_out, goI_ops, opsA_nil, opsA_cons, stepA_move, stepA_assign, stepA_alloc, stepA_store, stepA_extract, stepA_call, thenV_some, thenH_some, thenS_some, extV_zero, extV_succ, eval_tmp, put_some, put_none, enterF_zero, enterF_succ, aStore_eq, storeGo_ptr, aAlloc_eq, push_n, get_push2, set_push2, Nat.reduceEqDiff, List.map_cons, List.map_nil, Option.map_some, if_true, if_false, zc_35, zt_35, hcr, hst]
  refine callI_pure cal17 (rToEntry bs _ hb hc) ?_
  have hel : eLen (entD bs).1 := by
    by_cases h0 : (entD bs).2 = 0
    · have hm := (entD_back hb h0).2.1
      obtain ⟨_, _, _, _, _, _, o1, _, r1, _⟩ := (may_iff _).1 hm
      exact ⟨by omega, by omega⟩
    · have : (entD bs).1 = zE := by
        rw [entD_eq] at h0 ⊢
        split
        · rfl
        · rename_i h1; rw [if_neg h1] at h0
          split
          · rfl
          · rename_i h2; rw [if_neg h2] at h0; exact absurd rfl h0
      rw [this]; exact ⟨by decide, by decide⟩
  generalize entD bs = q at hel
  simp only [wpA_region, wpA_seq, seqQ_normal, goI_out, goI_ops, opsA_nil, opsA_cons, stepA_move, stepA_assign, stepA_alloc, stepA_load, stepA_store, stepA_extract, stepA_call, thenV_some, thenH_some, thenS_some, extV_zero, extV_succ, eval_tmp, put_some, put_none, enterF_succ, aLoad_eq, loadGo_row, aPlace_ptr, dropC_cells, aStore_eq, storeGo_ptr, aAlloc_eq, push_n, get_push3b, get_push3c, set_push3c, Nat.reduceEqDiff, List.map_cons, List.map_nil, Option.map_some, Nat.zero_le, List.drop_zero, if_true, if_false, lt_35, zc_35, zt_35, hcr, hld, hst]
  refine callI_pure cal18 (pSame3 q.1 q.1 _ hel) ?_
  have hG : ∀ s : ByteArray, (s.toList == s.toList) = true := fun s => by simp
  have hgo : ∀ n : Int, (n == n) = true := fun n => by simp
  have hgb : ∀ n : Bool, (n == n) = true := fun n => by simp
  rw [decide_eq_true rfl]
  simp only [wpA_seq, wpA_draw, seqQ_normal, goI_out, goI_ops, opsA_nil, opsA_cons, stepA_assign, eval_tmp, put_some, put_none, enterF_succ, Nat.reduceEqDiff, if_true, if_false]
  refine SWp.drawnS none_ [] (.q 0 (.q 1 (.q 2 (.c 3 (.q 4 (.c 5 (.q 6 (.q 7 (.q 8 (.q 9 (.q 10 (.q 11 (.q 12 (.q 13 (.q 14 (.q 15 (.q 16 (.q 17 (.q 18 (.q 19 (.q 20 (.q 21 (.q 22 (.q 23 (.q 24 (.q 25 (.q 26 (.q 27 (.q 28 .done))))))))))))))))))))))))))))) (by kernel_rfl) (by kernel_rfl) (by kernel_rfl) ?_
  simp only [siI_q, sqI_some, mOk_none', implies_true, qI_nil, qI_cons, qI_guard, qgI_same, thenQ_some, q_move, q_load, goI_mk, slotAt_zero, slotAt_succ, eval_tmp, put_some, put_none, enterF_succ, aLoad_eq, loadGo_row, aPlace_ptr, dropC_cells, get_push3a, List.getElem?_cons_zero, List.getElem?_cons_succ, Nat.reduceEqDiff, Nat.zero_le, List.drop_zero, true_and, if_true, if_false, lt_35, hld]
  refine siI_c rfl rfl rfl (fun h' hk => pMay x h' (by rcases hk with hk | rfl; unfold KU; rw [hk.glob]; exact hu3 _ _ _; exact hu3 _ _ _) hxl) ?_
  simp only [siI_q, sqI_some, mOk_none', implies_true, qI_nil, qI_guard, qgI_same, thenQ_some, q_load, goI_mk, slotAt_zero, slotAt_succ, eval_tmp, put_some, put_none, enterF_succ, aLoad_eq, loadGo_row, aPlace_ptr, dropC_cells, get_push3a, List.getElem?_cons_zero, List.getElem?_cons_succ, Nat.reduceEqDiff, Nat.zero_le, List.drop_zero, true_and, if_true, if_false, lt_35, hld]
  refine siI_c rfl rfl rfl (fun h' hk => rMay x h' hxl) ?_
  simp only [siI_done, siI_q, sqI_some, mOk_none', implies_true, qI_nil, qI_cons, qI_guard, qgI_same, thenQ_some, q_move, q_assign, q_pick, q_binOp, q_convert, wpA_ret, seqQ_normal, endI_mk, goI_out, goI_mk, slotAt_zero, slotAt_succ, pickV_true, eval_tmp, eval_const, put_some, put_none, enterF_succ, aBin_eql, aBin_bool_eql, aBin_str_eql, absV_bool, List.getElem?_cons_zero, List.getElem?_cons_succ, beq_self_eq_true, Nat.reduceEqDiff, true_and, if_true, if_false, bt_4, convB, retA_ret, Tryd.results4, resultsA_1]
  exact hid_mk rfl
end Go.Proofs.YtjphnabogfiahaaDoor.Pk
