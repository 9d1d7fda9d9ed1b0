/-
  What functions of the program do, told of abstract states. Conditions: as each theorem says.
-/
import Derived.Test.YtjphnabogfiahaaDoorReG
namespace Go.Proofs.YtjphnabogfiahaaDoor.Pk
open Go Go.Proofs Go.Proofs.YtjphnabogfiahaaDoor.Ab
set_option linter.unusedVariables false
set_option linter.unusedSimpArgs false

theorem capN_fit {n : Nat} : fit ((capN n : Nat) : Int) = fit (n : Int) := by
  unfold capN
  rw [Bool.eq_iff_iff, fit_iff, fit_iff]
  omega
theorem entC_eq {l : List Nat} {o r : List Int} (h : mayB (entC l o r) = true) : entC l o r = entOf l o r := by
  obtain ⟨hk, h1, h2, h3, h4, _⟩ := (may_iff _).1 h
  simp only [entC, fit_iff] at hk h1 h2 h3 h4
  simp only [entC, entOf, Ent.mk.injEq, and_true]
  unfold capN at *
  omega
theorem entOf_eq {l : List Nat} {o r : List Int} (h : mayB (entOf l o r) = true) : entC l o r = entOf l o r := by
  obtain ⟨hk, h1, h2, h3, h4, _⟩ := (may_iff _).1 h
  simp only [entOf, fit_iff] at hk h1 h2 h3 h4
  simp only [entC, entOf, Ent.mk.injEq, and_true]
  unfold capN at *
  omega
theorem entC_may {l : List Nat} {o r : List Int} : mayB (entC l o r) = mayB (entOf l o r) := by
  rw [Bool.eq_iff_iff]
  refine ⟨fun h => ?_, fun h => ?_⟩
  · rw [← entC_eq h]; exact h
  · rw [entOf_eq h]; exact h
theorem ord_len {bs : List Nat} (hb : ∀ b ∈ bs, b < 256) (h : errE bs = 0) : (offsQ bs).1.length ≤ 8 ∧ (ordQ bs).1.length ≤ 256 := by
  have h1 : (nums 9 bs []).2.2 = 0 := by
    unfold errE at h; split at h
    · exact h
    · omega
  have h2 : (offsQ bs).2.2 = 0 := by
    unfold errE at h; rw [if_neg (by omega)] at h; split at h
    · exact h
    · omega
  have h3 : (ordQ bs).2.2 = 0 := by
    unfold errE at h; rw [if_neg (by omega), if_neg (by omega)] at h; exact h
  have hb1 := (nums_lt (k := 9) (bs := bs) (acc := []) hb).1
  have q1 : getInts (nums 9 bs []).2.1 8 = ((offsQ bs).1, (offsQ bs).2.1, 0) := by rw [← h2]; rfl
  obtain ⟨_, a2, _, a4, _⟩ := getInts_back hb1 q1
  have q2 : getInts (offsQ bs).2.1 256 = ((ordQ bs).1, (ordQ bs).2.1, 0) := by rw [← h3]; rfl
  obtain ⟨_, c2, _, _, _⟩ := getInts_back a4 q2
  omega
theorem entD_eq (bs : List Nat) : entD bs = if errE bs ≠ 0 then (zE, errE bs)
    else if (ordQ bs).2.1 ≠ [] ∨ 1 < (nums 9 bs []).1.getD 8 0 ∨ mayB (entC (nums 9 bs []).1 (offsQ bs).1 (ordQ bs).1) = false then (zE, 5) else (entC (nums 9 bs []).1 (offsQ bs).1 (ordQ bs).1, 0) := by
  unfold entD
  by_cases h1 : (nums 9 bs []).2.2 ≠ 0
  · have : errE bs = (nums 9 bs []).2.2 := err_nums h1
    rw [if_pos h1, if_pos (by rw [this]; exact h1), this]
  · rw [if_neg h1]
    unfold entG
    change (if (offsQ bs).2.2 ≠ 0 then _ else if (ordQ bs).2.2 ≠ 0 then _ else _) = _
    by_cases h2 : (offsQ bs).2.2 ≠ 0
    · have : errE bs = (offsQ bs).2.2 := by unfold errE; rw [if_neg h1, if_pos h2]
      rw [if_pos h2, if_pos (by rw [this]; exact h2), this]
      rfl
    · have hE : errE bs = (ordQ bs).2.2 := by unfold errE; rw [if_neg h1, if_neg h2]
      rw [if_neg h2, hE]
      by_cases h3 : (ordQ bs).2.2 ≠ 0
      · rw [if_pos h3, if_pos h3]; rfl
      · rw [if_neg h3, if_neg h3, entC_may]
        change (if (ordQ bs).2.1 ≠ [] ∨ 1 < (nums 9 bs []).1.getD 8 0 ∨ mayB (entOf (nums 9 bs []).1 (offsQ bs).1 (ordQ bs).1) = false then (zE, 5) else (entOf (nums 9 bs []).1 (offsQ bs).1 (ordQ bs).1, 0)) = _
        by_cases h4 : (ordQ bs).2.1 ≠ [] ∨ 1 < (nums 9 bs []).1.getD 8 0 ∨ mayB (entOf (nums 9 bs []).1 (offsQ bs).1 (ordQ bs).1) = false
        · rw [if_pos h4, if_pos h4]
        · rw [if_neg h4, if_neg h4, entOf_eq]
          cases hh : mayB (entOf (nums 9 bs []).1 (offsQ bs).1 (ordQ bs).1) with
          | true => rfl
          | false => exact absurd (.inr (.inr hh)) h4

set_option maxHeartbeats 2000000 in
set_option maxRecDepth 10000 in
theorem pToRecord (s : V) (bs : List Nat) (h : AHeap) (rd : Rd h s bs) (hb : ∀ b ∈ bs, b < 256) (hc : bs.length ≤ 2 ^ 47) :
    Pure Tryd.prog 10 [s] h (.tuple [.agg (rcdE (recD bs).1), .int .i64 ((recD bs).2 : Nat)]) := by
  refine Pure.val (Clo.tuple (CloL.cons (Clo.agg (rcdE_clo _)) (CloL.cons (Clo.int _ _) CloL.nil))) ?_
  refine SCalls.enterI (c := _) Tryd.func10 rfl (by kernel_rfl) (by simp) ?_
  simp only [wpA_region, wpA_seq, seqQ_normal, goI_out, goI_ops, opsA_nil, opsA_cons, stepA_move, stepA_assign, stepA_alloc, stepA_call, thenH_some, eval_tmp, eval_const, put_some, enterF_zero, enterF_succ, absV_int, aAlloc_eq, Nat.reduceEqDiff, reduceCtorEq, List.map_cons, List.map_nil, Option.map_some, if_true, if_false, zc_23]
  obtain ⟨H, hH⟩ : ∃ y, y = h.push (.cells [.int .i64 0, .int .i64 0, .int .i64 0] 23 none) := ⟨_, rfl⟩
  have g0 : H.get h.n = .cells [.int .i64 0, .int .i64 0, .int .i64 0] 23 none := by rw [hH]; exact get_push_new
  have kH : Keep h H none_ := by rw [hH]; exact Keep.push _ _ _
  have nH : H.n = h.n + 1 := by rw [hH]; rfl
  rw [← hH]
  clear hH
  refine callI_of cal21 (From s bs H (rd.keep kH) hc) fun r h1 ⟨e1, r1, k1⟩ => ?_
  subst e1
  have p0 := (k1.get h.n (by omega) (by simp [none_])).trans g0
  have kk1 := kH.trans' k1
  have hin := r1.2.1
  simp only [wpA_region, wpA_seq, seqQ_normal, goI_out, goI_ops, opsA_nil, opsA_cons, stepA_move, stepA_assign, stepA_call, eval_tmp, put_some, enterF_succ, Nat.reduceEqDiff, List.map_cons, List.map_nil, if_true, if_false]
  refine callI_of cal22 (readRec _ _ bs h1 r1 hb hc) fun r h2 ⟨e2, k2, r2⟩ => ?_
  subst e2
  have q0 := (k2.get h.n (by omega) (by omega)).trans p0
  have kk2 : Keep h h2 none_ := kk1.trans k2 fun j hj hh => by omega
  have n2 := k2.n
  have hcr : ∀ x : Rcd, (V.agg (rcdE x)).cells = some [.int .i64 x.k, .int .i64 x.v, .int .i64 x.t] := fun _ => rfl
  by_cases he : (nums 3 bs []).2.2 = 0
  rotate_left
  · have hne : ((((nums 3 bs []).2.2 : Nat) : Int) != 0) = true := by simp; omega
    have hD : recD bs = (zR, (nums 3 bs []).2.2) := by unfold recD; rw [if_pos he]
    have q0p : ∀ o, (h2.push o).get h.n = _ := fun o => (get_push_lt (by omega)).trans q0
    simp only [wpA_region, wpA_seq, wpA_cond, wpA_ret, condI_true, seqQ_normal, seqQ_ret, endI_mk, goI_out, goI_ops, opsA_nil, opsA_cons, stepA_move, stepA_assign, stepA_alloc, stepA_build, stepA_store, stepA_binOp, stepA_extract, thenV_some, thenH_some, thenS_some, extV_zero, extV_succ, eval_tmp, eval_const, put_some, put_none, enterF_succ, aBin_neq, absV_int, cells_agg, one_int, all_nil, all_cons, aLoad_eq, loadGo_row, aPlace_ptr, dropC_cells, aStore_eq, storeGo_ptr, setC_row, setAll_nil, setAll_cons, aAlloc_eq, aBuild_go, aFill_nil, buildGo_struct, get_push_new, get_set_same, set_push, Nat.reduceEqDiff, Nat.reduceAdd, List.map_nil, Option.map_some, Nat.zero_add, Nat.zero_le, List.length_cons, List.length_nil, List.drop_zero, List.take_succ_cons, List.take_nil, List.set_cons_zero, List.set_cons_succ, if_true, if_false, Bool.and_self, Nat.le_refl, lt_23, pl_23, zc_23, zt_23, hcr, hne, q0p, retA_ret, Tryd.results10, resultsC_2, resultA_tmp, resultA_cell, res2_some]
    refine hid_mk ⟨by rw [hD]; rfl, ?_⟩
    exact (kk2.then_push _).trans (Keep.set _ _ _) fun j hj hh => by omega
  have hne : ((((nums 3 bs []).2.2 : Nat) : Int) != 0) = false := by simp [he]
  have r2 := r2 he
  have hrq : recQ (nums 3 bs []) = rcdOf (nums 3 bs []).1 := by rw [recQ, if_pos he]
  rw [hrq]
  have hD : recD bs = if timeOk (rcdOf (nums 3 bs []).1).t = false then (zR, 2) else if (nums 3 bs []).2.1 ≠ [] then (zR, 5) else (rcdOf (nums 3 bs []).1, 0) := by unfold recD; rw [if_neg (by omega)]
  rw [hD]
  generalize rcdOf (nums 3 bs []).1 = x
  generalize (nums 3 bs []).2.1 = rest at r2
  obtain ⟨H3, hH3⟩ : ∃ y, y = h2.push (.cells [.int .i64 x.k, .int .i64 x.v, .int .i64 x.t] 23 none) := ⟨_, rfl⟩
  have k3 : Keep h2 H3 none_ := by rw [hH3]; exact Keep.push _ _ _
  have s0 := (k3.get h.n (by omega) (by simp [none_])).trans q0
  have s2 : H3.get h2.n = .cells [.int .i64 x.k, .int .i64 x.v, .int .i64 x.t] 23 none := by rw [hH3]; exact get_push_new
  have kk3 := kk2.trans' k3
  have r3 := r2.keep k3 (by simp [none_])
  simp only [wpA_skip, wpA_region, wpA_seq, wpA_cond, condI_false, seqQ_normal, goI_out, goI_ops, opsA_nil, opsA_cons, stepA_move, stepA_assign, stepA_alloc, stepA_load, stepA_store, stepA_binOp, stepA_fieldAddr, stepA_extract, stepA_call, thenV_some, thenH_some, thenS_some, extV_zero, extV_succ, eval_tmp, eval_const, put_some, put_none, enterF_succ, aBin_neq, absV_int, one_int, all_nil, all_cons, aField_eq, fieldGo_ptr, aLoad_eq, loadGo_one, aPlace_ptr, dropC_cells, aStore_eq, storeGo_ptr, setC_row, setAll_nil, setAll_cons, aAlloc_eq, get_push_new, set_push, Nat.reduceEqDiff, Nat.reduceAdd, Nat.reduceLeDiff, List.map_cons, List.map_nil, Option.map_some, Nat.zero_add, List.length_cons, List.length_nil, List.drop_zero, List.drop_succ_cons, List.set_cons_zero, List.set_cons_succ, if_true, if_false, Bool.and_self, Nat.le_refl, ft_23_2, lt_2, zc_23, zt_23, hcr, hne]
  rw [← hH3]
  clear hH3
  refine callI_pure cal23 (pTime x.t H3) ?_
  cases hti : timeOk x.t
  · simp only [wpA_region, wpA_seq, wpA_cond, wpA_ret, condI_true, seqQ_normal, seqQ_ret, endI_mk, goI_out, goI_ops, opsA_nil, opsA_cons, stepA_assign, stepA_build, stepA_store, stepA_unOp, thenV_some, thenS_some, eval_tmp, eval_const, put_some, put_none, enterF_succ, aUn_not, absV_int, cells_agg, one_int, all_nil, all_cons, aLoad_eq, loadGo_row, aPlace_ptr, dropC_cells, aStore_eq, storeGo_ptr, setC_row, setAll_nil, setAll_cons, aBuild_go, aFill_nil, buildGo_struct, get_set_same, Nat.reduceEqDiff, Nat.reduceAdd, List.map_nil, Option.map_some, Nat.zero_add, Nat.zero_le, List.length_cons, List.length_nil, List.drop_zero, List.take_succ_cons, List.take_nil, List.set_cons_zero, List.set_cons_succ, if_true, if_false, Bool.and_self, Bool.not_false, Nat.le_refl, lt_23, pl_23, zc_23, zt_23, s0, retA_ret, Tryd.results10, resultsC_2, resultA_tmp, resultA_cell, res2_some]
    exact hid_mk ⟨rfl, kk3.trans (Keep.set _ _ _) fun j hj hh => by omega⟩
  simp only [wpA_skip, wpA_region, wpA_seq, wpA_cond, condI_false, seqQ_normal, goI_out, goI_ops, opsA_nil, opsA_cons, stepA_move, stepA_unOp, stepA_call, thenV_some, eval_tmp, put_some, put_none, enterF_succ, aUn_not, Nat.reduceEqDiff, List.map_cons, List.map_nil, if_true, if_false, Bool.not_true]
  refine callI_pure cal24 (Left H3 _ _ rest r3) ?_
  by_cases hre : rest = []
  · have hd : decide ((0 : Int) < ((rest.length : Nat) : Int)) = false := by rw [hre]; rfl
    simp only [wpA_skip, wpA_region, wpA_seq, wpA_cond, wpA_ret, condI_false, seqQ_normal, endI_mk, goI_out, goI_ops, opsA_nil, opsA_cons, stepA_assign, stepA_load, stepA_store, stepA_binOp, thenV_some, thenS_some, eval_tmp, eval_const, put_some, put_none, enterF_succ, aBin_gtr, absV_int, cells_agg, one_int, all_nil, all_cons, aLoad_eq, loadGo_row, aPlace_ptr, dropC_cells, aStore_eq, storeGo_ptr, setC_row, setAll_nil, setAll_cons, get_set_same, Nat.reduceEqDiff, Nat.reduceAdd, Option.map_some, Nat.zero_add, Nat.zero_le, List.length_cons, List.length_nil, List.drop_zero, List.take_succ_cons, List.take_nil, List.set_cons_zero, List.set_cons_succ, if_true, if_false, Bool.and_self, Nat.le_refl, lt_23, zt_23, s0, s2, hd, retA_ret, Tryd.results10, resultsC_2, resultA_tmp, resultA_cell, res2_some]
    exact hid_mk ⟨by simp [hre, rcdE], kk3.trans (Keep.set _ _ _) fun j hj hh => by omega⟩
  · have hd : decide ((0 : Int) < ((rest.length : Nat) : Int)) = true := by
      have := List.length_pos_iff.2 hre
      exact decide_eq_true (by omega)
    simp only [wpA_region, wpA_seq, wpA_cond, wpA_ret, condI_true, seqQ_normal, seqQ_ret, endI_mk, goI_out, goI_ops, opsA_nil, opsA_cons, stepA_assign, stepA_build, stepA_store, stepA_binOp, thenV_some, thenS_some, eval_tmp, eval_const, put_some, put_none, enterF_succ, aBin_gtr, absV_int, cells_agg, one_int, all_nil, all_cons, aLoad_eq, loadGo_row, aPlace_ptr, dropC_cells, aStore_eq, storeGo_ptr, setC_row, setAll_nil, setAll_cons, aBuild_go, aFill_nil, buildGo_struct, get_set_same, Nat.reduceEqDiff, Nat.reduceAdd, List.map_nil, Option.map_some, Nat.zero_add, Nat.zero_le, List.length_cons, List.length_nil, List.drop_zero, List.take_succ_cons, List.take_nil, List.set_cons_zero, List.set_cons_succ, if_true, if_false, Bool.and_self, Nat.le_refl, lt_23, pl_23, zc_23, zt_23, s0, hd, retA_ret, Tryd.results10, resultsC_2, resultA_tmp, resultA_cell, res2_some]
    exact hid_mk ⟨by simp [hre, rcdE, zR], kk3.trans (Keep.set _ _ _) fun j hj hh => by omega⟩

set_option maxHeartbeats 2000000 in
set_option maxRecDepth 10000 in
theorem pToEntry (s : V) (bs : List Nat) (h : AHeap) (hu : KU h) (rd : Rd h s bs) (hb : ∀ b ∈ bs, b < 256) (hc : bs.length ≤ 2 ^ 47) :
    Pure Tryd.prog 16 [s] h (.tuple [.agg (entE (entD bs).1), .int .i64 ((entD bs).2 : Nat)]) := by
  refine Pure.of (Clo.tuple (CloL.cons (Clo.agg (entE_clo _)) (CloL.cons (Clo.int _ _) CloL.nil))) ?_
  refine SCalls.enterI (c := _) Tryd.func16 rfl (by kernel_rfl) (by simp) ?_
  simp only [wpA_region, wpA_seq, seqQ_normal, goI_out, goI_ops, opsA_nil, opsA_cons, stepA_move, stepA_assign, stepA_alloc, stepA_call, thenH_some, eval_tmp, eval_const, put_some, enterF_zero, enterF_succ, absV_int, aAlloc_eq, Nat.reduceEqDiff, reduceCtorEq, List.map_cons, List.map_nil, Option.map_some, if_true, if_false, zc_35]
  obtain ⟨H, hH⟩ : ∃ y, y = h.push (.cells zeroS 35 none) := ⟨_, rfl⟩
  have g0 : H.get h.n = .cells zeroS 35 none := by rw [hH]; exact get_push_new
  have kH : Keep h H none_ := by rw [hH]; exact Keep.push _ _ _
  have nH : H.n = h.n + 1 := by rw [hH]; rfl
  unfold zeroS at hH g0
  rw [← hH]
  clear hH
  refine callI_of cal21 (From s bs H (rd.keep kH) hc) fun r h1 ⟨e1, r1, k1⟩ => ?_
  subst e1
  have p0 := (k1.get h.n (by omega) (by simp [none_])).trans g0
  have kk1 := kH.trans' k1
  have hin := r1.2.1
  simp only [wpA_region, wpA_seq, seqQ_normal, goI_out, goI_ops, opsA_nil, opsA_cons, stepA_move, stepA_assign, stepA_call, eval_tmp, put_some, enterF_succ, Nat.reduceEqDiff, List.map_cons, List.map_nil, if_true, if_false]
  refine callI_of cal34 (readEnt _ _ bs h1 r1 hb hc) fun r h2 ⟨x, d, e2, k2, x0, x1⟩ => ?_
  subst e2
  have q0 := (k2.get h.n (by omega) (by omega)).trans p0
  have kk2 : Keep h h2 none_ := kk1.trans k2 fun j hj hh => by omega
  have n2 := k2.n
  have hce : (V.agg (entE x)).cells = some (entE x) := rfl
  have hst : setC (some 11) (AObj.cells zeroS 35 none) 0 (entE x) = some (.cells (entE x) 35 none) := rfl
  have hst2 : ∀ c : List V, c = zeroS → setC (some 11) (AObj.cells c 35 none) 0 (entE x) = some (.cells (entE x) 35 none) := fun c hc => by rw [hc]; exact hst
  have hst3 := hst2 _ rfl
  unfold zeroS at hst3
  have hld : (if 11 ≤ (entE x).length then some (V.agg (List.take 11 (entE x))) else none) = some (.agg (entE x)) := rfl
  have hdr : dropC (AObj.cells (entE x) 35 none) 0 = some (entE x) := rfl
  rw [entD_eq]
  obtain ⟨H3, hH3⟩ : ∃ y, y = h2.push (.cells (entE x) 35 none) := ⟨_, rfl⟩
  have k3 : Keep h2 H3 none_ := by rw [hH3]; exact Keep.push _ _ _
  have s0 := (k3.get h.n (by omega) (by simp [none_])).trans q0
  have s2 : H3.get h2.n = .cells (entE x) 35 none := by rw [hH3]; exact get_push_new
  have kk3 := kk2.trans' k3
  simp only [wpA_region, wpA_seq, wpA_cond, seqQ_normal, goI_out, goI_ops, opsA_nil, opsA_cons, stepA_move, stepA_assign, stepA_alloc, stepA_store, stepA_binOp, stepA_extract, thenV_some, thenH_some, thenS_some, extV_zero, extV_succ, eval_tmp, eval_const, put_some, put_none, enterF_succ, aBin_neq, absV_int, aStore_eq, storeGo_ptr, aAlloc_eq, get_push_new, set_push, Nat.reduceEqDiff, Option.map_some, if_true, if_false, zc_35, zt_35, hce, hst3]
  by_cases he : errE bs = 0
  rotate_left
  · have hne : (((errE bs : Nat) : Int) != 0) = true := by simp; omega
    have hx := x0 he
    subst hx
    have q0p : ∀ o, (h2.push o).get h.n = _ := fun o => (get_push_lt (by omega)).trans q0
    simp only [wpA_region, wpA_seq, wpA_ret, condI_true, seqQ_normal, seqQ_ret, endI_mk, goI_out, goI_ops, opsA_nil, opsA_cons, stepA_move, stepA_assign, stepA_build, stepA_store, thenV_some, thenS_some, eval_tmp, put_some, put_none, enterF_succ, cells_agg, one_int, one_bool, one_snil, all_nil, all_cons, aLoad_eq, loadGo_row, aPlace_ptr, dropC_cells, aStore_eq, storeGo_ptr, setC_row, setAll_nil, setAll_cons, aBuild_go, aFill_nil, buildGo_struct, get_set_same, Nat.reduceEqDiff, Nat.reduceAdd, List.map_nil, Option.map_some, Nat.zero_add, Nat.zero_le, List.length_cons, List.length_nil, List.drop_zero, List.take_succ_cons, List.take_nil, List.set_cons_zero, List.set_cons_succ, if_true, if_false, Bool.and_self, Nat.le_refl, lt_35, pl_35, zc_35, zt_35, hne, q0p, retA_ret, Tryd.results16, resultsC_2, resultA_tmp, resultA_cell, res2_some]
    refine hid_mk ⟨_, by rw [if_pos he]; exact castZ _ _, ?_⟩
    exact (kk2.then_push _).trans (Keep.set _ _ _) fun j hj hh => by omega
  have hne : (((errE bs : Nat) : Int) != 0) = false := by simp [he]
  obtain ⟨x1, hd, r2⟩ := x1 he
  rw [if_neg (by omega), ← x1, ← hd]
  have r3 := r2.keep k3 (by simp [none_])
  have ol := ord_len hb he
  have hxl : eLen x := by rw [x1]; exact ⟨by simp only [entC]; omega, by simp only [entC]; omega⟩
  generalize (ordQ bs).2.1 = rest at r3
  simp only [wpA_skip, wpA_region, wpA_seq, condI_false, seqQ_normal, goI_ops, opsA_cons, stepA_move, stepA_call, eval_tmp, put_some, put_none, enterF_succ, Nat.reduceEqDiff, List.map_cons, List.map_nil, if_true, if_false, hne]
  rw [← hH3]
  clear hH3
  refine callI_pure cal24 (Left H3 _ _ rest r3) ?_
  have uH : KU H3 := by unfold KU; rw [kk3.glob]; exact hu
  have hz : (if rest ≠ [] ∨ 1 < d ∨ mayB x = false then (zE, 5) else (x, 0)) = if (!decide (rest = [])) || decide (1 < d) || !mayB x then (zE, 5) else (x, 0) := by simp [or_assoc]
  rw [hz]
  by_cases hre : rest = []
  rotate_left
  · have hd : decide ((0 : Int) < ((rest.length : Nat) : Int)) = true := by
      have := List.length_pos_iff.2 hre
      exact decide_eq_true (by omega)
    simp only [wpA_region, wpA_seq, wpA_cond, wpA_ret, condI_true, seqQ_normal, seqQ_ret, endI_mk, goI_out, goI_ops, opsA_nil, opsA_cons, opsA_guardS, gvI_tf, slotAt_zero, slotAt_succ, stepA_move, stepA_assign, stepA_pick, stepA_build, stepA_store, stepA_binOp, thenV_some, thenS_some, pickV_true, eval_tmp, eval_const, put_some, put_none, enterF_succ, aBin_gtr, absV_int, absV_bool, cells_agg, one_int, one_bool, one_snil, all_nil, all_cons, aLoad_eq, loadGo_row, aPlace_ptr, dropC_cells, aStore_eq, storeGo_ptr, setC_row, setAll_nil, setAll_cons, aBuild_go, aFill_nil, buildGo_struct, get_set_same, Nat.reduceEqDiff, Nat.reduceAdd, List.map_nil, Option.map_some, Nat.zero_add, Nat.zero_le, List.length_cons, List.length_nil, List.drop_zero, List.take_succ_cons, List.take_nil, List.set_cons_zero, List.set_cons_succ, if_true, if_false, Bool.and_self, Nat.le_refl, lt_35, pl_35, zc_35, zt_35, s0, hd, retA_ret, Tryd.results16, resultsC_2, resultA_tmp, resultA_cell, res2_some]
    refine hid_mk ⟨_, by simp only [hre, decide_false, Bool.not_false, Bool.true_or, if_true]; exact castZ _ _, ?_⟩
    exact kk3.trans (Keep.set _ _ _) fun j hj hh => by omega
  have hd0 : decide ((0 : Int) < ((rest.length : Nat) : Int)) = false := by rw [hre]; rfl
  by_cases hd1 : 1 < d
  · have hdd : decide ((1 : Int) < ((d : Nat) : Int)) = true := decide_eq_true (by omega)
    simp only [wpA_region, wpA_seq, wpA_cond, wpA_ret, condI_true, seqQ_normal, seqQ_ret, endI_mk, goI_out, goI_ops, opsA_nil, opsA_cons, opsA_guardS, gvI_same, gvI_tf, slotAt_zero, slotAt_succ, stepA_move, stepA_assign, stepA_pick, stepA_build, stepA_store, stepA_binOp, thenV_some, thenS_some, pickV_true, pickV_false, eval_tmp, eval_const, put_some, put_none, enterF_succ, aBin_gtr, absV_int, absV_bool, cells_agg, one_int, one_bool, one_snil, all_nil, all_cons, aLoad_eq, loadGo_row, aPlace_ptr, dropC_cells, aStore_eq, storeGo_ptr, setC_row, setAll_nil, setAll_cons, aBuild_go, aFill_nil, buildGo_struct, get_set_same, Nat.reduceEqDiff, Nat.reduceAdd, List.map_nil, Option.map_some, Nat.zero_add, Nat.zero_le, List.length_cons, List.length_nil, List.drop_zero, List.take_succ_cons, List.take_nil, List.set_cons_zero, List.set_cons_succ, if_true, if_false, Bool.and_self, Nat.le_refl, lt_35, pl_35, zc_35, zt_35, s0, hd0, hdd, retA_ret, Tryd.results16, resultsC_2, resultA_tmp, resultA_cell, res2_some]
    refine hid_mk ⟨_, by simp only [hd1, decide_true, Bool.or_true, Bool.true_or, if_true]; exact castZ _ _, ?_⟩
    exact kk3.trans (Keep.set _ _ _) fun j hj hh => by omega
  have hdd : decide ((1 : Int) < ((d : Nat) : Int)) = false := decide_eq_false (by omega)
  simp only [goI_ops, opsA_cons, opsA_guardS, gvI_same, slotAt_zero, slotAt_succ, stepA_move, stepA_pick, stepA_load, stepA_binOp, stepA_call, thenV_some, pickV_false, eval_tmp, eval_const, put_some, put_none, enterF_succ, aBin_gtr, absV_int, absV_bool, aLoad_eq, loadGo_row, aPlace_ptr, Nat.reduceEqDiff, List.map_cons, List.map_nil, if_true, if_false, lt_35, s2, hd0, hdd, hdr, hld]
  refine callI_pure cal19 (pMay x H3 uH hxl) ?_
  cases hm : mayB x
  · simp only [wpA_region, wpA_seq, wpA_cond, wpA_ret, condI_true, seqQ_normal, seqQ_ret, endI_mk, goI_out, goI_ops, opsA_nil, opsA_cons, opsA_guardS, gvI_same, slotAt_zero, slotAt_succ, stepA_assign, stepA_pick, stepA_build, stepA_store, stepA_unOp, thenV_some, thenS_some, pickV_false, eval_tmp, eval_const, put_some, put_none, enterF_succ, aUn_not, absV_int, absV_bool, cells_agg, one_int, one_bool, one_snil, all_nil, all_cons, aLoad_eq, loadGo_row, aPlace_ptr, dropC_cells, aStore_eq, storeGo_ptr, setC_row, setAll_nil, setAll_cons, aBuild_go, aFill_nil, buildGo_struct, get_set_same, Nat.reduceEqDiff, Nat.reduceAdd, List.map_nil, Option.map_some, Nat.zero_add, Nat.zero_le, List.length_cons, List.length_nil, List.drop_zero, List.take_succ_cons, List.take_nil, List.set_cons_zero, List.set_cons_succ, if_true, if_false, Bool.and_self, Bool.not_false, Nat.le_refl, lt_35, pl_35, zc_35, zt_35, s0, retA_ret, Tryd.results16, resultsC_2, resultA_tmp, resultA_cell, res2_some]
    refine hid_mk ⟨_, by simp only [Bool.not_false, Bool.or_true, if_true]; exact castZ _ _, ?_⟩
    exact kk3.trans (Keep.set _ _ _) fun j hj hh => by omega
  · simp only [wpA_skip, wpA_region, wpA_seq, wpA_cond, wpA_ret, condI_false, seqQ_normal, endI_mk, goI_out, goI_ops, opsA_nil, opsA_cons, opsA_guardS, gvI_same, slotAt_zero, slotAt_succ, stepA_assign, stepA_pick, stepA_load, stepA_store, stepA_unOp, thenV_some, thenS_some, pickV_false, eval_tmp, eval_const, put_some, put_none, enterF_succ, aUn_not, absV_int, absV_bool, aLoad_eq, loadGo_row, aPlace_ptr, aStore_eq, storeGo_ptr, get_set_same, Nat.reduceEqDiff, Option.map_some, if_true, if_false, Bool.not_true, lt_35, zt_35, s0, s2, hdr, hld, hce, hst3, retA_ret, Tryd.results16, resultsC_2, resultA_tmp, resultA_cell, res2_some]
    refine hid_mk ⟨_, by simp only [hre, hd1, decide_true, decide_false, Bool.not_true, Bool.or_false, Bool.false_eq_true, if_false]; exact Cast.refl _ _, ?_⟩
    exact kk3.trans (Keep.set _ _ _) fun j hj hh => by omega
end Go.Proofs.YtjphnabogfiahaaDoor.Pk
