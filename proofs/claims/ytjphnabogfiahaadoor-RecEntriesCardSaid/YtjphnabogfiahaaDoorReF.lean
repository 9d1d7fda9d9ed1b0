/-
  What functions of the program do, told of abstract states. Conditions: as each theorem says.
-/
import Derived.Test.YtjphnabogfiahaaDoorReE
namespace Go.Proofs.YtjphnabogfiahaaDoor.Pk
open Go Go.Proofs Go.Proofs.YtjphnabogfiahaaDoor.Ab
set_option linter.unusedVariables false
set_option linter.unusedSimpArgs false

theorem nums_acc : ∀ (k : Nat) (bs acc : List Nat), nums k bs acc = if (nums k bs []).2.2 = 0 then (acc ++ (nums k bs []).1, (nums k bs []).2.1, 0) else ([], [], (nums k bs []).2.2)
  | 0, bs, acc => by simp [nums]
  | k + 1, bs, acc => by
    by_cases he : (dec bs 0 0).2.2 = 0
    · rw [nums_ok he, nums_ok he, nums_acc k _ (acc ++ _), nums_acc k _ ([] ++ _)]
      by_cases h2 : (nums k (bs.drop (dec bs 0 0).2.1) []).2.2 = 0
      · simp [h2]
      · simp [h2]
    · rw [nums_err he, nums_err he]
      simp [he]
theorem nums_split (b : Nat) : ∀ (a : Nat) (bs acc : List Nat), nums (a + b) bs acc = if (nums a bs acc).2.2 = 0 then nums b (nums a bs acc).2.1 (nums a bs acc).1 else ([], [], (nums a bs acc).2.2)
  | 0, bs, acc => by simp [nums]
  | a + 1, bs, acc => by
    rw [show a + 1 + b = (a + b) + 1 by omega]
    by_cases he : (dec bs 0 0).2.2 = 0
    · rw [nums_ok he, nums_ok he, nums_split b a]
    · rw [nums_err he, nums_err he]
      simp [he]
theorem nums_len {k : Nat} {bs acc : List Nat} (h : (nums k bs acc).2.2 = 0) : (nums k bs acc).1.length = acc.length + k := by
  induction k generalizing bs acc with
  | zero => rfl
  | succ k ih =>
    by_cases he : (dec bs 0 0).2.2 = 0
    · rw [nums_ok he] at h ⊢
      rw [ih h]
      simp
      omega
    · rw [nums_err he] at h
      exact absurd h he
def recQ (q : List Nat × List Nat × Nat) : Rcd := if q.2.2 = 0 then rcdOf q.1 else zR
theorem set_snoc (acc : List Int) (m k : Nat) (x : Int) (hk : acc.length = k) (hm : k < m) : (acc ++ List.replicate (m - k) 0).set k x = (acc ++ [x]) ++ List.replicate (m - (k + 1)) 0 := by
  rw [List.set_append_right _ _ (by omega), hk, Nat.sub_self, show m - k = (m - (k + 1)) + 1 by omega, List.replicate_succ, List.set_cons_zero]
  simp

set_option maxHeartbeats 2000000 in
set_option maxRecDepth 10000 in
theorem readRec (p : V) (i : Nat) (bs : List Nat) (h : AHeap) (hr : IsRd h p i bs) (hb : ∀ b ∈ bs, b < 256) (hc : bs.length ≤ 2 ^ 47) :
    SCalls Tryd.prog 22 [p] h (fun r h' => r = .tuple [.agg (rcdE (recQ (nums 3 bs []))), .int .i64 ((nums 3 bs []).2.2 : Nat)] ∧ Keep h h' (· = i) ∧ ((nums 3 bs []).2.2 = 0 → IsRd h' p i (nums 3 bs []).2.1)) := by
  refine SCalls.enterI (c := _) Tryd.func22 rfl (by kernel_rfl) (by simp) ?_
  have hin := hr.2.1
  simp only [wpA_region, wpA_seq, wpA_block, wpA_loop, seqQ_normal, goI_out, goI_ops, opsA_nil, opsA_cons, stepA_move, stepA_assign, stepA_alloc, thenH_some, eval_const, absV_int, aAlloc_eq, push_n, Option.map_some, zc_23, zc_82]
  obtain ⟨H, hH⟩ : ∃ y, y = (h.push (.cells [.int .i64 0, .int .i64 0, .int .i64 0] 23 none)).push (.cells [.int .i64 0, .int .i64 0, .int .i64 0] 82 none) := ⟨_, rfl⟩
  have g0 : H.get h.n = .cells [.int .i64 0, .int .i64 0, .int .i64 0] 23 none := by rw [hH]; exact get_push2'
  have g1 : H.get (h.n + 1) = .cells (i64V [0, 0, 0]) 82 none := by rw [hH]; exact get_push2
  have kH : Keep h H none_ := by rw [hH]; exact (Keep.push _ _ _).then_push _
  have nH : H.n = h.n + 2 := by rw [hH]; rfl
  rw [← hH]
  clear hH
  refine SWp.loopG (α := Nat × List Nat × List Nat) (fun x f h' => f 0 = p ∧ f 2 = .ptr h.n 0 ∧ f 4 = .ptr (h.n + 1) 0 ∧ f 8 = .int .i64 (x.1 : Nat) ∧ x.1 ≤ 3 ∧ x.2.1.length = x.1 ∧
      h'.get h.n = .cells [.int .i64 0, .int .i64 0, .int .i64 0] 23 none ∧ h'.get (h.n + 1) = .cells (i64V (x.2.1.map unz ++ List.replicate (3 - x.1) 0)) 82 none ∧ Keep h h' (· = i) ∧ h.n + 2 ≤ h'.n ∧ IsRd h' p i x.2.2 ∧
      nums (3 - x.1) x.2.2 x.2.1 = nums 3 bs [] ∧ x.2.2.length ≤ bs.length ∧ ∀ b ∈ x.2.2, b < 256) (fun x => 3 - x.1) (0, [], bs)
    ⟨rfl, rfl, rfl, rfl, Nat.zero_le _, rfl, g0, g1, kH.up, by omega, hr.keep kH (by simp [none_]), rfl, Nat.le_refl _, hb⟩ ?_
  rintro ⟨k, acc, rest⟩ f h1 ⟨f0, f2, f4, f8, hk, ha, q0, q1, kk, hn, hrd, hnu, hl, hb2⟩
  simp only at f8 hk ha q1 hrd hnu hl hb2
  refine wpI_sound (by kernel_rfl) ?_
  by_cases hlast : k < 3
  · have d1 : decide ((k : Int) < 3) = true := decide_eq_true (by omega)
    have hw := inc64 hlast (by omega)
    simp only [wpA_skip, wpA_region, wpA_seq, wpA_cond, wpA_block, condI_true, seqQ_normal, goI_out, goI_ops, opsA_nil, opsA_cons, stepA_move, stepA_assign, stepA_binOp, stepA_call, thenV_some, eval_tmp, eval_const, put_some, aBin_lss, absV_int, Nat.reduceEqDiff, reduceCtorEq, List.map_cons, List.map_nil, if_true, if_false, f0, f8, d1]
    refine callI_of cal43 (RInt _ _ rest h1 hrd hb2 (by omega)) fun r h2 ⟨e2, r2, k2⟩ => ?_
    subst e2
    have q0' := (k2.get h.n (by omega) (by omega)).trans q0
    have q1' := (k2.get (h.n + 1) (by omega) (by omega)).trans q1
    rw [show 3 - k = (3 - (k + 1)) + 1 by omega] at hnu
    by_cases herr : (dec rest 0 0).2.2 = 0
    · have hne : ((((dec rest 0 0).2.2 : Nat) : Int) != 0) = false := by simp [herr]
      rw [nums_ok herr] at hnu
      have hst := dec_step hb2 herr
      have hix : (if (0 : Int) ≤ (k : Int) ∧ (k : Int) < ((3 : Nat) : Int) then some (V.ptr (h.n + 1) (0 + (k : Int).toNat * 1)) else none) = some (.ptr (h.n + 1) k) := by
        rw [if_pos ⟨by omega, by omega⟩]; simp
      have hix2 : (if (0 : Int) ≤ (k : Int) ∧ (k : Int) < ((3 : Nat) : Int) then some (V.ptr (h.n + 1) ((k : Int).toNat * 1)) else none) = some (.ptr (h.n + 1) k) := by
        rw [if_pos ⟨by omega, by omega⟩]; simp
      have hset : setC (some 1) (AObj.cells (i64V (acc.map unz ++ List.replicate (3 - k) 0)) 82 none) k [.int .i64 (unz (dec rest 0 0).1)] = some (.cells (i64V ((acc ++ [(dec rest 0 0).1]).map unz ++ List.replicate (3 - (k + 1)) 0)) 82 none) := by
        rw [setC_one rfl, if_pos (by simp [i64V, ha]; omega), i64V, i64V, ← List.map_set, set_snoc _ _ _ _ (by simp [ha]) hlast]
        simp
      simp only [wpA_skip, wpA_region, wpA_seq, wpA_cond, condI_false, seqQ_normal, blkQ_normal, endI_mk, andThen_normal, goI_out, goI_ops, opsA_nil, opsA_cons, stepA_move, stepA_assign, stepA_store, stepA_binOp, stepA_indexAddr, stepA_extract, thenV_some, thenS_some, extV_zero, extV_succ, eval_tmp, eval_const, put_some, put_none, aBin_add, aBin_neq, absV_int, cells_int, aStore_eq, storeGo_ptr, aIndexAddr_eq, ixGo_ptr, Nat.reduceEqDiff, Option.map_some, Nat.zero_add, if_true, if_false, as_82, ss_82, zt_2, f4, f8, hne, hix2, q1', hset, hw]
      refine hid_mk ⟨(k + 1, acc ++ [(dec rest 0 0).1], rest.drop (dec rest 0 0).2.1), ⟨f0, f2, f4, rfl, hlast, by simp [ha], ?_, ?_, ?_, ?_, ?_, hnu, ?_, mem_drop hb2 _⟩, by simp only; omega⟩
      · rw [get_set_ne (by omega)]; exact q0'
      · rw [get_set_same]
      · exact (kk.trans' k2).trans (Keep.set _ _ _) fun j hj hh => by omega
      · rw [set_n]; have := k2.n; omega
      · exact r2.keep (Keep.set _ _ _) (by omega)
      · simp only [List.length_drop]; omega
    · have hne : ((((dec rest 0 0).2.2 : Nat) : Int) != 0) = true := by simp; omega
      rw [nums_err herr] at hnu
      have hq2 : (nums 3 bs []).2.2 = (dec rest 0 0).2.2 := by rw [← hnu]
      simp only [wpA_region, wpA_seq, wpA_cond, wpA_ret, condI_true, seqQ_normal, seqQ_ret, blkQ_ret, endI_mk, goE, andThen_ret, goI_out, goI_ops, opsA_nil, opsA_cons, stepA_move, stepA_assign, stepA_build, stepA_store, stepA_binOp, stepA_extract, thenV_some, thenS_some, extV_zero, extV_succ, eval_tmp, eval_const, put_some, put_none, aBin_neq, absV_int, cells_agg, one_int, all_nil, all_cons, aLoad_eq, loadGo_row, aPlace_ptr, dropC_cells, aStore_eq, storeGo_ptr, setC_row, setAll_nil, setAll_cons, aBuild_go, aFill_nil, buildGo_struct, get_set_same, Nat.reduceEqDiff, Nat.reduceAdd, List.map_nil, Option.map_some, Nat.zero_add, Nat.zero_le, List.length_cons, List.length_nil, List.drop_zero, List.take_succ_cons, List.take_nil, List.set_cons_zero, List.set_cons_succ, if_true, if_false, Bool.and_self, Nat.le_refl, lt_23, pl_23, zc_23, zt_23, f2, hne, q0', retA_ret, Tryd.results22, resultsC_2, resultA_tmp, resultA_cell, res2_some]
      refine hid_mk ⟨?_, ?_, fun h0 => absurd (hq2 ▸ h0) herr⟩
      · rw [hq2, recQ, if_neg (by rw [hq2]; exact herr)]; rfl
      · exact (kk.trans' k2).trans (Keep.set _ _ _) fun j hj hh => by omega
  · have d1 : decide ((k : Int) < 3) = false := decide_eq_false (by omega)
    have hk3 : k = 3 := by omega
    subst hk3
    rw [Nat.sub_self, nums] at hnu
    match acc, ha with
    | [a, b, c], _ =>
      have q1' : h1.get (h.n + 1) = .cells [.int .i64 (unz a), .int .i64 (unz b), .int .i64 (unz c)] 82 none := q1
      have i0 : ((0 : Int) < ((3 : Nat) : Int)) = True := eq_true (by decide)
      have i1 : ((1 : Int) < ((3 : Nat) : Int)) = True := eq_true (by decide)
      have i2 : ((2 : Int) < ((3 : Nat) : Int)) = True := eq_true (by decide)
      simp only [wpA_region, wpA_seq, wpA_cond, wpA_exit, wpA_ret, condI_false, seqQ_normal, seqQ_exit, blkQ_exit, endI_mk, goE, andThen_exit, goI_out, goI_ops, opsA_nil, opsA_cons, stepA_assign, stepA_build, stepA_load, stepA_store, stepA_binOp, stepA_indexAddr, thenV_some, thenS_some, eval_tmp, eval_const, put_some, put_none, aBin_lss, absV_int, cells_int, cells_agg, one_int, all_nil, all_cons, aLoad_eq, loadGo_one, loadGo_row, aPlace_ptr, dropC_cells, aStore_eq, storeGo_ptr, setC_row, setAll_nil, setAll_cons, aIndexAddr_eq, ixGo_ptr, aBuild_go, aFill_nil, aFill_cons, fillGo_some, buildGo_struct, get_set_same, List.getElem?_cons_zero, List.getElem?_cons_succ, Int.reduceLE, Nat.reduceEqDiff, Nat.reduceAdd, Nat.reduceLeDiff, Nat.reduceMul, List.map_cons, List.map_nil, Option.map_some, Nat.add_zero, Nat.zero_add, Nat.zero_le, List.length_cons, List.length_nil, List.drop_zero, List.drop_succ_cons, List.take_succ_cons, List.take_nil, List.set_cons_zero, List.set_cons_succ, and_self, if_true, if_false, Bool.and_self, Nat.le_refl, as_82, lt_2, lt_23, pl_23, ss_82, zc_23, zt_23, f2, f4, f8, d1, q0, q1', i0, i1, i2, Int.toNat_zero, Int.toNat_one, Int.reduceToNat, retA_ret, Tryd.results22, resultsC_2, resultA_tmp, resultA_cell, res2_some]
      refine hid_mk ⟨?_, ?_, fun _ => ?_⟩
      · rw [← hnu]; rfl
      · exact kk.trans (Keep.set _ _ _) fun j hj hh => by omega
      · rw [← hnu]; exact hrd.keep (Keep.set _ _ _) (by omega)
end Go.Proofs.YtjphnabogfiahaaDoor.Pk
