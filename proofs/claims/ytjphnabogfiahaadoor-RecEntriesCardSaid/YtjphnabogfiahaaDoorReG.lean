/-
  What functions of the program do, told of abstract states. Conditions: as each theorem says.
-/
import Derived.Test.YtjphnabogfiahaaDoorReF
import Derived.Test.YtjphnabogfiahaaDoorAbD
import Derived.Test.YtjphnabogfiahaaDoorAbD
import Derived.Test.YtjphnabogfiahaaDoorAbD
namespace Go.Proofs.YtjphnabogfiahaaDoor.Pk
open Go Go.Proofs Go.Proofs.YtjphnabogfiahaaDoor.Ab
set_option linter.unusedVariables false
set_option linter.unusedSimpArgs false

def capN (n : Nat) : Nat := min n 1048577
def entC (l : List Nat) (o r : List Int) : Ent := ⟨(capN (l.getD 0 0) : Nat), (capN (l.getD 1 0) : Nat), (capN (l.getD 2 0) : Nat), (capN (l.getD 3 0) : Nat), (capN (l.getD 4 0) : Nat), ⟨unz (l.getD 5 0), unz (l.getD 6 0), unz (l.getD 7 0)⟩, l.getD 8 0 == 1, o, r⟩
def offsQ (bs : List Nat) : List Int × List Nat × Nat := getInts (nums 9 bs []).2.1 8
def ordQ (bs : List Nat) : List Int × List Nat × Nat := getInts (offsQ bs).2.1 256
def errE (bs : List Nat) : Nat := if (nums 9 bs []).2.2 ≠ 0 then (nums 9 bs []).2.2 else if (offsQ bs).2.2 ≠ 0 then (offsQ bs).2.2 else (ordQ bs).2.2
def zeroS : List V := [.int .i64 0, .int .i64 0, .int .i64 0, .int .i64 0, .int .i64 0, .int .i64 0, .int .i64 0, .int .i64 0, .bool false, .snil, .snil]
theorem wkZ : WkL zeroS (entE zE) :=
  WkL.cons (.refl _) (.cons (.refl _) (.cons (.refl _) (.cons (.refl _) (.cons (.refl _) (.cons (.refl _) (.cons (.refl _) (.cons (.refl _) (.cons (.refl _) (.cons .snil (.cons .snil (.refl _)))))))))))
theorem castZ (l : List V) (h : AHeap) : Cast (.tuple (.agg zeroS :: l)) h (.tuple (.agg (entE zE) :: l)) h := (WkV.tuple (WkL.cons (WkV.agg wkZ) (.refl _))).cast h
theorem err_nums {bs : List Nat} (h : (nums 9 bs []).2.2 ≠ 0) : errE bs = (nums 9 bs []).2.2 := by unfold errE; rw [if_pos h]

set_option maxHeartbeats 4000000 in
set_option maxRecDepth 10000 in
theorem readEnt (p : V) (i : Nat) (bs : List Nat) (h : AHeap) (hr : IsRd h p i bs) (hb : ∀ b ∈ bs, b < 256) (hc : bs.length ≤ 2 ^ 47) :
    SCalls Tryd.prog 34 [p] h (fun r h' => ∃ (x : Ent) (d : Nat), r = .tuple [.agg (entE x), .int .u64 (d : Nat), .int .i64 (errE bs : Nat)] ∧ Keep h h' (· = i) ∧ (errE bs ≠ 0 → x = zE) ∧
      (errE bs = 0 → x = entC (nums 9 bs []).1 (offsQ bs).1 (ordQ bs).1 ∧ d = (nums 9 bs []).1.getD 8 0 ∧ IsRd h' p i (ordQ bs).2.1)) := by
  refine SCalls.cast ?_
  refine SCalls.enterI (c := _) Tryd.func34 rfl (by kernel_rfl) (by simp) ?_
  have hin := hr.2.1
  simp only [wpA_region, wpA_seq, wpA_block, wpA_loop, seqQ_normal, goI_out, goI_ops, opsA_nil, opsA_cons, stepA_move, stepA_assign, stepA_alloc, thenH_some, eval_const, absV_int, aAlloc_eq, push_n, Option.map_some, zc_35, zc_61]
  obtain ⟨H, hH⟩ : ∃ y, y = (h.push (.cells zeroS 35 none)).push (.cells [.int .i64 0, .int .i64 0, .int .i64 0, .int .i64 0, .int .i64 0] 61 none) := ⟨_, rfl⟩
  have g0 : H.get h.n = .cells zeroS 35 none := by rw [hH]; exact get_push2'
  have g1 : H.get (h.n + 1) = .cells (i64V [0, 0, 0, 0, 0]) 61 none := by rw [hH]; exact get_push2
  have kH : Keep h H none_ := by rw [hH]; exact (Keep.push _ _ _).then_push _
  have nH : H.n = h.n + 2 := by rw [hH]; rfl
  unfold zeroS at hH
  rw [← hH]
  clear hH
  have hN : nums 9 bs [] = if (nums 5 bs []).2.2 = 0 then nums 4 (nums 5 bs []).2.1 (nums 5 bs []).1 else ([], [], (nums 5 bs []).2.2) := nums_split 4 5 bs []
  refine SWp.loopG (α := Nat × List Nat × List Nat) (fun x f h' => f 0 = p ∧ f 2 = .ptr h.n 0 ∧ f 5 = .ptr (h.n + 1) 0 ∧ f 14 = .int .i64 (x.1 : Nat) ∧ x.1 ≤ 5 ∧ x.2.1.length = x.1 ∧
      h'.get h.n = .cells zeroS 35 none ∧ h'.get (h.n + 1) = .cells (i64V (x.2.1.map (fun n : Nat => ((capN n : Nat) : Int)) ++ List.replicate (5 - x.1) 0)) 61 none ∧ Keep h h' (· = i) ∧ h.n + 2 ≤ h'.n ∧ IsRd h' p i x.2.2 ∧
      nums (5 - x.1) x.2.2 x.2.1 = nums 5 bs [] ∧ x.2.2.length ≤ bs.length ∧ ∀ b ∈ x.2.2, b < 256) (fun x => 5 - x.1) (0, [], bs)
    ⟨rfl, rfl, rfl, rfl, Nat.zero_le _, rfl, g0, g1, kH.up, by omega, hr.keep kH (by simp [none_]), rfl, Nat.le_refl _, hb⟩ ?_
  rintro ⟨k, acc, rest⟩ f h1 ⟨f0, f2, f5, f14, hk, ha, q0, q1, kk, hn, hrd, hnu, hl, hb2⟩
  simp only at f14 hk ha q1 hrd hnu hl hb2
  refine wpI_sound (by kernel_rfl) ?_
  have hzs : setC (some 11) (AObj.cells zeroS 35 none) 0 zeroS = some (.cells zeroS 35 none) := rfl
  have hzl : (if 11 ≤ zeroS.length then some (V.agg (zeroS.take 11)) else none) = some (.agg zeroS) := rfl
  by_cases hlast : k < 5
  · have d1 : decide ((k : Int) < 5) = true := decide_eq_true (by omega)
    have hw := inc64 hlast (by omega)
    simp only [wpA_skip, wpA_region, wpA_seq, wpA_cond, wpA_block, condI_true, seqQ_normal, goI_out, goI_ops, opsA_nil, opsA_cons, stepA_move, stepA_assign, stepA_binOp, stepA_call, thenV_some, eval_tmp, eval_const, put_some, aBin_lss, absV_int, Nat.reduceEqDiff, reduceCtorEq, List.map_cons, List.map_nil, if_true, if_false, f0, f14, d1]
    refine callI_of cal49 (RUint _ _ rest h1 hrd hb2 (by omega)) fun r h2 ⟨e2, r2, k2⟩ => ?_
    subst e2
    have q0' := (k2.get h.n (by omega) (by omega)).trans q0
    have q1' := (k2.get (h.n + 1) (by omega) (by omega)).trans q1
    rw [show 5 - k = (5 - (k + 1)) + 1 by omega] at hnu
    by_cases herr : (dec rest 0 0).2.2 = 0
    · have hne : ((((dec rest 0 0).2.2 : Nat) : Int) != 0) = false := by simp [herr]
      rw [nums_ok herr] at hnu
      have hst := dec_step hb2 herr
      have hix : (if (0 : Int) ≤ (k : Int) ∧ (k : Int) < ((5 : Nat) : Int) then some (V.ptr (h.n + 1) ((k : Int).toNat * 1)) else none) = some (.ptr (h.n + 1) k) := by
        rw [if_pos ⟨by omega, by omega⟩]; simp
      have hcap : IntKind.i64.wrap (min (((dec rest 0 0).1 : Nat) : Int) 1048577) = ((capN (dec rest 0 0).1 : Nat) : Int) := by
        unfold capN
        rw [Go.IntWalk.i64_in _ (by omega)]
        omega
      have hset : setC (some 1) (AObj.cells (i64V (acc.map (fun n : Nat => ((capN n : Nat) : Int)) ++ List.replicate (5 - k) 0)) 61 none) k [.int .i64 ((capN (dec rest 0 0).1 : Nat) : Int)] = some (.cells (i64V ((acc ++ [(dec rest 0 0).1]).map (fun n : Nat => ((capN n : Nat) : Int)) ++ List.replicate (5 - (k + 1)) 0)) 61 none) := by
        rw [setC_one rfl, if_pos (by simp [i64V, ha]; omega), i64V, i64V, ← List.map_set, set_snoc _ _ _ _ (by simp [ha]) hlast]
        simp
      simp only [wpA_skip, wpA_region, wpA_seq, wpA_cond, condI_false, seqQ_normal, blkQ_normal, endI_mk, andThen_normal, goI_out, goI_ops, opsA_nil, opsA_cons, stepA_move, stepA_assign, stepA_store, stepA_binOp, stepA_convert, stepA_indexAddr, stepA_extract, stepA_min, thenV_some, thenS_some, extV_zero, extV_succ, eval_tmp, eval_const, put_some, put_none, aBin_add, aBin_neq, mmV_min, absV_int, cells_int, aStore_eq, storeGo_ptr, aIndexAddr_eq, ixGo_ptr, Nat.reduceEqDiff, Option.map_some, Nat.zero_add, if_true, if_false, as_61, ss_61, zt_3, f5, f14, hne, hix, q1', aConv_int it_63 it_3, hcap, hset, hw]
      refine hid_mk ⟨(k + 1, acc ++ [(dec rest 0 0).1], rest.drop (dec rest 0 0).2.1), ⟨f0, f2, f5, rfl, hlast, by simp [ha], ?_, ?_, ?_, ?_, ?_, hnu, ?_, mem_drop hb2 _⟩, by simp only; omega⟩
      · rw [get_set_ne (by omega)]; exact q0'
      · rw [get_set_same]
      · exact (kk.trans' k2).trans (Keep.set _ _ _) fun j hj hh => by omega
      · rw [set_n]; have := k2.n; omega
      · exact r2.keep (Keep.set _ _ _) (by omega)
      · simp only [List.length_drop]; omega
    · have hne : ((((dec rest 0 0).2.2 : Nat) : Int) != 0) = true := by simp; omega
      rw [nums_err herr] at hnu
      have hq2 : (nums 5 bs []).2.2 = (dec rest 0 0).2.2 := by rw [← hnu]
      have hE : errE bs = (dec rest 0 0).2.2 := by
        rw [if_neg (by rw [hq2]; exact herr), hq2] at hN
        rw [err_nums (by rw [hN]; exact herr), hN]
      unfold zeroS at q0'
      simp only [wpA_region, wpA_seq, wpA_cond, wpA_ret, condI_true, seqQ_normal, seqQ_ret, blkQ_ret, endI_mk, goE, andThen_ret, goI_out, goI_ops, opsA_nil, opsA_cons, stepA_move, stepA_assign, stepA_build, stepA_store, stepA_binOp, stepA_extract, thenV_some, thenS_some, extV_zero, extV_succ, eval_tmp, eval_const, put_some, put_none, aBin_neq, absV_int, cells_agg, one_int, one_bool, one_snil, all_nil, all_cons, aLoad_eq, loadGo_row, aPlace_ptr, dropC_cells, aStore_eq, storeGo_ptr, setC_row, setAll_nil, setAll_cons, aBuild_go, aFill_nil, buildGo_struct, get_set_same, Nat.reduceEqDiff, Nat.reduceAdd, List.map_nil, Option.map_some, Nat.zero_add, Nat.zero_le, List.length_cons, List.length_nil, List.drop_zero, List.take_succ_cons, List.take_nil, List.set_cons_zero, List.set_cons_succ, if_true, if_false, Bool.and_self, Nat.le_refl, lt_35, pl_35, zc_35, zt_35, f2, hne, q0', retA_ret, Tryd.results34, resultsC_3, resultA_tmp, resultA_cell, res3_some]
      refine hid_mk ⟨_, _, castZ _ _, zE, 0, by rw [hE]; rfl, ?_, fun _ => rfl, fun h0 => absurd (hE ▸ h0) herr⟩
      exact (kk.trans' k2).trans (Keep.set _ _ _) fun j hj hh => by omega
  · have d1 : decide ((k : Int) < 5) = false := decide_eq_false (by omega)
    have hk5 : k = 5 := by omega
    subst hk5
    rw [Nat.sub_self, nums] at hnu
    have hN : nums 9 bs [] = nums 4 rest acc := by rw [hN, ← hnu]; rfl
    have hN : nums 9 bs [] = if (nums 3 rest acc).2.2 = 0 then nums 1 (nums 3 rest acc).2.1 (nums 3 rest acc).1 else ([], [], (nums 3 rest acc).2.2) := by rw [hN]; exact nums_split 1 3 rest acc
    rw [nums_acc 3 rest acc] at hN
    match acc, ha with
    | [a, b, c, d, e], _ =>
      have q1' : h1.get (h.n + 1) = .cells [.int .i64 (capN a : Nat), .int .i64 (capN b : Nat), .int .i64 (capN c : Nat), .int .i64 (capN d : Nat), .int .i64 (capN e : Nat)] 61 none := q1
      clear q1
      simp only [wpA_region, wpA_seq, wpA_cond, wpA_exit, condI_false, seqQ_normal, seqQ_exit, blkQ_exit, endI_mk, goE, andThen_exit, goI_out, goI_ops, opsA_nil, opsA_cons, stepA_move, stepA_binOp, stepA_call, thenV_some, eval_tmp, eval_const, put_some, aBin_lss, absV_int, Nat.reduceEqDiff, reduceCtorEq, List.map_cons, List.map_nil, if_true, if_false, f0, f14, d1]
      refine callI_of cal22 (readRec _ _ rest h1 hrd hb2 (by omega)) fun r h2 ⟨e2, k2, r2⟩ => ?_
      subst e2
      have p0 := (k2.get h.n (by omega) (by omega)).trans q0
      have p1 := (k2.get (h.n + 1) (by omega) (by omega)).trans q1'
      have kk2 := kk.trans' k2
      have n2 : h.n + 2 ≤ h2.n := Nat.le_trans hn k2.n
      generalize hq3 : nums 3 rest [] = Q3 at hN r2
      obtain ⟨l3, rest3, er3⟩ := Q3
      simp only at hN r2
      have hcr : ∀ x : Rcd, (V.agg (rcdE x)).cells = some (rcdE x) := fun _ => rfl
      by_cases he3 : er3 = 0
      rotate_left
      · have hne : (((er3 : Nat) : Int) != 0) = true := by simp; omega
        rw [if_neg he3, if_neg he3] at hN
        have hE : errE bs = er3 := by rw [err_nums (by rw [hN]; exact he3), hN]
        have p0' := p0
        unfold zeroS at p0'
        have hrq : recQ (l3, rest3, er3) = zR := by rw [recQ, if_neg he3]
        have p0p : ∀ o, (h2.push o).get h.n = _ := fun o => (get_push_lt (by omega)).trans p0'
        simp only [wpA_region, wpA_seq, wpA_cond, wpA_ret, condI_true, seqQ_normal, seqQ_ret, endI_mk, goI_out, goI_ops, opsA_nil, opsA_cons, stepA_move, stepA_assign, stepA_alloc, stepA_build, stepA_store, stepA_binOp, stepA_extract, thenV_some, thenH_some, thenS_some, extV_zero, extV_succ, eval_tmp, eval_const, put_some, put_none, aBin_neq, absV_int, cells_agg, one_int, one_bool, one_snil, all_nil, all_cons, aLoad_eq, loadGo_row, aPlace_ptr, dropC_cells, aStore_eq, storeGo_ptr, setC_row, setAll_nil, setAll_cons, aAlloc_eq, aBuild_go, aFill_nil, buildGo_struct, get_push_new, get_set_same, set_push, Nat.reduceEqDiff, Nat.reduceAdd, List.map_nil, Option.map_some, Nat.zero_add, Nat.zero_le, List.length_cons, List.length_nil, List.drop_zero, List.take_succ_cons, List.take_nil, List.set_cons_zero, List.set_cons_succ, if_true, if_false, Bool.and_self, Nat.le_refl, lt_35, pl_35, zc_23, zc_35, zt_23, zt_35, f2, hrq, rcdE, zR, hne, p0p, retA_ret, Tryd.results34, resultsC_3, resultA_tmp, resultA_cell, res3_some]
        refine hid_mk ⟨_, _, castZ _ _, zE, 0, by rw [hE]; rfl, ?_, fun _ => rfl, fun h0 => absurd (hE ▸ h0) he3⟩
        exact (kk2.then_push _).trans (Keep.set _ _ _) fun j hj hh => by omega
      subst he3
      have r2 := r2 rfl
      have hlen3 : l3.length = 3 := by have := nums_len (k := 3) (bs := rest) (acc := []) (by rw [hq3]); rw [hq3] at this; simpa using this
      have hlt3 := nums_lt (k := 3) (bs := rest) (acc := []) hb2
      rw [hq3] at hlt3
      simp only at hlt3
      rw [if_pos rfl] at hN
      simp only [if_true] at hN
      have hrq : recQ (l3, rest3, 0) = rcdOf l3 := by rw [recQ, if_pos rfl]
      obtain ⟨H3, hH3⟩ : ∃ y, y = h2.push (.cells (rcdE (rcdOf l3)) 23 none) := ⟨_, rfl⟩
      have k3 : Keep h2 H3 none_ := by rw [hH3]; exact Keep.push _ _ _
      have s0 := (k3.get h.n (by omega) (by simp [none_])).trans p0
      have s1 := (k3.get (h.n + 1) (by omega) (by simp [none_])).trans p1
      have s2 : H3.get h2.n = .cells [.int .i64 (rcdOf l3).k, .int .i64 (rcdOf l3).v, .int .i64 (rcdOf l3).t] 23 none := by rw [hH3]; exact get_push_new
      have n3 : H3.n = h2.n + 1 := by rw [hH3]; rfl
      have kk3 := kk2.trans' (k3.up (o := (· = i)))
      have r3 := r2.keep k3 (by simp [none_])
      unfold rcdE at hH3
      have z0 : (((0 : Nat) : Int) != 0) = false := rfl
      simp only [wpA_skip, wpA_region, wpA_seq, wpA_cond, condI_false, seqQ_normal, goI_out, goI_ops, opsA_nil, opsA_cons, stepA_move, stepA_assign, stepA_alloc, stepA_store, stepA_binOp, stepA_extract, stepA_call, thenV_some, thenH_some, thenS_some, extV_zero, extV_succ, eval_tmp, eval_const, put_some, put_none, aBin_neq, absV_int, cells_agg, one_int, all_nil, all_cons, aStore_eq, storeGo_ptr, setC_row, setAll_nil, setAll_cons, aAlloc_eq, get_push_new, set_push, Nat.reduceEqDiff, Nat.reduceAdd, reduceCtorEq, List.map_cons, List.map_nil, Option.map_some, Nat.zero_add, List.length_cons, List.length_nil, List.set_cons_zero, List.set_cons_succ, if_true, if_false, Bool.and_self, Nat.le_refl, zc_23, zt_23, f0, hrq, rcdE, z0]
      rw [← hH3]
      clear hH3
      refine callI_of cal49 (RUint _ _ rest3 H3 r3 hlt3.1 (by omega)) fun r h4 ⟨e4, r4, k4⟩ => ?_
      subst e4
      have t0 := (k4.get h.n (by omega) (by omega)).trans s0
      have t1 := (k4.get (h.n + 1) (by omega) (by omega)).trans s1
      have t2 := (k4.get h2.n (by omega) (by omega)).trans s2
      have kk4 := kk3.trans' k4
      have n4 := k4.n
      by_cases he4 : (dec rest3 0 0).2.2 = 0
      rotate_left
      · have hne : ((((dec rest3 0 0).2.2 : Nat) : Int) != 0) = true := by simp; omega
        rw [nums_err he4] at hN
        have hE : errE bs = (dec rest3 0 0).2.2 := by rw [err_nums (by rw [hN]; exact he4), hN]
        unfold zeroS at t0
        simp only [wpA_region, wpA_seq, wpA_cond, wpA_ret, condI_true, seqQ_normal, seqQ_ret, endI_mk, goI_out, goI_ops, opsA_nil, opsA_cons, stepA_move, stepA_assign, stepA_build, stepA_store, stepA_binOp, stepA_extract, thenV_some, thenS_some, extV_zero, extV_succ, eval_tmp, eval_const, put_some, put_none, aBin_neq, absV_int, cells_agg, one_int, one_bool, one_snil, all_nil, all_cons, aLoad_eq, loadGo_row, aPlace_ptr, dropC_cells, aStore_eq, storeGo_ptr, setC_row, setAll_nil, setAll_cons, aBuild_go, aFill_nil, buildGo_struct, get_set_same, Nat.reduceEqDiff, Nat.reduceAdd, List.map_nil, Option.map_some, Nat.zero_add, Nat.zero_le, List.length_cons, List.length_nil, List.drop_zero, List.take_succ_cons, List.take_nil, List.set_cons_zero, List.set_cons_succ, if_true, if_false, Bool.and_self, Nat.le_refl, lt_35, pl_35, zc_35, zt_35, f2, hne, t0, retA_ret, Tryd.results34, resultsC_3, resultA_tmp, resultA_cell, res3_some]
        refine hid_mk ⟨_, _, castZ _ _, zE, 0, by rw [hE]; rfl, ?_, fun _ => rfl, fun h0 => absurd (hE ▸ h0) he4⟩
        exact kk4.trans (Keep.set _ _ _) fun j hj hh => by omega
      have hne4 : ((((dec rest3 0 0).2.2 : Nat) : Int) != 0) = false := by simp [he4]
      rw [nums_ok he4, nums] at hN
      simp only [wpA_skip, wpA_region, wpA_seq, wpA_cond, condI_false, seqQ_normal, goI_out, goI_ops, opsA_nil, opsA_cons, stepA_move, stepA_assign, stepA_binOp, stepA_extract, stepA_call, thenV_some, extV_zero, extV_succ, eval_tmp, eval_const, put_some, put_none, aBin_neq, absV_int, Nat.reduceEqDiff, reduceCtorEq, List.map_cons, List.map_nil, if_true, if_false, f0, hne4]
      have hN1 : (nums 9 bs []).1 = [a, b, c, d, e] ++ l3 ++ [(dec rest3 0 0).1] := by rw [hN]
      have hN2 : (nums 9 bs []).2.1 = rest3.drop (dec rest3 0 0).2.1 := by rw [hN]
      have hN3 : (nums 9 bs []).2.2 = 0 := by rw [hN]
      have hO : offsQ bs = getInts (rest3.drop (dec rest3 0 0).2.1) 8 := by rw [offsQ, hN2]
      have hb4 : ∀ b ∈ rest3.drop (dec rest3 0 0).2.1, b < 256 := mem_drop hlt3.1 _
      have hl4 : (rest3.drop (dec rest3 0 0).2.1).length ≤ 2 ^ 47 := by simp only [List.length_drop]; omega
      refine callI_of cal50 (RIntsG _ _ _ 8 h4 r4 hb4 hl4 (.inr (by decide)) (by decide)) fun r h5 ⟨e5, r5, k5⟩ => ?_
      rw [← hO] at e5 r5
      subst e5
      have u0 := (k5.get h.n (by omega) (by omega)).trans t0
      have u1 := (k5.get (h.n + 1) (by omega) (by omega)).trans t1
      have u2 := (k5.get h2.n (by omega) (by omega)).trans t2
      have kk5 := kk4.trans' k5
      have n5 := k5.n
      by_cases he5 : (offsQ bs).2.2 = 0
      rotate_left
      · have hne : ((((offsQ bs).2.2 : Nat) : Int) != 0) = true := by simp; omega
        have hE : errE bs = (offsQ bs).2.2 := by unfold errE; rw [if_neg (by omega), if_pos he5]
        unfold zeroS at u0
        simp only [wpA_region, wpA_seq, wpA_cond, wpA_ret, condI_true, seqQ_normal, seqQ_ret, endI_mk, goI_out, goI_ops, opsA_nil, opsA_cons, stepA_move, stepA_assign, stepA_build, stepA_store, stepA_binOp, stepA_extract, thenV_some, thenS_some, extV_zero, extV_succ, eval_tmp, eval_const, put_some, put_none, aBin_neq, absV_int, cells_agg, one_int, one_bool, one_snil, all_nil, all_cons, aLoad_eq, loadGo_row, aPlace_ptr, dropC_cells, aStore_eq, storeGo_ptr, setC_row, setAll_nil, setAll_cons, aBuild_go, aFill_nil, buildGo_struct, get_set_same, Nat.reduceEqDiff, Nat.reduceAdd, List.map_nil, Option.map_some, Nat.zero_add, Nat.zero_le, List.length_cons, List.length_nil, List.drop_zero, List.take_succ_cons, List.take_nil, List.set_cons_zero, List.set_cons_succ, if_true, if_false, Bool.and_self, Nat.le_refl, lt_35, pl_35, zc_35, zt_35, f2, hne, u0, retA_ret, Tryd.results34, resultsC_3, resultA_tmp, resultA_cell, res3_some]
        refine hid_mk ⟨_, _, castZ _ _, zE, 0, by rw [hE]; rfl, ?_, fun _ => rfl, fun h0 => absurd (hE ▸ h0) he5⟩
        exact kk5.trans (Keep.set _ _ _) fun j hj hh => by omega
      have hne5 : ((((offsQ bs).2.2 : Nat) : Int) != 0) = false := by simp [he5]
      simp only [wpA_skip, wpA_region, wpA_seq, wpA_cond, condI_false, seqQ_normal, goI_out, goI_ops, opsA_nil, opsA_cons, stepA_move, stepA_assign, stepA_binOp, stepA_extract, stepA_call, thenV_some, extV_zero, extV_succ, eval_tmp, eval_const, put_some, put_none, aBin_neq, absV_int, Nat.reduceEqDiff, reduceCtorEq, List.map_cons, List.map_nil, if_true, if_false, f0, hne5]
      have hW : ordQ bs = getInts (offsQ bs).2.1 256 := rfl
      have hgl := getInts_lt (bs := rest3.drop (dec rest3 0 0).2.1) 8 hb4
      rw [← hO] at hgl
      refine callI_of cal50 (RIntsG _ _ _ 256 h5 r5 hgl.1 (by omega) (.inr (by decide)) (by decide)) fun r h6 ⟨e6, r6, k6⟩ => ?_
      rw [← hW] at e6 r6
      subst e6
      have v0 := (k6.get h.n (by omega) (by omega)).trans u0
      have v1 := (k6.get (h.n + 1) (by omega) (by omega)).trans u1
      have v2 := (k6.get h2.n (by omega) (by omega)).trans u2
      have kk6 := kk5.trans' k6
      have n6 := k6.n
      by_cases he6 : (ordQ bs).2.2 = 0
      rotate_left
      · have hne : ((((ordQ bs).2.2 : Nat) : Int) != 0) = true := by simp; omega
        have hE : errE bs = (ordQ bs).2.2 := by unfold errE; rw [if_neg (by omega), if_neg (by omega)]
        unfold zeroS at v0
        simp only [wpA_region, wpA_seq, wpA_cond, wpA_ret, condI_true, seqQ_normal, seqQ_ret, endI_mk, goI_out, goI_ops, opsA_nil, opsA_cons, stepA_move, stepA_assign, stepA_build, stepA_store, stepA_binOp, stepA_extract, thenV_some, thenS_some, extV_zero, extV_succ, eval_tmp, eval_const, put_some, put_none, aBin_neq, absV_int, cells_agg, one_int, one_bool, one_snil, all_nil, all_cons, aLoad_eq, loadGo_row, aPlace_ptr, dropC_cells, aStore_eq, storeGo_ptr, setC_row, setAll_nil, setAll_cons, aBuild_go, aFill_nil, buildGo_struct, get_set_same, Nat.reduceEqDiff, Nat.reduceAdd, List.map_nil, Option.map_some, Nat.zero_add, Nat.zero_le, List.length_cons, List.length_nil, List.drop_zero, List.take_succ_cons, List.take_nil, List.set_cons_zero, List.set_cons_succ, if_true, if_false, Bool.and_self, Nat.le_refl, lt_35, pl_35, zc_35, zt_35, f2, hne, v0, retA_ret, Tryd.results34, resultsC_3, resultA_tmp, resultA_cell, res3_some]
        refine hid_mk ⟨_, _, castZ _ _, zE, 0, by rw [hE]; rfl, ?_, fun _ => rfl, fun h0 => absurd (hE ▸ h0) he6⟩
        exact kk6.trans (Keep.set _ _ _) fun j hj hh => by omega
      have hne6 : ((((ordQ bs).2.2 : Nat) : Int) != 0) = false := by simp [he6]
      have hE : errE bs = 0 := by unfold errE; rw [if_neg (by omega), if_neg (by omega), he6]
      unfold zeroS at v0
      have i0 : ((0 : Int) < ((5 : Nat) : Int)) = True := eq_true (by decide)
      have i1 : ((1 : Int) < ((5 : Nat) : Int)) = True := eq_true (by decide)
      have i2 : ((2 : Int) < ((5 : Nat) : Int)) = True := eq_true (by decide)
      have i3 : ((3 : Int) < ((5 : Nat) : Int)) = True := eq_true (by decide)
      have i4 : ((4 : Int) < ((5 : Nat) : Int)) = True := eq_true (by decide)
      simp only [wpA_skip, wpA_region, wpA_seq, wpA_cond, wpA_ret, condI_false, seqQ_normal, endI_mk, goI_out, goI_ops, opsA_nil, opsA_cons, stepA_move, stepA_assign, stepA_build, stepA_load, stepA_store, stepA_binOp, stepA_indexAddr, stepA_extract, thenV_some, thenS_some, extV_zero, extV_succ, eval_tmp, eval_const, put_some, put_none, aBin_eql, aBin_neq, absV_int, cells_int, cells_bool, cells_imm, cells_agg, one_int, one_bool, one_imm, all_nil, all_cons, aLoad_eq, loadGo_one, loadGo_row, aPlace_ptr, dropC_cells, aStore_eq, storeGo_ptr, setC_row, setAll_nil, setAll_cons, aIndexAddr_eq, ixGo_ptr, aBuild_go, aFill_nil, aFill_cons, fillGo_some, buildGo_struct, get_set_same, List.getElem?_cons_zero, List.getElem?_cons_succ, Int.reduceLE, Nat.reduceEqDiff, Nat.reduceAdd, Nat.reduceLeDiff, Nat.reduceMul, List.map_cons, List.map_nil, Option.map_some, Nat.add_zero, Nat.zero_add, Nat.zero_le, List.length_cons, List.length_nil, List.drop_zero, List.drop_succ_cons, List.take_succ_cons, List.take_nil, List.set_cons_zero, List.set_cons_succ, and_self, if_true, if_false, Bool.and_self, Nat.le_refl, as_61, lt_23, lt_3, lt_35, pl_35, ss_61, zc_35, zt_35, f2, f5, hne6, v0, v1, v2, i0, i1, i2, i3, i4, Int.toNat_zero, Int.toNat_one, Int.reduceToNat, retA_ret, Tryd.results34, resultsC_3, resultA_tmp, resultA_cell, res3_some]
      refine hid_mk ⟨_, _, Cast.refl _ _, entC (nums 9 bs []).1 (offsQ bs).1 (ordQ bs).1, (nums 9 bs []).1.getD 8 0, ?_, ?_, fun h0 => absurd hE h0, fun _ => ⟨rfl, rfl, ?_⟩⟩
      · rw [hE, hN1]
        match l3, hlen3 with
        | [q1, q2, q3], _ =>
          have hz : ((((dec rest3 0 0).1 : Nat) : Int) == 1) = ((dec rest3 0 0).1 == 1) := by rw [Bool.eq_iff_iff]; simp; omega
          simp [entC, entE, rcdOf, hz]
      · exact kk6.trans (Keep.set _ _ _) fun j hj hh => by omega
      · exact r6.keep (Keep.set _ _ _) (by omega)
end Go.Proofs.YtjphnabogfiahaaDoor.Pk
