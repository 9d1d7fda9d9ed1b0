/-
  What functions of the program do, told of abstract states. Conditions: as each theorem says.
-/
import Derived.Test.YtfcjehlhoebmnaaGreatDoorPA
import Derived.Test.YtfcjehlhoebmnaaGreatDoorAbB
namespace Go.Proofs.YtfcjehlhoebmnaaGreatDoor.Pk
open Go Go.Proofs Go.Proofs.YtfcjehlhoebmnaaGreatDoor.Ab
set_option linter.unusedVariables false
set_option linter.unusedSimpArgs false
set_option maxRecDepth 10000 in
theorem pBytes (s x : V) (cs xs : List Nat) (h : AHeap) (rd : Rd h s cs) (rx : Rd h x xs) (hc : cs.length + xs.length ≤ 2 ^ 45) :
  Pure Tryz.prog 66 [s, x] h (.imm (cs ++ encBytes xs).length (bytesV (cs ++ encBytes xs))) := by
 refine Pure.acc (e := 5) (sz := 1) (bytesV_clo _) (by rw [bytesV_length, Nat.mul_one]) (by omega) ?_
 refine SCalls.enterI (c := _) Tryz.func66 rfl (by kernel_rfl) (by simp) ?_
 have hw : IntKind.i64.wrap (10 + (xs.length : Int)) = ((10 + xs.length : Nat) : Int) := by rw [Go.IntWalk.i64_in _ (by omega)]; omega
 have hu := wrap_natU (n := xs.length) (by omega)
 simp only [wpA_region, wpA_seq, seqQ_normal, goI_out, goI_ops, opsA_nil, opsA_cons, stepA_move, stepA_assign, stepA_binOp, stepA_len, stepA_call, thenV_some, eval_tmp, eval_const, put_some, enterF_zero, enterF_succ, aBin_add, absV_int, absV_snil, Nat.reduceEqDiff, reduceCtorEq, List.map_cons, List.map_nil, if_true, if_false, rx.len h (Keep.refl _ _), hw]
 refine callI_of cal56 (freshA s cs (10 + xs.length) h rd (by omega)) fun r1 h1 a1 => ?_
 simp only [goI_ops, opsA_cons, stepA_move, stepA_convert, stepA_len, stepA_call, thenV_some, thenC_some, eval_tmp, put_some, enterF_zero, enterF_succ, Nat.reduceEqDiff, List.map_cons, List.map_nil, if_true, if_false, rx.len h1 a1.keep, aConv_int it_3 it_108, hu]
 refine callI_of cal99 (addUintA r1 cs xs.length h1 a1 (by omega) (by omega)) fun r2 h2 a2 => ?_
 have hl := (enc_le xs.length (by omega)).2
 obtain ⟨v, h3, e3, a3⟩ := a2.app (P := Tryz.prog) (tx := 42) sl_42 (by decide) (rx.src h2 a2.keep) (by rw [bytesV_length, Nat.mul_one]) (by simp only [bytesV_length, List.length_append, lim]; omega) (by simp only [bytesV_length, List.length_append, lim]; omega)
 simp only [wpA_region, wpA_seq, wpA_ret, seqQ_normal, endI_mk, goI_out, goI_ops, opsA_nil, opsA_cons, stepA_move, stepA_assign, stepA_append, thenH_some, eval_tmp, put_some, enterF_zero, enterF_succ, Nat.reduceEqDiff, if_true, if_false, e3, retA_ret, Tryz.results66, resultsA_1]
 exact hid_mk (a3.conv (by rw [← bytesV_append, List.append_assoc]; rfl))
set_option maxRecDepth 10000 in
theorem pInts (s : V) (cs : List Nat) (l : List Int) (h : AHeap) (rd : Rd h s cs) (hl : ∀ n ∈ l, -2 ^ 63 ≤ n ∧ n < 2 ^ 63) (hc : cs.length + 10 * l.length ≤ 2 ^ 45) :
  Pure Tryz.prog 63 [s, .imm l.length (i64V l)] h (.imm (cs ++ encInts l).length (bytesV (cs ++ encInts l))) := by
 refine Pure.acc (e := 5) (sz := 1) (bytesV_clo _) (by rw [bytesV_length, Nat.mul_one]) (by omega) ?_
 refine SCalls.enterI (c := _) Tryz.func63 rfl (by kernel_rfl) (by simp) ?_
 have hw : IntKind.i64.wrap (10 + (l.length : Int)) = ((10 + l.length : Nat) : Int) := by rw [Go.IntWalk.i64_in _ (by omega)]; omega
 have hu := wrap_natU (n := l.length) (by omega)
 simp only [wpA_region, wpA_seq, seqQ_normal, goI_out, goI_ops, opsA_nil, opsA_cons, stepA_move, stepA_assign, stepA_binOp, stepA_len, stepA_call, thenV_some, eval_tmp, eval_const, put_some, enterF_zero, enterF_succ, aBin_add, absV_int, absV_snil, aLen_imm, Nat.reduceEqDiff, reduceCtorEq, List.map_cons, List.map_nil, if_true, if_false, kt_66, hw]
 refine callI_of cal56 (freshA s cs (10 + l.length) h rd (by omega)) fun r1 h1 a1 => ?_
 simp only [goI_ops, opsA_cons, stepA_move, stepA_convert, stepA_len, stepA_call, thenV_some, thenC_some, eval_tmp, put_some, enterF_zero, enterF_succ, aLen_imm, Nat.reduceEqDiff, List.map_cons, List.map_nil, if_true, if_false, kt_66, aConv_int it_3 it_108, hu]
 refine callI_of cal99 (addUintA r1 cs l.length h1 a1 (by omega) (by omega)) fun r2 h2 a2 => ?_
 simp only [wpA_region, wpA_seq, wpA_block, wpA_loop, seqQ_normal, goI_out, goI_ops, opsA_nil, opsA_cons, stepA_move, stepA_assign, stepA_len, thenV_some, eval_tmp, eval_const, put_some, enterF_zero, enterF_succ, absV_int, aLen_imm, Nat.reduceEqDiff, if_true, if_false, kt_66]
 refine SWp.loopG (α := V × Nat) (fun x f h' => f 5 = x.1 ∧ f 17 = .imm l.length (i64V l) ∧ f 18 = .int .i64 (l.length : Nat) ∧ f 19 = .int .i64 (x.2 : Nat) ∧ Acc h h' 5 1 x.1 (bytesV (cs ++ enc l.length ++ (l.take x.2).flatMap fun n => enc (zz n))) ∧ x.2 ≤ l.length) (fun x => l.length - x.2) (r2, 0)
  ⟨rfl, rfl, rfl, rfl, by simpa using a2, Nat.zero_le _⟩ ?_
 rintro ⟨v, i⟩ f h3 ⟨f5, f17, f18, f19, a3, hi⟩
 simp only at f5 f19 a3 hi
 refine wpI_sound (by kernel_rfl) ?_
 by_cases hlt : i < l.length
 ·have c1 : decide ((i : Int) < (l.length : Int)) = true := by simp; omega
  have hm := hl _ (List.getElem_mem hlt)
  have hw1 : IntKind.i64.wrap ((i : Int) + 1) = ((i + 1 : Nat) : Int) := by rw [Go.IntWalk.i64_in _ (by omega)]; rfl
  have hlen : (cs ++ enc l.length ++ (l.take i).flatMap fun n => enc (zz n)).length ≤ 2 ^ 46 := by
   have h1 := enc_flat (l := l.take i) fun n hn => hl n (List.mem_of_mem_take hn)
   have h2 := (enc_le l.length (by omega)).2
   rw [List.length_take] at h1
   simp only [List.length_append]
   omega
  simp only [wpA_skip, wpA_region, wpA_seq, wpA_cond, wpA_block, condI_true, seqQ_normal, goI_out, goI_ops, opsA_nil, opsA_cons, stepA_move, stepA_assign, stepA_load, stepA_binOp, stepA_indexAddr, stepA_call, thenV_some, eval_tmp, put_some, aBin_lss, aLoad_eq, loadGo_one, aPlace_at, Nat.reduceEqDiff, List.map_cons, List.map_nil, if_true, if_false, lt_3, f5, f17, f18, f19, c1, i64V_ix hlt ss_66]
  refine callI_pure cal100 (zigzag _ h3 hm.1 hm.2) ?_
  simp only [goI_ops, opsA_cons, stepA_call, eval_tmp, put_some, Nat.reduceEqDiff, List.map_cons, List.map_nil, if_true, if_false]
  refine callI_of cal99 (addUintA v _ _ h3 a3 hlen (zz_lt _ hm.1 hm.2)) fun r4 h4 a4 => ?_
  simp only [wpA_region, seqQ_normal, blkQ_normal, endI_mk, andThen_normal, goI_out, goI_ops, opsA_nil, opsA_cons, stepA_move, stepA_assign, stepA_binOp, thenV_some, eval_tmp, eval_const, put_some, aBin_add, absV_int, Nat.reduceEqDiff, if_true, if_false, f19, hw1]
  refine hid_mk ⟨(r4, i + 1), ⟨rfl, f17, f18, rfl, ?_, by simp only; omega⟩, by simp only; omega⟩
  refine a4.conv ?_
  rw [flat_take l _ hlt, List.append_assoc]
 ·have c1 : decide ((i : Int) < (l.length : Int)) = false := by simp; omega
  simp only [wpA_region, wpA_seq, wpA_cond, wpA_exit, wpA_ret, condI_false, seqQ_normal, seqQ_exit, blkQ_exit, endI_mk, goE, andThen_exit, goI_out, goI_ops, opsA_nil, opsA_cons, stepA_move, stepA_assign, stepA_binOp, thenV_some, eval_tmp, put_some, aBin_lss, Nat.reduceEqDiff, if_true, if_false, f5, f18, f19, c1, retA_ret, Tryz.results63, resultsA_1]
  refine hid_mk (a3.conv ?_)
  rw [List.take_of_length_le (by omega), List.append_assoc]
  all_goals rfl
set_option maxRecDepth 10000 in
theorem RBytes (p : V) (i : Nat) (bs : List Nat) (h : AHeap) (hr : IsRd h p i bs) (hb : ∀ b ∈ bs, b < 256) (hc : bs.length ≤ 2 ^ 47) :
  SCalls Tryz.prog 96 [p] h (fun r h' => r = .tuple [.imm (getBytes bs).1.length (bytesV (getBytes bs).1), .int .i64 ((getBytes bs).2.2 : Nat)] ∧ IsRd h' p i (getBytes bs).2.1 ∧ Keep h h' (· = i)) := by
 refine SCalls.cast ?_
 refine SCalls.enterI (c := _) Tryz.func96 rfl (by kernel_rfl) (by simp) ?_
 simp only [wpA_region, wpA_seq, seqQ_normal, goI_out, goI_ops, opsA_nil, opsA_cons, stepA_move, stepA_assign, stepA_call, eval_tmp, eval_const, put_some, enterF_zero, enterF_succ, absV_int, absV_snil, Nat.reduceEqDiff, reduceCtorEq, List.map_cons, List.map_nil, if_true, if_false]
 refine callI_pure cal59 (rest h p i bs hr) ?_
 simp only [goI_ops, opsA_cons, stepA_call, eval_tmp, put_some, enterF_succ, Nat.reduceEqDiff, List.map_cons, List.map_nil, if_true, if_false]
 refine callI_pure cal129 (number bs h hb (by omega)) ?_
 by_cases herr : (dec bs 0 0).2.2 = 0
 ·have hne : ((((dec bs 0 0).2.2 : Nat) : Int) != 0) = false := by simp [herr]
  have hused := dec_used bs 0 0
  have hlt := dec_lt bs 0 0 (by omega) (by decide) hb
  obtain ⟨rfl, hi, hg⟩ := hr
  have hsl := slice_from bs (dec bs 0 0).2.1 (by omega) (kk := .i64)
  have hul := wrap_natU (n := (bs.drop (dec bs 0 0).2.1).length) (by rw [List.length_drop]; omega)
  by_cases hfit : (bs.drop (dec bs 0 0).2.1).length < (dec bs 0 0).1
  ·have c1 : decide ((((bs.drop (dec bs 0 0).2.1).length : Nat) : Int) < (((dec bs 0 0).1 : Nat) : Int)) = true := by simpa using hfit
   have hG : getBytes bs = ([], bs, 4) := by unfold getBytes; rw [if_neg (by omega), if_pos hfit]
   simp only [wpA_skip, wpA_region, wpA_seq, wpA_cond, wpA_ret, condI_true, condI_false, seqQ_normal, seqQ_ret, endI_mk, goI_out, goI_ops, opsA_nil, opsA_cons, stepA_move, stepA_assign, stepA_load, stepA_nilCheck, stepA_binOp, stepA_convert, stepA_slice, stepA_fieldAddr, stepA_extract, stepA_len, thenV_some, thenC_some, nilV_ptr, extV_zero, extV_succ, eval_tmp, eval_const, put_some, enterF_zero, enterF_succ, aBin_neq, aBin_gtr, absV_int, absV_snil, aField_eq, fieldGo_ptr, aLoad_eq, loadGo_one, aPlace_ptr, dropC_cells, aLen_imm, Nat.reduceEqDiff, reduceCtorEq, Option.map_some, Option.map_none, Nat.add_zero, Nat.zero_add, Nat.zero_le, List.length_cons, List.length_nil, List.drop_zero, if_true, if_false, ft_121_0, kt_42, lt_42, decV, hne, hg, hsl, aConv_int it_3 it_108, hul, c1, retA_ret, Tryz.results96, resultsA_2]
   exact hid_mk ⟨_, _, nil_cast _ _, by rw [hG]; rfl, by rw [hG]; exact ⟨rfl, hi, hg⟩, Keep.refl _ _⟩
  ·have c1 : decide ((((bs.drop (dec bs 0 0).2.1).length : Nat) : Int) < (((dec bs 0 0).1 : Nat) : Int)) = false := by simp only [decide_eq_false_iff_not]; omega
   have hG : getBytes bs = ((bs.drop (dec bs 0 0).2.1).take (dec bs 0 0).1, (bs.drop (dec bs 0 0).2.1).drop (dec bs 0 0).1, 0) := by unfold getBytes; rw [if_neg (by omega), if_neg hfit]
   have hl1 : (bs.drop (dec bs 0 0).2.1).length ≤ 2 ^ 47 := by rw [List.length_drop]; omega
   have s1 := slice_from (bs.drop (dec bs 0 0).2.1) (dec bs 0 0).1 (by omega) (kk := .u64)
   have s2 := slice_toK (bs.drop (dec bs 0 0).2.1) (dec bs 0 0).1 (by omega) (kk := .u64)
   simp only [wpA_skip, wpA_region, wpA_seq, wpA_cond, condI_false, seqQ_normal, goI_out, goI_ops, opsA_nil, opsA_cons, stepA_move, stepA_assign, stepA_load, stepA_store, stepA_nilCheck, stepA_binOp, stepA_convert, stepA_slice, stepA_fieldAddr, stepA_extract, stepA_len, stepA_call, thenV_some, thenC_some, thenS_some, nilV_ptr, extV_zero, extV_succ, eval_tmp, eval_const, put_some, put_none, enterF_zero, enterF_succ, aBin_neq, aBin_gtr, absV_int, cells_imm, one_imm, all_nil, all_cons, aField_eq, fieldGo_ptr, aLoad_eq, loadGo_one, aPlace_ptr, dropC_cells, aStore_eq, storeGo_ptr, setC_row, setAll_nil, setAll_cons, aLen_imm, Nat.reduceEqDiff, reduceCtorEq, List.map_cons, List.map_nil, Option.map_some, Option.map_none, Nat.add_zero, Nat.zero_add, Nat.zero_le, List.length_cons, List.length_nil, List.drop_zero, List.set_cons_zero, if_true, if_false, Bool.and_self, Nat.le_refl, ft_121_0, kt_42, lt_42, zt_42, decV, hne, hg, hsl, aConv_int it_3 it_108, hul, c1, s1, s2]
   refine callI_pure cal56 (pFresh _ _ 0 _ (Rd.imm _ _) (by rw [List.length_take]; omega)) ?_
   simp only [wpA_ret, seqQ_normal, endI_mk, goI_out, goI_ops, opsA_nil, opsA_cons, stepA_assign, eval_tmp, eval_const, put_some, put_none, enterF_succ, absV_int, Nat.reduceEqDiff, if_true, if_false, retA_ret, Tryz.results96, resultsA_2]
   exact hid_mk ⟨_, _, Cast.refl _ _, by rw [hG]; rfl, by rw [hG]; exact ⟨rfl, by rw [set_n]; exact hi, get_set_same⟩, Keep.set _ _ _⟩
 ·have hne : ((((dec bs 0 0).2.2 : Nat) : Int) != 0) = true := by simp; omega
  have hd := dec_err bs 0 0 herr
  have hG : getBytes bs = ([], bs, (dec bs 0 0).2.2) := by unfold getBytes; rw [if_pos herr]
  simp only [wpA_region, wpA_seq, wpA_cond, wpA_ret, condI_true, seqQ_normal, seqQ_ret, endI_mk, goI_out, goI_ops, opsA_nil, opsA_cons, stepA_move, stepA_assign, stepA_binOp, stepA_extract, thenV_some, extV_zero, extV_succ, eval_tmp, eval_const, put_some, enterF_succ, aBin_neq, absV_int, absV_snil, Nat.reduceEqDiff, if_true, if_false, decV, hne, retA_ret, Tryz.results96, resultsA_2]
  exact hid_mk ⟨_, _, nil_cast _ _, by rw [hG]; rfl, by rw [hG]; exact hr, Keep.refl _ _⟩
set_option maxRecDepth 10000 in
theorem RIntsG (p : V) (i : Nat) (bs : List Nat) (most : Int) (h : AHeap) (hr : IsRd h p i bs) (hb : ∀ b ∈ bs, b < 256) (hc : bs.length ≤ 2 ^ 47) (hcm : bs.length ≤ 2 ^ 40 ∨ most ≤ 2 ^ 40) (hm : -2 ^ 63 ≤ most ∧ most < 2 ^ 63) :
  SCalls Tryz.prog 82 [p, .int .i64 most] h (fun r h' => r = .tuple [.imm (getInts bs most).1.length (i64V (getInts bs most).1), .int .i64 ((getInts bs most).2.2 : Nat)] ∧ IsRd h' p i (getInts bs most).2.1 ∧ Keep h h' (· = i)) := by
 refine SCalls.cast ?_
 refine SCalls.enterI (c := _) Tryz.func82 rfl (by kernel_rfl) (by simp) ?_
 have hin := hr.2.1
 simp only [wpA_region, wpA_seq, seqQ_normal, goI_out, goI_ops, opsA_nil, opsA_cons, stepA_move, stepA_assign, stepA_call, eval_tmp, eval_const, put_some, enterF_zero, enterF_succ, absV_int, absV_snil, Int.reduceNeg, Nat.reduceEqDiff, reduceCtorEq, List.map_cons, List.map_nil, if_true, if_false]
 refine callI_pure cal59 (rest h p i bs hr) ?_
 simp only [wpA_region, wpA_seq, seqQ_normal, goI_out, goI_ops, opsA_nil, opsA_cons, stepA_alloc, stepA_build, stepA_store, stepA_call, thenV_some, thenH_some, thenS_some, eval_tmp, put_some, put_none, enterF_succ, cells_imm, cells_agg, one_imm, all_nil, all_cons, aStore_eq, storeGo_ptr, setC_row, setAll_nil, setAll_cons, aAlloc_eq, aBuild_go, aFill_nil, aFill_cons, fillGo_some, buildGo_struct, get_push_new, set_push, List.getElem?_cons_zero, Int.reduceNeg, Nat.reduceEqDiff, List.map_cons, List.map_nil, Option.map_some, Nat.zero_add, List.length_cons, List.length_nil, List.set_cons_zero, and_self, if_true, if_false, Bool.and_self, Nat.le_refl, pl_121, zc_121, zt_121]
 have k0 : Keep h (h.push (.cells [.imm bs.length (bytesV bs)] 121 none)) none_ := Keep.push _ _ _
 have r0 : IsRd (h.push (.cells [.imm bs.length (bytesV bs)] 121 none)) (.ptr h.n 0) h.n bs := ⟨rfl, by rw [push_n]; omega, get_push_new⟩
 refine callI_of cal80 (RUint _ h.n bs _ r0 hb (by omega)) fun r h1 ⟨e1, r1, k1⟩ => ?_
 subst e1
 have kp : Keep h h1 none_ := k0.trans k1 fun k hk hi => by omega
 have rp := hr.keep kp (by simp [none_])
 have hjn : h.n < h1.n := r1.2.1
 have hlt := dec_lt bs 0 0 (by omega) (by decide) hb
 by_cases herr : (dec bs 0 0).2.2 = 0
 rotate_left
 ·have hne : ((((dec bs 0 0).2.2 : Nat) : Int) != 0) = true := by simp; omega
  have hG : getInts bs most = ([], bs, (dec bs 0 0).2.2) := by unfold getInts; rw [if_pos herr]
  simp only [wpA_region, wpA_seq, wpA_cond, wpA_ret, condI_true, seqQ_normal, seqQ_ret, endI_mk, goI_out, goI_ops, opsA_nil, opsA_cons, stepA_move, stepA_assign, stepA_binOp, stepA_extract, thenV_some, extV_zero, extV_succ, eval_tmp, eval_const, put_some, put_none, enterF_succ, aBin_neq, absV_int, absV_snil, Int.reduceNeg, Nat.reduceEqDiff, if_true, if_false, hne, retA_ret, Tryz.results82, resultsA_2]
  exact hid_mk ⟨_, _, nil_cast _ _, by rw [hG]; rfl, by rw [hG]; exact rp, kp.up⟩
 ·have hne : ((((dec bs 0 0).2.2 : Nat) : Int) != 0) = false := by simp [herr]
  have hst := dec_step hb herr
  have hout : (decide (most < (0 : Int)) = true ∨ (decide (most < (0 : Int)) = false ∧ decide (IntKind.u64.wrap most < (((dec bs 0 0).1 : Nat) : Int)) = decide (most < (((dec bs 0 0).1 : Nat) : Int)))) := by
   by_cases h0 : most < 0
   ·left; simpa using h0
   ·right
    refine ⟨by simp; omega, ?_⟩
    rw [IntKind.wrap_u64, Int.emod_eq_of_lt (by omega) (by omega)]
  by_cases hrange : most < 0 ∨ most < (((dec bs 0 0).1 : Nat) : Int)
  ·have hG : getInts bs most = ([], bs, 2) := by unfold getInts; rw [if_neg (by omega), if_pos hrange]
   rcases hout with c1 | ⟨c1, c2⟩
   ·simp only [wpA_skip, wpA_region, wpA_seq, wpA_cond, wpA_ret, condI_true, condI_false, seqQ_normal, seqQ_ret, endI_mk, goI_out, goI_ops, opsA_nil, opsA_cons, opsA_guardS, gvI_tf, slotAt_zero, slotAt_succ, stepA_move, stepA_assign, stepA_pick, stepA_binOp, stepA_extract, thenV_some, pickV_true, extV_zero, extV_succ, eval_tmp, eval_const, put_some, put_none, enterF_zero, enterF_succ, aBin_neq, aBin_lss, absV_int, absV_bool, absV_snil, Int.reduceNeg, Nat.reduceEqDiff, if_true, if_false, hne, c1, retA_ret, Tryz.results82, resultsA_2]
    exact hid_mk ⟨_, _, nil_cast _ _, by rw [hG]; rfl, by rw [hG]; exact rp, kp.up⟩
   ·have c3 : decide (most < (((dec bs 0 0).1 : Nat) : Int)) = true := by
     rcases hrange with h0 | h0
     ·simp at c1; omega
     ·simpa using h0
    simp only [wpA_skip, wpA_region, wpA_seq, wpA_cond, wpA_ret, condI_true, condI_false, seqQ_normal, seqQ_ret, endI_mk, goI_out, goI_ops, opsA_nil, opsA_cons, opsA_guardS, gvI_same, slotAt_zero, slotAt_succ, stepA_move, stepA_assign, stepA_pick, stepA_binOp, stepA_convert, stepA_extract, thenV_some, thenC_some, pickV_false, extV_zero, extV_succ, eval_tmp, eval_const, put_some, put_none, enterF_zero, enterF_succ, aBin_neq, aBin_lss, aBin_gtr, absV_int, absV_bool, absV_snil, Int.reduceNeg, Nat.reduceEqDiff, if_true, if_false, hne, c1, c2, c3, aConv_int it_3 it_108, retA_ret, Tryz.results82, resultsA_2]
    exact hid_mk ⟨_, _, nil_cast _ _, by rw [hG]; rfl, by rw [hG]; exact rp, kp.up⟩
  ·have c1 : decide (most < (0 : Int)) = false := by simp; omega
   have c2 : decide (IntKind.u64.wrap most < (((dec bs 0 0).1 : Nat) : Int)) = false := by
    rw [IntKind.wrap_u64, Int.emod_eq_of_lt (by omega) (by omega)]
    simp; omega
   simp only [wpA_skip, wpA_region, wpA_seq, wpA_cond, wpA_block, wpA_loop, condI_false, seqQ_normal, goI_out, goI_ops, opsA_nil, opsA_cons, opsA_guardS, gvI_same, slotAt_zero, slotAt_succ, stepA_move, stepA_assign, stepA_pick, stepA_binOp, stepA_convert, stepA_extract, thenV_some, thenC_some, pickV_false, extV_zero, extV_succ, eval_tmp, eval_const, put_some, put_none, enterF_zero, enterF_succ, aBin_neq, aBin_lss, aBin_gtr, absV_int, absV_bool, absV_snil, Int.reduceNeg, Nat.reduceEqDiff, if_true, if_false, hne, c1, c2, aConv_int it_3 it_108]
   refine SWp.loopG (α := V × Nat × List Nat × List Int) (fun x f h' => f 0 = p ∧ f 6 = .ptr h.n 0 ∧ f 9 = x.1 ∧ f 30 = .int .u64 ((dec bs 0 0).1 : Nat) ∧ f 31 = .int .u64 (x.2.1 : Nat) ∧
     Own h' 3 1 x.1 (i64V x.2.2.2) ∧ (∀ k, idOf x.1 = some k → h1.n ≤ k) ∧ Keep h1 h' (· = h.n) ∧ IsRd h' (.ptr h.n 0) h.n x.2.2.1 ∧
     goInts ((dec bs 0 0).1 - x.2.1) x.2.2.1 x.2.2.2 = goInts (dec bs 0 0).1 (bs.drop (dec bs 0 0).2.1) [] ∧ x.2.1 ≤ (dec bs 0 0).1 ∧ (x.2.2.2.length + x.2.2.1.length ≤ bs.length ∧ x.2.2.2.length ≤ x.2.1) ∧ ∀ b ∈ x.2.2.1, b < 256)
    (fun x => (dec bs 0 0).1 - x.2.1) (.snil, 0, bs.drop (dec bs 0 0).2.1, [])
    ⟨rfl, rfl, rfl, rfl, rfl, Own.snil _ _ _, by simp [idOf], Keep.refl _ _, r1, by simp, Nat.zero_le _, ⟨by simp, by simp⟩, mem_drop hb _⟩ ?_
   rintro ⟨v, k, rest, acc⟩ f h2 ⟨f0, f6, f9, f30, f31, ho, hid, hk, hrd, hgo, hkn, ⟨hlen, hlenk⟩, hb2⟩
   simp only at f9 f31 ho hid hrd hgo hkn hlen hlenk hb2
   have hacc : acc.length ≤ 2 ^ 40 := by rcases hcm with hcm | hcm <;> omega
   refine wpI_sound (by kernel_rfl) ?_
   have kall : Keep h h2 none_ := kp.trans hk fun k hk hi => by omega
   by_cases hlast : k < (dec bs 0 0).1
   ·have d1 : decide ((k : Int) < (((dec bs 0 0).1 : Nat) : Int)) = true := by simp; omega
    have hw1 : IntKind.u64.wrap ((k : Int) + 1) = ((k + 1 : Nat) : Int) := by rw [IntKind.wrap_u64]; omega
    rw [show (dec bs 0 0).1 - k = ((dec bs 0 0).1 - (k + 1)) + 1 by omega, goInts] at hgo
    simp only [wpA_skip, wpA_region, wpA_seq, wpA_cond, wpA_block, condI_true, seqQ_normal, goI_out, goI_ops, opsA_nil, opsA_cons, stepA_binOp, stepA_call, thenV_some, eval_tmp, put_some, aBin_lss, Int.reduceNeg, Nat.reduceEqDiff, List.map_cons, List.map_nil, if_true, if_false, f6, f30, f31, d1]
    refine callI_of cal95 (RInt _ _ rest h2 hrd hb2 (by omega)) fun r h3 ⟨e3, r3, k3⟩ => ?_
    subst e3
    have kall3 : Keep h h3 none_ := kall.trans k3 fun k hk hi => by omega
    have ho3 : Own h3 3 1 v (i64V acc) := ho.keep k3 fun k hk hi => by have := hid k hk; omega
    have rp3 := hr.keep kall3 (by simp [none_])
    by_cases herr2 : (dec rest 0 0).2.2 = 0
    rotate_left
    ·have hne2 : ((((dec rest 0 0).2.2 : Nat) : Int) != 0) = true := by simp; omega
     rw [if_pos herr2] at hgo
     have hG : getInts bs most = ([], bs, (dec rest 0 0).2.2) := by
      unfold getInts; rw [if_neg (by omega), if_neg hrange, ← hgo, if_pos herr2]
     simp only [wpA_region, wpA_seq, wpA_cond, wpA_ret, condI_true, seqQ_normal, seqQ_ret, blkQ_ret, endI_mk, goE, andThen_ret, goI_out, goI_ops, opsA_nil, opsA_cons, stepA_move, stepA_assign, stepA_binOp, stepA_extract, thenV_some, extV_zero, extV_succ, eval_tmp, eval_const, put_some, aBin_neq, absV_int, absV_snil, Int.reduceNeg, Nat.reduceEqDiff, if_true, if_false, hne2, retA_ret, Tryz.results82, resultsA_2]
     exact hid_mk ⟨_, _, nil_cast _ _, by rw [hG]; rfl, by rw [hG]; exact rp3, kall3.up⟩
    ·have hne2 : ((((dec rest 0 0).2.2 : Nat) : Int) != 0) = false := by simp [herr2]
     rw [if_neg (by omega)] at hgo
     have hst2 := dec_step hb2 herr2
     by_cases hrg : unz (dec rest 0 0).1 < -2147483648 ∨ 2147483647 < unz (dec rest 0 0).1
     ·rw [if_pos hrg] at hgo
      have hG : getInts bs most = ([], bs, 2) := by
       unfold getInts; rw [if_neg (by omega), if_neg hrange, ← hgo]; rfl
      by_cases hlo : unz (dec rest 0 0).1 < -2147483648
      ·have g1 : decide (unz (dec rest 0 0).1 < (-2147483648 : Int)) = true := by simpa using hlo
       simp only [wpA_skip, wpA_region, wpA_seq, wpA_cond, wpA_ret, condI_true, condI_false, seqQ_normal, seqQ_ret, blkQ_ret, endI_mk, goE, andThen_ret, goI_out, goI_ops, opsA_nil, opsA_cons, opsA_guardS, gvI_tf, slotAt_zero, slotAt_succ, stepA_move, stepA_assign, stepA_pick, stepA_binOp, stepA_extract, thenV_some, pickV_true, extV_zero, extV_succ, eval_tmp, eval_const, put_some, aBin_neq, aBin_lss, absV_int, absV_bool, absV_snil, Int.reduceNeg, Nat.reduceEqDiff, if_true, if_false, hne2, g1, retA_ret, Tryz.results82, resultsA_2]
       exact hid_mk ⟨_, _, nil_cast _ _, by rw [hG]; rfl, by rw [hG]; exact rp3, kall3.up⟩
      ·have g1 : decide (unz (dec rest 0 0).1 < (-2147483648 : Int)) = false := by simpa using hlo
       have g2 : decide ((2147483647 : Int) < unz (dec rest 0 0).1) = true := by simp; omega
       simp only [wpA_skip, wpA_region, wpA_seq, wpA_cond, wpA_ret, condI_true, condI_false, seqQ_normal, seqQ_ret, blkQ_ret, endI_mk, goE, andThen_ret, goI_out, goI_ops, opsA_nil, opsA_cons, opsA_guardS, gvI_same, slotAt_zero, slotAt_succ, stepA_move, stepA_assign, stepA_pick, stepA_binOp, stepA_extract, thenV_some, pickV_false, extV_zero, extV_succ, eval_tmp, eval_const, put_some, aBin_neq, aBin_lss, aBin_gtr, absV_int, absV_bool, absV_snil, Int.reduceNeg, Nat.reduceEqDiff, if_true, if_false, hne2, g1, g2, retA_ret, Tryz.results82, resultsA_2]
       exact hid_mk ⟨_, _, nil_cast _ _, by rw [hG]; rfl, by rw [hG]; exact rp3, kall3.up⟩
     ·rw [if_neg hrg] at hgo
      have g1 : decide (unz (dec rest 0 0).1 < (-2147483648 : Int)) = false := by simp; omega
      have g2 : decide ((2147483647 : Int) < unz (dec rest 0 0).1) = false := by simp; omega
      obtain ⟨v4, h4, q1, q2, q3, q4⟩ := append_elem (P := Tryz.prog) sl_66 (by decide) ho3 (xs := [.int .i64 (unz (dec rest 0 0).1)]) rfl rfl (by simp [i64V_length, lim]; omega) (by simp [i64V_length, lim]; omega)
      simp only [wpA_skip, wpA_region, wpA_seq, wpA_cond, condI_false, seqQ_normal, blkQ_normal, endI_mk, andThen_normal, goI_out, goI_ops, opsA_nil, opsA_cons, opsA_guardS, gvI_same, slotAt_zero, slotAt_succ, stepA_move, stepA_assign, stepA_pick, stepA_buildSlice, stepA_binOp, stepA_extract, stepA_append, thenV_some, thenH_some, pickV_false, extV_zero, extV_succ, eval_tmp, eval_const, put_some, aBin_add, aBin_neq, aBin_lss, aBin_gtr, absV_int, absV_bool, Int.reduceNeg, Nat.reduceEqDiff, List.map_cons, List.map_nil, if_true, if_false, f9, f31, hne2, g1, g2, lit1i, q1, hw1]
      have hni : ¬ isId v h.n := fun hh => by have := hid _ hh; omega
      refine hid_mk ⟨(v4, k + 1, rest.drop (dec rest 0 0).2.1, acc ++ [unz (dec rest 0 0).1]), ⟨f0, f6, rfl, f30, rfl, ?_, ?_, ?_, r3.keep q3 hni, hgo, by simp only; omega, ?_, mem_drop hb2 _⟩, by simp only; omega⟩
      ·simp only [i64V, List.map_append, List.map_cons, List.map_nil]; exact q2
      ·intro k' hk'
       rcases q4 with q4 | q4
       ·exact hid k' (by rw [← q4]; exact hk')
       ·have := q4 k' hk'; have := hk.n; have := k3.n; omega
      ·refine (hk.trans' k3).trans q3 fun k' hk' hi => ?_
       have := hid k' hi; omega
      ·simp only [List.length_append, List.length_drop, List.length_cons, List.length_nil]; omega
   ·have d1 : decide ((k : Int) < (((dec bs 0 0).1 : Nat) : Int)) = false := by simp; omega
    rw [show (dec bs 0 0).1 - k = 0 by omega, goInts] at hgo
    have hG : getInts bs most = (acc, rest, 0) := by
     unfold getInts; rw [if_neg (by omega), if_neg hrange, ← hgo]; rfl
    have rp2 := hr.keep kall (by simp [none_])
    obtain ⟨rfl, _, hg2⟩ := rp2
    obtain ⟨_, _, hgj⟩ := hrd
    simp only [wpA_region, wpA_seq, wpA_cond, wpA_exit, wpA_ret, condI_false, seqQ_normal, seqQ_exit, blkQ_exit, endI_mk, goE, andThen_exit, goI_out, goI_ops, opsA_nil, opsA_cons, stepA_move, stepA_assign, stepA_load, stepA_store, stepA_nilCheck, stepA_binOp, stepA_fieldAddr, thenV_some, thenS_some, nilV_ptr, eval_tmp, eval_const, put_some, put_none, aBin_lss, absV_int, cells_imm, one_imm, all_nil, all_cons, aField_eq, fieldGo_ptr, aLoad_eq, loadGo_one, aPlace_ptr, dropC_cells, aStore_eq, storeGo_ptr, setC_row, setAll_nil, setAll_cons, Int.reduceNeg, Nat.reduceEqDiff, reduceCtorEq, Option.map_some, Nat.add_zero, Nat.zero_add, Nat.zero_le, List.length_cons, List.length_nil, List.drop_zero, List.set_cons_zero, if_true, if_false, Bool.and_self, Nat.le_refl, ft_121_0, lt_42, zt_42, f0, f6, f9, f30, f31, d1, hg2, hgj, retA_ret, Tryz.results82, resultsA_2]
    have hkset : Keep h2 (h2.set i (.cells [.imm rest.length (bytesV rest)] 121 none)) (· = i) := Keep.set _ _ _
    have ho2 : Own (h2.set i (.cells [.imm rest.length (bytesV rest)] 121 none)) 3 1 v (i64V acc) := ho.keep hkset fun k' hk' hi => by have := hid k' hk'; omega
    obtain ⟨h5, c5, k5⟩ := Cast.own ho2 (n := acc.length) (by rw [i64V_length, Nat.mul_one]) (by omega)
    have hni : ¬ isId v i := fun hh => by have := hid _ hh; omega
    have r5 : IsRd (h2.set i (.cells [.imm rest.length (bytesV rest)] 121 none)) (.ptr i 0) i rest := ⟨rfl, by rw [set_n]; exact Nat.lt_of_lt_of_le hin kall.n, get_set_same⟩
    refine hid_mk ⟨_, h5, Cast.tuple (CastL.cons c5 (CastL.refl _ _)), by rw [hG]; rfl, by rw [hG]; exact r5.keep k5 hni, ?_⟩
    refine (kall.up.trans' hkset).trans k5 fun k' hk' hi => ?_
    have := hid k' hi; omega
end Go.Proofs.YtfcjehlhoebmnaaGreatDoor.Pk
namespace Go.Proofs.YtfcjehlhoebmnaaGreatDoor.Pk
open Go Go.Proofs Go.Proofs.YtfcjehlhoebmnaaGreatDoor.Ab
set_option linter.unusedVariables false
set_option linter.unusedSimpArgs false
abbrev Pr := Int × Int
def Srt (l : List Pr) : Prop := l.Pairwise fun a b => a.1 < b.1
def look : List Pr → Int → Option Int
 | [], _ => none
 | p :: r, k => if p.1 = k then some p.2 else look r k
def put : List Pr → Int → Int → List Pr
 | [], k, v => [(k, v)]
 | p :: r, k, v => if p.1 < k then p :: put r k v else if p.1 = k then (k, v) :: r else (k, v) :: p :: r
def rm : List Pr → Int → List Pr
 | [], _ => []
 | p :: r, k => if p.1 = k then r else p :: rm r k
def pos : List Pr → Int → Nat
 | [], _ => 0
 | p :: r, k => if p.1 < k then pos r k + 1 else 0
def has (l : List Pr) (k : Int) : Bool := (look l k).isSome
end Go.Proofs.YtfcjehlhoebmnaaGreatDoor.Pk
namespace Go.Proofs.YtfcjehlhoebmnaaGreatDoor.Pk
open Go Go.Proofs Go.Proofs.YtfcjehlhoebmnaaGreatDoor.Ab
set_option linter.unusedVariables false
set_option linter.unusedSimpArgs false
structure Chg where
 key : Int
 fr : Int
 to : Int
 val : Int
 del : Bool
 deriving DecidableEq
def chgE (c : Chg) : List V := [.int .i64 c.key, .int .i64 c.fr, .int .i64 c.to, .int .i64 c.val, .bool c.del]
theorem chgE_len (r : Chg) : (chgE r).length = 5 := rfl
theorem chgE_one (r : Chg) : (chgE r).all (·.one) = true := rfl
end Go.Proofs.YtfcjehlhoebmnaaGreatDoor.Pk
namespace Go.Proofs.YtfcjehlhoebmnaaGreatDoor.Pk
open Go Go.Proofs Go.Proofs.YtfcjehlhoebmnaaGreatDoor.Ab
set_option linter.unusedVariables false
set_option linter.unusedSimpArgs false
def prE (p : Pr) : List V := [.int .i64 p.1, .int .i64 p.2]
theorem prE_len (p : Pr) : (prE p).length = 2 := rfl
theorem prE_one (p : Pr) : (prE p).all (·.one) = true := rfl
structure IsKv (h : AHeap) (i : Nat) (v : V) (room : Int) (l : List Pr) : Prop where
 lt : i < h.n
 get : h.get i = .cells [.int .i64 room, v] 422 none
 own : Own h 482 2 v (l.flatMap prE)
 ne : idOf v ≠ some i
 srt : Srt l
 len : (l.length : Int) ≤ room
 room : room ≤ 1024
end Go.Proofs.YtfcjehlhoebmnaaGreatDoor.Pk
namespace Go.Proofs.YtfcjehlhoebmnaaGreatDoor.Pk
open Go Go.Proofs Go.Proofs.YtfcjehlhoebmnaaGreatDoor.Ab
set_option linter.unusedVariables false
set_option linter.unusedSimpArgs false
def full (room : Int) (l : List Pr) (k : Int) : Bool := !has l k && decide (room ≤ (l.length : Int))
theorem full_has {room : Int} {l : List Pr} {k : Int} (h : has l k = true) : full room l k = false := by simp [full, h]
theorem full_no {room : Int} {l : List Pr} {k : Int} (h : has l k = false) : full room l k = decide (room ≤ (l.length : Int)) := by simp [full, h]
end Go.Proofs.YtfcjehlhoebmnaaGreatDoor.Pk
namespace Go.Proofs.YtfcjehlhoebmnaaGreatDoor.Pk
open Go Go.Proofs Go.Proofs.YtfcjehlhoebmnaaGreatDoor.Ab
set_option linter.unusedVariables false
set_option linter.unusedSimpArgs false
structure Rec where
 k : Int
 v : Int
 t : Int
 deriving DecidableEq
def recE (r : Rec) : List V := [.int .i64 r.k, .int .i64 r.v, .int .i64 r.t]
theorem recE_len (r : Rec) : (recE r).length = 3 := rfl
theorem recE_one (r : Rec) : (recE r).all (·.one) = true := rfl
structure Vx where
 kind : Int
 frm : List Int
 e : Ex
 n : Int
def encX (v : Vx) : List V := [.int .i64 v.kind, .imm v.frm.length (i64V v.frm)] ++ encE v.e ++ [.int .i64 v.n]
theorem encX_len (v : Vx) : (encX v).length = 6 := by simp [encX, encE_len]
theorem encX_clo (v : Vx) : CloL (encX v) :=
 ((CloL.cons (Clo.int _ _) (CloL.cons (Clo.imm (i64V_clo _)) CloL.nil)).append (encE_clo v.e)).append (CloL.cons (Clo.int _ _) CloL.nil)
def sumE : Ex := .mk 6 0 [.mk 5 0 [], .mk 3 0 []]
theorem sum_val (rk rv rt acc : Int) : valF rk rv rt acc 16 sumE = some (w64 (acc + rv)) := by
 simp [sumE, valF, combX]
structure IsAg (h : AHeap) (a : Nat) (i : Nat) (v : V) (e : Ex) (n : Int) (l : List Pr) : Prop where
 lt : a < h.n
 get : h.get a = .cells (encE e ++ [.int .i64 n, .iface 406 (.ptr i 0)]) 389 none
 kv : IsKv h i v 1024 l
 ne : a ≠ i
 nev : idOf v ≠ some a
end Go.Proofs.YtfcjehlhoebmnaaGreatDoor.Pk
namespace Go.Proofs.YtfcjehlhoebmnaaGreatDoor.Pk
open Go Go.Proofs Go.Proofs.YtfcjehlhoebmnaaGreatDoor.Ab
set_option linter.unusedVariables false
set_option linter.unusedSimpArgs false
set_option maxRecDepth 10000 in
theorem pUses (op : Int) : ∀ (s : Nat) (e : Ex) (h : AHeap), szE e = s → OkE e → Pure Tryz.prog 137 [.agg (encE e), .int .i64 op] h (.bool (useX op e)) := by
 intro s
 induction s using Nat.strongRecOn with
 | _ s ih =>
 intro e h hs hok
 obtain ⟨o, n, ks⟩ := e
 refine Pure.val (Clo.bool _) ?_
 have hlen := hok.len
 simp only [Ex.ks] at hlen
 refine SCalls.enterI (c := _) Tryz.func137 rfl (by kernel_rfl) (by simp) ?_
 have hc : (V.agg (encE (.mk o n ks))).cells = some (encE (.mk o n ks)) := rfl
 have hd0 : dropC (AObj.cells (encE (.mk o n ks)) 88 none) 0 = some [.int .i64 o, .int .i64 n, .imm ks.length (ks.flatMap encE)] := by rw [encE_eq]; rfl
 have hd2 : dropC (AObj.cells (encE (.mk o n ks)) 88 none) 2 = some [.imm ks.length (ks.flatMap encE)] := by rw [encE_eq]; rfl
 by_cases ho : o = op
 ·have c : (o == op) = true := by simp [ho]
  simp only [wpA_region, wpA_seq, wpA_cond, wpA_ret, condI_true, seqQ_normal, seqQ_ret, endI_mk, goI_out, goI_ops, opsA_nil, opsA_cons, stepA_move, stepA_assign, stepA_box, stepA_load, stepA_binOp, stepA_fieldAddr, thenV_some, thenH_some, eval_tmp, eval_const, put_some, enterF_zero, enterF_succ, aBin_eql, absV_bool, aField_eq, fieldGo_ptr, aLoad_eq, loadGo_one, aPlace_ptr, aBox_eq, get_push_new, Nat.reduceEqDiff, Option.map_some, Nat.add_zero, if_true, if_false, ft_88_0, lt_3, hc, hd0, c, retA_ret, Tryz.results137, resultsA_1]
  exact hid_mk ⟨by simp [useX, ho], Keep.push _ _ _⟩
 have c : (o == op) = false := by simp [ho]
 have hG : useX op (.mk o n ks) = useL op ks := by simp [useX, c]
 simp only [wpA_skip, wpA_region, wpA_seq, wpA_cond, wpA_block, wpA_loop, condI_false, seqQ_normal, goI_out, goI_ops, opsA_nil, opsA_cons, stepA_move, stepA_assign, stepA_box, stepA_load, stepA_binOp, stepA_fieldAddr, stepA_len, thenV_some, thenH_some, eval_tmp, eval_const, put_some, enterF_zero, enterF_succ, aBin_eql, absV_int, absV_bool, aField_eq, fieldGo_ptr, aLoad_eq, loadGo_one, aPlace_ptr, aBox_eq, aLen_imm, get_push_new, Nat.reduceEqDiff, Option.map_some, Nat.add_zero, Nat.zero_add, if_true, if_false, ft_88_0, ft_88_2, kt_86, lt_3, lt_86, hc, hd0, hd2, c]
 refine SWp.loopG (α := Nat) (fun i f h' => f 1 = .int .i64 op ∧ f 12 = .imm ks.length (ks.flatMap encE) ∧ f 13 = .int .i64 ((ks.length : Nat) : Int) ∧ f 14 = .int .i64 (i : Nat) ∧ i ≤ ks.length ∧ Keep h h' none_ ∧ useL op ks = useL op (ks.drop i)) (fun i => ks.length - i) 0 ⟨rfl, rfl, rfl, rfl, Nat.zero_le _, Keep.push _ _ _, rfl⟩ ?_
 rintro i f h' ⟨f1, f12, f13, f14, hi, hk, hE⟩
 refine wpI_sound (by kernel_rfl) ?_
 by_cases hlt : i < ks.length
 rotate_left
 ·have c3 : decide ((i : Int) < ((ks.length : Nat) : Int)) = false := by simp only [decide_eq_false_iff_not]; omega
  rw [List.drop_of_length_le (by omega)] at hE
  simp only [wpA_region, wpA_seq, wpA_cond, wpA_exit, wpA_ret, condI_false, seqQ_normal, seqQ_exit, blkQ_exit, endI_mk, goE, andThen_exit, goI_out, goI_ops, opsA_nil, opsA_cons, stepA_assign, stepA_binOp, thenV_some, eval_tmp, eval_const, put_some, aBin_lss, absV_bool, Nat.reduceEqDiff, if_true, if_false, f13, f14, c3, retA_ret, Tryz.results137, resultsA_1]
  exact hid_mk ⟨by rw [hG, hE]; simp [useL], hk⟩
 ·have c3 : decide ((i : Int) < ((ks.length : Nat) : Int)) = true := by simp only [decide_eq_true_eq]; omega
  rw [List.drop_eq_getElem_cons hlt] at hE
  have x0 := ex_ix (kk := .i64) hlt
  have hkid : ks[i] ∈ (Ex.mk o n ks).ks := List.getElem_mem hlt
  have hlt2 := szE_kid _ hkid
  have hok2 := hok.kid _ hkid
  generalize ks[i] = A at *
  have lr : ∀ (q : List V), loadGo (some (some 3)) (some (encE A ++ q)) = some (.agg (encE A)) := fun q => load_row (encE_len A)
  have hone : (V.agg (encE A)).cells = some (encE A) := rfl
  have hset : setC (some 3) (AObj.cells [.int .i64 0, .int .i64 0, .snil] 88 none) 0 (encE A) = some (.cells (encE A) 88 none) := by
   rw [setC_row (n := 3) (encE_len A) (encE_one A), if_pos (by decide)]; cases A; rfl
  have hdA : dropC (AObj.cells (encE A) 88 none) 0 = some (encE A) := by cases A; rfl
  have hlA : loadGo (some (some 3)) (some (encE A)) = some (.agg (encE A)) := by cases A; rfl
  have w2 : IntKind.i64.wrap (((i : Nat) : Int) + 1) = ((i + 1 : Nat) : Int) := by rw [Go.IntWalk.i64_in _ (by omega)]; omega
  simp only [wpA_skip, wpA_region, wpA_seq, wpA_cond, wpA_block, condI_true, seqQ_normal, goI_out, goI_ops, opsA_nil, opsA_cons, stepA_move, stepA_alloc, stepA_load, stepA_store, stepA_binOp, stepA_indexAddr, stepA_call, thenV_some, thenH_some, thenS_some, eval_tmp, put_some, put_none, aBin_lss, aLoad_eq, aPlace_ptr, aPlace_at, aStore_eq, storeGo_ptr, aAlloc_eq, get_push_new, set_push, Nat.reduceEqDiff, List.map_cons, List.map_nil, Option.map_some, if_true, if_false, lt_88, zc_88, zt_88, f1, f12, f13, f14, c3, x0, lr, hone, hset, hdA, hlA]
  refine callI_pure cal137 (ih (szE A) (by omega) A _ rfl hok2) ?_
  cases hu : useX op A with
  | true =>
   simp only [wpA_region, wpA_seq, wpA_cond, wpA_ret, condI_true, seqQ_normal, seqQ_ret, blkQ_ret, endI_mk, goE, andThen_ret, goI_out, goI_ops, opsA_nil, opsA_cons, stepA_assign, eval_tmp, eval_const, put_some, put_none, absV_bool, Nat.reduceEqDiff, if_true, if_false, retA_ret, Tryz.results137, resultsA_1]
   exact hid_mk ⟨by rw [hG, hE]; simp [useL, hu], hk.then_push _⟩
  | false =>
   simp only [wpA_skip, wpA_region, wpA_cond, condI_false, seqQ_normal, blkQ_normal, endI_mk, andThen_normal, goI_out, goI_ops, opsA_nil, opsA_cons, stepA_move, stepA_binOp, thenV_some, eval_tmp, eval_const, put_some, put_none, aBin_add, absV_int, Nat.reduceEqDiff, if_true, if_false, f14, w2]
   exact hid_mk ⟨i + 1, ⟨f1, f12, f13, rfl, by omega, hk.then_push _, by rw [hE]; simp [useL, hu]⟩, by omega⟩
end Go.Proofs.YtfcjehlhoebmnaaGreatDoor.Pk
namespace Go.Proofs.YtfcjehlhoebmnaaGreatDoor.Pk
open Go Go.Proofs Go.Proofs.YtfcjehlhoebmnaaGreatDoor.Ab
set_option linter.unusedVariables false
set_option linter.unusedSimpArgs false
theorem encX_one (v : Vx) : (encX v).all (·.one) = true := by
 have := encE_one v.e
 simp only [encX, List.all_append, this]
 rfl
theorem encX_eq (v : Vx) : encX v = [.int .i64 v.kind, .imm v.frm.length (i64V v.frm), .int .i64 v.e.op, .int .i64 v.e.num, .imm v.e.ks.length (v.e.ks.flatMap encE), .int .i64 v.n] := by
 obtain ⟨k, f, ⟨o, m, ks⟩, n⟩ := v
 simp [encX, encE_eq, Ex.op, Ex.num, Ex.ks]
def inR (x : Int) : Prop := -2 ^ 63 ≤ x ∧ x < 2 ^ 63
def OkX (v : Vx) : Prop := OkE v.e ∧ v.frm.length < 2 ^ 47 ∧ inR v.kind ∧ inR v.n ∧ ∀ f ∈ v.frm, inR f
abbrev Need := Int × Int × Int × Int
def needsR : List Need := [(0, 0, 0, 0), (0, 0, 0, 7), (1, 1, 0, 0), (1, 1, 0, 0), (1, 1, 0, 0), (1, 1, 0, 0), (1, 2, 0, 0), (1, 2, 1, 1048576), (1, 2, 1, 1048576), (2, 2, 0, 0), (1, 0, 0, 7)]
def needE (q : Need) : List V := [.int .i64 q.1, .int .i64 q.2.1, .int .i64 q.2.2.1, .int .i64 q.2.2.2]
def needsC : List V := needsR.flatMap needE
def TG (h : AHeap) : Prop := KG h ∧ h.glob 0 = some needsC
theorem TG.keep {h h' : AHeap} {M : Nat → Prop} (hg : TG h) (hk : Keep h h' M) : TG h' := ⟨hg.1.keep hk, by rw [hk.glob]; exact hg.2⟩
theorem TG.or {h hs h' : AHeap} {M : Nat → Prop} (hg : TG hs) (hg2 : TG h) (hk : Keep hs h' M ∨ h' = h) : TG h' := by
 rcases hk with hk | rfl
 ·exact hg.keep hk
 ·exact hg2
def exprX (e : Ex) (k : Int) : Bool := if k = 0 then (e.op == 0 && (e.num == 0 && e.ks.isEmpty)) else (mayX e && (k == 2 || !useX 5 e))
def meetsX (v : Vx) (q : Need) : Bool := decide ((v.frm.length : Int) = q.1) && (exprX v.e q.2.1 && (decide (q.2.2.1 ≤ v.n) && decide (v.n ≤ q.2.2.2)))
def hasX (v : Vx) : Bool := meetsX v (needsR.getD v.kind.toNat (0, 0, 0, 0))
def kindAt (l : List Vx) (f : Int) : Int := ((l[f.toNat]?).map Vx.kind).getD 0
def takenX (l : List Vx) (i : Nat) (v : Vx) : Bool := (v.kind == 1 || v.kind == 10) && (l.take i).any fun u => u.kind == v.kind && u.n == v.n
def chkV (l : List Vx) (i : Nat) (v : Vx) : Int :=
 if v.kind < 1 ∨ 10 < v.kind then 1 else
 if (v.frm.any fun f => decide (f < 0 ∨ (i : Int) ≤ f)) = true then 2 else
 if hasX v = false then 5 else
 if takenX l i v = true then 12 else
 if (v.frm.any fun f => kindAt l f == 10) = true then 5 else
 if v.kind = 9 ∧ kindAt l (v.frm.getD 1 0) ≠ 6 then 5 else 0
def chkF (l : List Vx) : Nat → List Vx → Int × Int
 | _, [] => (-1, 0)
 | i, v :: r => if chkV l i v = 0 then chkF l (i + 1) r else ((i : Int), chkV l i v)
def chkT (p : Int) (l : List Vx) : Int × Int := if p < 1 ∨ 8 < p ∨ l.length = 0 ∨ 24 < l.length then (-1, 2) else chkF l 0 l
theorem chkF_ok {l : List Vx} : ∀ {a : List Vx} {i : Nat}, (chkF l i a).2 = 0 → chkF l i a = (-1, 0) ∧ ∀ k v, a[k]? = some v → chkV l (i + k) v = 0
 | [], i, h => ⟨rfl, by simp⟩
 | u :: a, i, h => by
  unfold chkF at h ⊢
  split at h
  ·rename_i h0
   rw [if_pos h0]
   obtain ⟨h1, h2⟩ := chkF_ok h
   refine ⟨h1, fun k v hk => ?_⟩
   cases k with
   | zero => simp at hk; subst hk; exact h0
   | succ k => rw [show i + (k + 1) = i + 1 + k by omega]; exact h2 k v (by simpa using hk)
  ·rename_i h0
   exact absurd h h0
end Go.Proofs.YtfcjehlhoebmnaaGreatDoor.Pk
namespace Go.Proofs.YtfcjehlhoebmnaaGreatDoor.Pk
open Go Go.Proofs Go.Proofs.YtfcjehlhoebmnaaGreatDoor.Ab
set_option linter.unusedVariables false
set_option linter.unusedSimpArgs false
set_option maxRecDepth 10000 in
theorem pMayExpr (e : Ex) (k : Int) (hok : OkE e) (h : AHeap) (hg : KG h) : Pure Tryz.prog 98 [.agg (encE e), .int .i64 k] h (.bool (exprX e k)) := by
 refine Pure.val (Clo.bool _) ?_
 have hE : encE e = [.int .i64 e.op, .int .i64 e.num, .imm e.ks.length (e.ks.flatMap encE)] := by obtain ⟨o, n, l⟩ := e; rw [encE_eq]; rfl
 have hg1 : ∀ a, KG (h.push a) := fun a => by unfold KG; rw [push_glob]; exact hg
 have hc : (V.agg (encE e)).cells = some (encE e) := rfl
 have hl0 : loadGo (some none) (some (encE e)) = some (.int .i64 e.op) := by rw [hE]; rfl
 have hd0 : dropC (AObj.cells (encE e) 88 none) 0 = some (encE e) := by rw [hE]; rfl
 have hd1 : dropC (AObj.cells (encE e) 88 none) 1 = some [.int .i64 e.num, .imm e.ks.length (e.ks.flatMap encE)] := by rw [hE]; rfl
 have hd2 : dropC (AObj.cells (encE e) 88 none) 2 = some [.imm e.ks.length (e.ks.flatMap encE)] := by rw [hE]; rfl
 have hld : loadGo (some (some 3)) (some (encE e)) = some (.agg (encE e)) := by rw [hE]; rfl
 refine SCalls.enterI (c := _) Tryz.func98 rfl (by kernel_rfl) (by simp) ?_
 by_cases hk : k = 0
 ·have c : (k == 0) = true := by simp [hk]
  have hl : (((e.ks.length : Nat) : Int) == 0) = e.ks.isEmpty := by cases e.ks <;> simp; omega
  cases c1 : (e.op == 0) <;> cases c2 : (e.num == 0) <;>
  ·simp only [wpA_region, wpA_seq, wpA_cond, wpA_ret, condI_true, seqQ_normal, seqQ_ret, endI_mk, goI_out, goI_ops, opsA_nil, opsA_cons, opsA_guardS, gvI_same, gvI_ft, slotAt_zero, slotAt_succ, stepA_move, stepA_assign, stepA_pick, stepA_box, stepA_load, stepA_binOp, stepA_fieldAddr, stepA_len, thenV_some, thenH_some, pickV_true, pickV_false, eval_tmp, eval_const, put_some, enterF_zero, enterF_succ, aBin_eql, absV_int, absV_bool, aField_eq, fieldGo_ptr, aLoad_eq, loadGo_one, aPlace_ptr, aBox_eq, aLen_imm, get_push_new, Nat.reduceEqDiff, Option.map_some, Nat.add_zero, Nat.zero_add, if_true, if_false, ft_88_0, ft_88_1, ft_88_2, kt_86, lt_2, lt_3, lt_86, hc, c, hl0, hd0, hd1, hd2, c1, c2, hl, retA_ret, Tryz.results98, resultsA_1]
   exact hid_mk ⟨by simp [exprX, hk, c1, c2], Keep.push _ _ _⟩
 ·have c : (k == 0) = false := by simp [hk]
  have hG : exprX e k = (mayX e && (k == 2 || !useX 5 e)) := by simp [exprX, hk]
  simp only [wpA_skip, wpA_region, wpA_seq, wpA_cond, condI_false, seqQ_normal, goI_out, goI_ops, opsA_nil, opsA_cons, stepA_move, stepA_assign, stepA_box, stepA_load, stepA_binOp, stepA_call, thenV_some, thenH_some, eval_tmp, eval_const, put_some, enterF_zero, enterF_succ, aBin_eql, absV_int, absV_bool, aLoad_eq, aPlace_ptr, aBox_eq, get_push_new, Nat.reduceEqDiff, List.map_cons, List.map_nil, Option.map_some, if_true, if_false, lt_88, hc, c, hd0, hld]
  refine callI_pure cal101 (pMay e _ (hg1 _)) ?_
  cases c1 : mayX e
  ·simp only [wpA_ret, seqQ_normal, endI_mk, goI_out, goI_ops, opsA_nil, opsA_cons, opsA_guardS, gvI_ft, gvI_u, slotAt_zero, slotAt_succ, stepA_move, stepA_assign, stepA_pick, thenV_some, pickV_false, eval_tmp, eval_const, put_some, enterF_succ, absV_bool, Nat.reduceEqDiff, if_true, if_false, retA_ret, Tryz.results98, resultsA_1]
   exact hid_mk ⟨by rw [hG, c1]; rfl, Keep.push _ _ _⟩
  ·cases c2 : (k == 2)
   ·simp only [goI_ops, opsA_cons, opsA_guardS, gvI_same, slotAt_zero, slotAt_succ, stepA_move, stepA_load, stepA_binOp, stepA_call, thenV_some, eval_tmp, eval_const, put_some, enterF_zero, enterF_succ, aBin_eql, absV_int, aLoad_eq, aPlace_ptr, get_push_new, Nat.reduceEqDiff, List.map_cons, List.map_nil, if_true, if_false, lt_88, hd0, hld, c2]
    refine callI_pure cal137 (pUses 5 _ e _ rfl hok) ?_
    simp only [wpA_ret, seqQ_normal, endI_mk, goI_out, goI_ops, opsA_nil, opsA_cons, opsA_guardS, gvI_same, slotAt_zero, slotAt_succ, stepA_assign, stepA_pick, stepA_unOp, thenV_some, pickV_true, pickV_false, eval_tmp, eval_const, put_some, enterF_succ, aUn_not, absV_bool, Nat.reduceEqDiff, if_true, if_false, retA_ret, Tryz.results98, resultsA_1]
    exact hid_mk ⟨by rw [hG, c1, c2]; simp, Keep.push _ _ _⟩
   ·simp only [wpA_ret, seqQ_normal, endI_mk, goI_out, goI_ops, opsA_nil, opsA_cons, opsA_guardS, gvI_same, gvI_tf, slotAt_zero, slotAt_succ, stepA_move, stepA_assign, stepA_pick, stepA_binOp, thenV_some, pickV_true, eval_tmp, eval_const, put_some, enterF_zero, enterF_succ, aBin_eql, absV_int, absV_bool, Nat.reduceEqDiff, if_true, if_false, c2, retA_ret, Tryz.results98, resultsA_1]
    exact hid_mk ⟨by rw [hG, c1, c2]; rfl, Keep.push _ _ _⟩
set_option maxRecDepth 10000 in
theorem pMeets (v : Vx) (q : Need) (hok : OkE v.e) (h : AHeap) (hg : KG h) : Pure Tryz.prog 60 [.agg (encX v), .agg (needE q)] h (.bool (meetsX v q)) := by
 refine Pure.val (Clo.bool _) ?_
 obtain ⟨q0, q1, q2, q3⟩ := q
 have hX := encX_eq v
 have hc : (V.agg (encX v)).cells = some (encX v) := rfl
 have hc2 : (V.agg (needE (q0, q1, q2, q3))).cells = some [.int .i64 q0, .int .i64 q1, .int .i64 q2, .int .i64 q3] := rfl
 have hd1 : dropC (AObj.cells (encX v) 90 none) 1 = some [.imm v.frm.length (i64V v.frm), .int .i64 v.e.op, .int .i64 v.e.num, .imm v.e.ks.length (v.e.ks.flatMap encE), .int .i64 v.n] := by rw [hX]; rfl
 have hd2 : dropC (AObj.cells (encX v) 90 none) 2 = some (encE v.e ++ [.int .i64 v.n]) := rfl
 have hd5 : dropC (AObj.cells (encX v) 90 none) 5 = some [.int .i64 v.n] := by rw [hX]; rfl
 have hld : loadGo (some (some 3)) (some (encE v.e ++ [.int .i64 v.n])) = some (.agg (encE v.e)) := load_row (encE_len v.e)
 refine SCalls.enterI (c := _) Tryz.func60 rfl (by kernel_rfl) (by simp) ?_
 obtain ⟨H, hH⟩ : ∃ x, x = (h.push (.cells (encX v) 90 none)).push (.cells [.int .i64 q0, .int .i64 q1, .int .i64 q2, .int .i64 q3] 128 none) := ⟨_, rfl⟩
 have g3 : H.get h.n = .cells (encX v) 90 none := by rw [hH]; exact get_push2'
 have g4 : H.get (h.n + 1) = .cells [.int .i64 q0, .int .i64 q1, .int .i64 q2, .int .i64 q3] 128 none := by rw [hH]; exact get_push2
 have kH : Keep h H none_ := by rw [hH]; exact (Keep.push _ _ _).then_push _
 have gH : KG H := hg.keep kH
 cases c0 : (((v.frm.length : Nat) : Int) == q0)
 ·have d0 : decide (((v.frm.length : Nat) : Int) = q0) = false := by simpa using c0
  simp only [wpA_region, wpA_seq, wpA_ret, seqQ_normal, endI_mk, goI_out, goI_ops, opsA_nil, opsA_cons, opsA_guardS, gvI_ft, slotAt_zero, slotAt_succ, stepA_move, stepA_assign, stepA_pick, stepA_box, stepA_load, stepA_binOp, stepA_fieldAddr, stepA_len, thenV_some, thenH_some, pickV_false, eval_tmp, eval_const, put_some, enterF_zero, enterF_succ, aBin_eql, absV_bool, aField_eq, fieldGo_ptr, aLoad_eq, loadGo_one, aPlace_ptr, dropC_cells, aBox_eq, aLen_imm, push_n, Nat.reduceEqDiff, Nat.reduceAdd, Option.map_some, Nat.add_zero, Nat.zero_add, Nat.zero_le, List.length_cons, List.length_nil, List.drop_zero, if_true, if_false, ft_128_0, ft_90_1, kt_66, lt_3, lt_66, hc, hc2, ← hH, g3, g4, hd1, c0, retA_ret, Tryz.results60, resultsA_1]
  exact hid_mk ⟨by simp [meetsX, d0], kH⟩
 ·have d0 : decide (((v.frm.length : Nat) : Int) = q0) = true := by simpa using c0
  simp only [wpA_region, wpA_seq, seqQ_normal, goI_out, goI_ops, opsA_nil, opsA_cons, opsA_guardS, gvI_same, slotAt_zero, slotAt_succ, stepA_move, stepA_assign, stepA_box, stepA_load, stepA_binOp, stepA_fieldAddr, stepA_len, stepA_call, thenV_some, thenH_some, eval_tmp, eval_const, put_some, enterF_zero, enterF_succ, aBin_eql, absV_bool, aField_eq, fieldGo_ptr, aLoad_eq, loadGo_one, aPlace_ptr, dropC_cells, aBox_eq, aLen_imm, push_n, Nat.reduceEqDiff, Nat.reduceAdd, Nat.reduceLeDiff, List.map_cons, List.map_nil, Option.map_some, Nat.add_zero, Nat.zero_add, Nat.zero_le, List.length_cons, List.length_nil, List.drop_zero, List.drop_succ_cons, if_true, if_false, ft_128_0, ft_128_1, ft_90_1, ft_90_2, kt_66, lt_3, lt_66, lt_88, hc, hc2, ← hH, g3, g4, hd1, hd2, hld, c0]
  refine callI_pure cal98 (pMayExpr v.e q1 hok _ gH) ?_
  cases c1 : exprX v.e q1
  ·simp only [wpA_ret, seqQ_normal, endI_mk, goI_out, goI_ops, opsA_nil, opsA_cons, opsA_guardS, gvI_ft, slotAt_zero, slotAt_succ, stepA_move, stepA_assign, stepA_pick, thenV_some, pickV_true, pickV_false, eval_tmp, eval_const, put_some, enterF_succ, absV_bool, Nat.reduceEqDiff, if_true, if_false, retA_ret, Tryz.results60, resultsA_1]
   exact hid_mk ⟨by simp [meetsX, c1], kH⟩
  cases c2 : decide (q2 ≤ v.n)
  ·simp only [wpA_ret, seqQ_normal, endI_mk, goI_out, goI_ops, opsA_nil, opsA_cons, opsA_guardS, gvI_same, gvI_ft, slotAt_zero, slotAt_succ, stepA_move, stepA_assign, stepA_pick, stepA_load, stepA_binOp, stepA_fieldAddr, thenV_some, pickV_true, pickV_false, eval_tmp, eval_const, put_some, enterF_succ, aBin_geq, absV_bool, aField_eq, fieldGo_ptr, aLoad_eq, loadGo_one, aPlace_ptr, dropC_cells, Nat.reduceEqDiff, Nat.reduceAdd, Nat.reduceLeDiff, Nat.zero_add, List.length_cons, List.length_nil, List.drop_zero, List.drop_succ_cons, if_true, if_false, ft_128_2, ft_90_3, lt_2, g3, g4, hd5, c2, retA_ret, Tryz.results60, resultsA_1]
   exact hid_mk ⟨by simp [meetsX, c2], kH⟩
  ·simp only [wpA_ret, seqQ_normal, endI_mk, goI_out, goI_ops, opsA_nil, opsA_cons, opsA_guardS, gvI_same, slotAt_zero, slotAt_succ, stepA_move, stepA_assign, stepA_pick, stepA_load, stepA_binOp, stepA_fieldAddr, thenV_some, pickV_true, eval_tmp, eval_const, put_some, enterF_succ, aBin_leq, aBin_geq, absV_bool, aField_eq, fieldGo_ptr, aLoad_eq, loadGo_one, aPlace_ptr, dropC_cells, Nat.reduceEqDiff, Nat.reduceAdd, Nat.reduceLeDiff, Nat.zero_add, List.length_cons, List.length_nil, List.drop_zero, List.drop_succ_cons, if_true, if_false, ft_128_2, ft_128_3, ft_90_3, lt_2, g3, g4, hd5, c2, retA_ret, Tryz.results60, resultsA_1]
   exact hid_mk ⟨by simp only [meetsX, d0, c1, c2, Bool.true_and], kH⟩
end Go.Proofs.YtfcjehlhoebmnaaGreatDoor.Pk
namespace Go.Proofs.YtfcjehlhoebmnaaGreatDoor.Pk
open Go Go.Proofs Go.Proofs.YtfcjehlhoebmnaaGreatDoor.Ab
set_option linter.unusedVariables false
set_option linter.unusedSimpArgs false
def plE (p : Int × Int) : V := .agg [.int .i64 p.1, .int .i64 p.2]
theorem sk_tp : structK Tryz.prog 131 = some [0, 0] := by kernel_rfl
theorem keyOk_tp (e : Bool) (a b : Int) : keyOk Tryz.prog e 131 (plE (a, b)) = true := by
 cases e <;> kernel_rfl
theorem mp_t : ∃ d, mapT Tryz.prog 83 = some (131, 3, d) ∧ scalarKind d = false := by
 have h : (mapT Tryz.prog 83).map (fun q => (q.1, q.2.1, scalarKind q.2.2)) = some (131, 3, false) := by kernel_rfl
 cases hm : mapT Tryz.prog 83 with
 | none => rw [hm] at h; cases h
 | some q =>
  rw [hm] at h
  obtain ⟨a, b, d⟩ := q
  simp only [Option.map_some, Option.some.injEq, Prod.mk.injEq] at h
  obtain ⟨rfl, rfl, h⟩ := h
  exact ⟨d, rfl, h⟩
theorem z0_t : zeroT Tryz.prog 3 = some (.int .i64 0) := by kernel_rfl
theorem kTp {d : TypeDesc} (hd : scalarKind d = false) : KeyEnc Tryz.prog 131 d plE where
 eq a b := by
  have h : eqK [0, 0] [.int .i64 a.1, .int .i64 a.2] [.int .i64 b.1, .int .i64 b.2] = some (a.1 == b.1 && a.2 == b.2) := by simp [eqK]
  obtain ⟨vx, vy, hx, hy⟩ := eqK_flat h
  obtain ⟨h1, _⟩ := pr_equal_agg sk_tp h hx hy
  have : eqKey Tryz.prog 131 d (plE a) (plE b) = some (a.1 == b.1 && a.2 == b.2) := by
   unfold eqKey plE
   simp only [plainV, hx, hy, Option.map_some, hd, h1]
   rfl
  rw [this, Option.some.injEq, Bool.eq_iff_iff]
  simp only [Bool.and_eq_true, beq_iff_eq, decide_eq_true_eq]
  exact ⟨fun h => Prod.ext h.1 h.2, fun h => ⟨congrArg Prod.fst h, congrArg Prod.snd h⟩⟩
 ok b a := keyOk_tp b a.1 a.2
 bits a := by
  refine ⟨_, rfl, ?_⟩
  simp [Instr.sameBits]
abbrev EntT := List (Nat × (Int × Int) × Int)
def wT (l : EntT) : List (Nat × V × V) := mapK plE (V.int .i64) l
theorem lookT {h : AHeap} {i cl : Nat} (l : EntT) (a b : Int) (hg : h.get i = .map (wT l) cl) : aLookup Tryz.prog 83 (.map i) (.agg [.int .i64 a, .int .i64 b]) true h = some (.tuple [.int .i64 ((kget l (a, b)).getD 0), .bool (kget l (a, b)).isSome]) := by
 obtain ⟨d, hm, hd⟩ := mp_t
 have := lookup_k (enc := V.int .i64) (ok := true) (kTp hd) (k := (a, b)) hm z0_t hg
 rw [show (V.agg [.int .i64 a, .int .i64 b]) = plE (a, b) from rfl, this]
 cases kget l (a, b) <;> simp [absV, absF]
theorem updT {h : AHeap} {i cl : Nat} (l : EntT) (a b v : Int) (hg : h.get i = .map (wT l) cl) : aUpdate Tryz.prog 83 (.map i) (.agg [.int .i64 a, .int .i64 b]) (.int .i64 v) h = some (h.set i (.map (wT (kset cl l (a, b) v)) (kclk cl l (a, b)))) := by
 obtain ⟨d, hm, hd⟩ := mp_t
 exact update_k (enc := V.int .i64) (kTp hd) (k := (a, b)) hm hg rfl
def TK (l : List Vx) (es : EntT) : Prop := ∀ k n, (k = 1 ∨ k = 10) → (kget es (k, n)).isSome = l.any fun u => u.kind == k && u.n == n
theorem TK.nil : TK [] [] := fun k n _ => rfl
theorem TK.set {l : List Vx} {es : EntT} (a : TK l es) (v : Vx) (cl : Nat) (x : Int) : TK (l ++ [v]) (kset cl es (v.kind, v.n) x) := fun k n hk => by
 rw [kget_kset, List.any_append]
 simp only [List.any_cons, List.any_nil, Bool.or_false]
 by_cases he : (k, n) = (v.kind, v.n)
 ·rw [if_pos he]
  cases he
  simp
 ·rw [if_neg he, a k n hk]
  have : (v.kind == k && v.n == n) = false := by
   rw [Bool.eq_false_iff]
   intro hh
   simp only [Bool.and_eq_true, beq_iff_eq] at hh
   exact he (by rw [hh.1, hh.2])
  rw [this, Bool.or_false]
theorem TK.skip {l : List Vx} {es : EntT} (a : TK l es) {v : Vx} (hv : ¬ (v.kind = 1 ∨ v.kind = 10)) : TK (l ++ [v]) es := fun k n hk => by
 rw [a k n hk, List.any_append]
 simp only [List.any_cons, List.any_nil, Bool.or_false]
 have : (v.kind == k && v.n == n) = false := by
  rw [Bool.eq_false_iff]
  intro hh
  simp only [Bool.and_eq_true, beq_iff_eq] at hh
  exact hv (by rw [hh.1]; exact hk)
 rw [this, Bool.or_false]
theorem any_take_succ {α : Type} {l : List α} {j : Nat} (p : α → Bool) (hj : j < l.length) : (l.take (j + 1)).any p = ((l.take j).any p || p l[j]) := by
 rw [List.take_succ_eq_append_getElem hj, List.any_append]
 simp
theorem kind_ix {l : List Vx} {q : Nat} (hq : q < l.length) : aIndexAddr Tryz.prog 43 (.imm l.length (l.flatMap encX)) (.int .i64 (q : Int)) = some (.at (encX l[q] ++ (l.drop (q + 1)).flatMap encX)) ∧ (∀ r, loadGo (some none) (some (encX l[q] ++ r)) = some (.int .i64 (kindAt l (q : Int)))) ∧ kindAt l (q : Int) = l[q].kind := by
 have hk : kindAt l (q : Int) = l[q].kind := by unfold kindAt; rw [Int.toNat_natCast, List.getElem?_eq_getElem hq]; rfl
 refine ⟨rows_ix encX_len hq ss_43, fun r => ?_, hk⟩
 rw [hk, encX_eq]
 all_goals rfl
theorem has9 {v : Vx} (h9 : v.kind = 9) (hh' : hasX v = true) : v.frm.length = 2 := by
 simp only [hasX, h9, meetsX, Bool.and_eq_true, decide_eq_true_eq] at hh'
 have := hh'.1
 simp [needsR] at this
 omega
theorem frm_1 {l : List Int} (hl : 1 < l.length) : (if (1 : Int) < ((l.length : Nat) : Int) ∧ Int.toNat 1 * 1 ≤ (i64V l).length then some (V.at (List.drop (Int.toNat 1 * 1) (i64V l))) else none) = some (V.at (V.int .i64 l[1] :: i64V (l.drop 2))) := by
 rw [if_pos ⟨by omega, by rw [i64V_length]; show 1 * 1 ≤ _; omega⟩]
 show some (V.at ((l.map (V.int .i64)).drop 1)) = _
 rw [← List.map_drop, List.drop_eq_getElem_cons hl]
 all_goals rfl
theorem need_ld : ∀ q : Nat, q < 11 → loadGo (some (some 4)) (some (needsC.drop (q * 4))) = some (.agg (needE (needsR.getD q (0, 0, 0, 0))))
 | 0, _ => rfl
 | 1, _ => rfl
 | 2, _ => rfl
 | 3, _ => rfl
 | 4, _ => rfl
 | 5, _ => rfl
 | 6, _ => rfl
 | 7, _ => rfl
 | 8, _ => rfl
 | 9, _ => rfl
 | 10, _ => rfl
 | q + 11, h => by omega
set_option maxHeartbeats 2000000 in
set_option maxRecDepth 10000 in
theorem pCheck1 (l : List Vx) (i m cl : Nat) (es : EntT) (hi : i < l.length) (hl24 : l.length ≤ 24) (v : Vx) (hv : l[i] = v) (hok : OkE v.e) (hfl : v.frm.length < 2 ^ 47) (h : AHeap) (hg : TG h) (hm : m < h.n) (gm : h.get m = .map (wT es) cl) (hT : TK (l.take i) es) :
  SCalls Tryz.prog 29 [.imm l.length (l.flatMap encX), .int .i64 (i : Nat), .map m] h (fun r h' => r = .int .i64 (chkV l i v) ∧ Keep h h' (· = m) ∧ (chkV l i v = 0 → ∃ es' cl', h'.get m = .map (wT es') cl' ∧ TK (l.take (i + 1)) es')) := by
 have hX := encX_eq v
 have x0 := rows_ix (kk := .i64) (P := Tryz.prog) encX_len hi ss_43
 rw [hv] at x0
 have htk : l.take (i + 1) = l.take i ++ [v] := by rw [List.take_succ_eq_append_getElem hi, hv]
 have lr : ∀ (q : List V), loadGo (some (some 6)) (some (encX v ++ q)) = some (.agg (encX v)) := fun q => load_row (encX_len v)
 have hone : (V.agg (encX v)).cells = some (encX v) := rfl
 have hset : setC (some 6) (AObj.cells [.int .i64 0, .snil, .int .i64 0, .int .i64 0, .snil, .int .i64 0] 90 none) 0 (encX v) = some (.cells (encX v) 90 none) := by
  rw [setC_row (n := 6) (encX_len v) (encX_one v), if_pos (by decide), hX]; rfl
 have hl0 : loadGo (some none) (some (encX v)) = some (.int .i64 v.kind) := by rw [hX]; rfl
 have hd0 : dropC (AObj.cells (encX v) 90 none) 0 = some (encX v) := by rw [hX]; rfl
 have hd1 : dropC (AObj.cells (encX v) 90 none) 1 = some [.imm v.frm.length (i64V v.frm), .int .i64 v.e.op, .int .i64 v.e.num, .imm v.e.ks.length (v.e.ks.flatMap encE), .int .i64 v.n] := by rw [hX]; rfl
 have hd5 : dropC (AObj.cells (encX v) 90 none) 5 = some [.int .i64 v.n] := by rw [hX]; rfl
 have hld : loadGo (some (some 6)) (some (encX v)) = some (.agg (encX v)) := by rw [hX]; rfl
 obtain ⟨H, hH⟩ : ∃ x, x = h.push (.cells (encX v) 90 none) := ⟨_, rfl⟩
 have gv : H.get h.n = .cells (encX v) 90 none := by rw [hH]; exact get_push_new
 have kH : Keep h H none_ := by rw [hH]; exact Keep.push _ _ _
 have nH : H.n = h.n + 1 := by rw [hH]; rfl
 have gH : TG H := hg.keep kH
 have gmH : H.get m = .map (wT es) cl := (kH.get m hm (by simp [none_])).trans gm
 refine SCalls.enterI (c := _) Tryz.func29 rfl (by kernel_rfl) (by simp) ?_
 by_cases h1 : v.kind < 1
 ·have c1 : decide (v.kind < 1) = true := by simpa using h1
  have hG : chkV l i v = 1 := by unfold chkV; rw [if_pos (.inl h1)]
  simp only [wpA_region, wpA_seq, wpA_cond, wpA_ret, condI_true, seqQ_normal, seqQ_ret, endI_mk, goI_out, goI_ops, opsA_nil, opsA_cons, opsA_guardS, gvI_tf, slotAt_zero, slotAt_succ, stepA_move, stepA_assign, stepA_pick, stepA_alloc, stepA_load, stepA_store, stepA_binOp, stepA_fieldAddr, stepA_indexAddr, thenV_some, thenH_some, thenS_some, pickV_true, eval_tmp, eval_const, put_some, put_none, enterF_zero, enterF_succ, aBin_lss, absV_int, absV_bool, aField_eq, fieldGo_ptr, aLoad_eq, aPlace_ptr, aPlace_at, aStore_eq, storeGo_ptr, aAlloc_eq, get_push_new, set_push, Nat.reduceEqDiff, reduceCtorEq, Option.map_some, Nat.add_zero, if_true, if_false, ft_90_0, lt_3, lt_90, zc_90, zt_90, x0, lr, hone, hset, ← hH, gv, hl0, hd0, c1, retA_ret, Tryz.results29, resultsA_1]
  exact hid_mk ⟨by rw [hG], kH.up, fun hh => by rw [hG] at hh; cases hh⟩
 have c1 : decide (v.kind < 1) = false := by simpa using h1
 by_cases h2 : 10 < v.kind
 ·have c2 : decide (10 < v.kind) = true := by simpa using h2
  have hG : chkV l i v = 1 := by unfold chkV; rw [if_pos (.inr h2)]
  simp only [wpA_region, wpA_seq, wpA_cond, wpA_ret, condI_true, seqQ_normal, seqQ_ret, endI_mk, goI_out, goI_ops, opsA_nil, opsA_cons, opsA_guardS, gvI_same, slotAt_zero, slotAt_succ, stepA_move, stepA_assign, stepA_pick, stepA_alloc, stepA_load, stepA_store, stepA_binOp, stepA_fieldAddr, stepA_indexAddr, thenV_some, thenH_some, thenS_some, pickV_false, eval_tmp, eval_const, put_some, put_none, enterF_zero, enterF_succ, aBin_lss, aBin_gtr, absV_int, absV_bool, aField_eq, fieldGo_ptr, aLoad_eq, aPlace_ptr, aPlace_at, aStore_eq, storeGo_ptr, aAlloc_eq, get_push_new, set_push, Nat.reduceEqDiff, reduceCtorEq, Option.map_some, Nat.add_zero, if_true, if_false, ft_90_0, lt_3, lt_90, zc_90, zt_90, x0, lr, hone, hset, ← hH, gv, hl0, hd0, c1, c2, retA_ret, Tryz.results29, resultsA_1]
  exact hid_mk ⟨by rw [hG], kH.up, fun hh => by rw [hG] at hh; cases hh⟩
 have c2 : decide (10 < v.kind) = false := by simpa using h2
 simp only [wpA_skip, wpA_region, wpA_seq, wpA_cond, wpA_block, wpA_loop, condI_false, seqQ_normal, goI_out, goI_ops, opsA_nil, opsA_cons, opsA_guardS, gvI_same, slotAt_zero, slotAt_succ, stepA_move, stepA_assign, stepA_pick, stepA_alloc, stepA_load, stepA_store, stepA_binOp, stepA_fieldAddr, stepA_indexAddr, stepA_len, thenV_some, thenH_some, thenS_some, pickV_false, eval_tmp, eval_const, put_some, put_none, enterF_zero, enterF_succ, aBin_lss, aBin_gtr, absV_int, absV_bool, aField_eq, fieldGo_ptr, aLoad_eq, loadGo_one, aPlace_ptr, aPlace_at, aStore_eq, storeGo_ptr, aAlloc_eq, aLen_imm, get_push_new, set_push, Nat.reduceEqDiff, reduceCtorEq, Option.map_some, Nat.add_zero, Nat.zero_add, if_true, if_false, ft_90_0, ft_90_1, kt_66, lt_3, lt_66, lt_90, zc_90, zt_90, x0, lr, hone, hset, ← hH, gv, hl0, hd0, hd1, c1, c2]
 refine SWp.loopG (α := Nat) (fun j f h' => f 0 = .imm l.length (l.flatMap encX) ∧ f 1 = .int .i64 (i : Nat) ∧ f 2 = .map m ∧ f 7 = .ptr h.n 0 ∧ f 28 = .imm v.frm.length (i64V v.frm) ∧ f 29 = .int .i64 ((v.frm.length : Nat) : Int) ∧ f 30 = .int .i64 (j : Nat) ∧ j ≤ v.frm.length ∧ h' = H ∧ ((v.frm.take j).any fun f => decide (f < 0 ∨ (i : Int) ≤ f)) = false) (fun j => v.frm.length - j) 0 ⟨rfl, rfl, rfl, rfl, rfl, rfl, rfl, Nat.zero_le _, rfl, rfl⟩ ?_
 rintro j f h' ⟨f0, f1, f2, f7, f28, f29, f30, hj, rfl, hA⟩
 refine wpI_sound (by kernel_rfl) ?_
 by_cases hlt : j < v.frm.length
 ·have c3 : decide ((j : Int) < ((v.frm.length : Nat) : Int)) = true := by simp only [decide_eq_true_eq]; omega
  have x1 := i64V_ix' (P := Tryz.prog) (kk := .i64) hlt ss_66
  have w2 : IntKind.i64.wrap (((j : Nat) : Int) + 1) = ((j + 1 : Nat) : Int) := by rw [Go.IntWalk.i64_in _ (by omega)]; omega
  have hsn := any_take_succ (fun f => decide (f < 0 ∨ (i : Int) ≤ f)) hlt
  have hin : v.frm[j] ∈ v.frm := List.getElem_mem hlt
  generalize v.frm[j] = A at x1 hsn hin
  have bad : ∀ hb : A < 0 ∨ (i : Int) ≤ A, chkV l i v = 2 := fun hb => by
   unfold chkV
   rw [if_neg (by omega), if_pos (List.any_eq_true.2 ⟨A, hin, by simpa using hb⟩)]
  by_cases n1 : A < 0
  ·have d1 : decide (A < 0) = true := by simpa using n1
   simp only [wpA_skip, wpA_region, wpA_seq, wpA_cond, wpA_block, wpA_ret, condI_true, seqQ_normal, seqQ_ret, blkQ_ret, endI_mk, goE, andThen_ret, goI_out, goI_ops, opsA_nil, opsA_cons, opsA_guardS, gvI_tf, slotAt_zero, slotAt_succ, stepA_move, stepA_assign, stepA_pick, stepA_load, stepA_binOp, stepA_indexAddr, thenV_some, pickV_true, eval_tmp, eval_const, put_some, aBin_lss, absV_int, absV_bool, aLoad_eq, loadGo_one, aPlace_at, Nat.reduceEqDiff, if_true, if_false, lt_3, f28, f29, f30, c3, x1, d1, retA_ret, Tryz.results29, resultsA_1]
   exact hid_mk ⟨by rw [bad (.inl n1)], kH.up, fun hh => by rw [bad (.inl n1)] at hh; cases hh⟩
  have d1 : decide (A < 0) = false := by simpa using n1
  by_cases n2 : (i : Int) ≤ A
  ·have d2 : decide ((i : Int) ≤ A) = true := by simpa using n2
   simp only [wpA_skip, wpA_region, wpA_seq, wpA_cond, wpA_block, wpA_ret, condI_true, seqQ_normal, seqQ_ret, blkQ_ret, endI_mk, goE, andThen_ret, goI_out, goI_ops, opsA_nil, opsA_cons, opsA_guardS, gvI_same, slotAt_zero, slotAt_succ, stepA_move, stepA_assign, stepA_pick, stepA_load, stepA_binOp, stepA_indexAddr, thenV_some, pickV_false, eval_tmp, eval_const, put_some, aBin_lss, aBin_geq, absV_int, absV_bool, aLoad_eq, loadGo_one, aPlace_at, Nat.reduceEqDiff, if_true, if_false, lt_3, f1, f28, f29, f30, c3, x1, d1, d2, retA_ret, Tryz.results29, resultsA_1]
   exact hid_mk ⟨by rw [bad (.inr n2)], kH.up, fun hh => by rw [bad (.inr n2)] at hh; cases hh⟩
  have d2 : decide ((i : Int) ≤ A) = false := by simpa using n2
  simp only [wpA_skip, wpA_region, wpA_seq, wpA_cond, wpA_block, condI_true, condI_false, seqQ_normal, blkQ_normal, endI_mk, andThen_normal, goI_out, goI_ops, opsA_nil, opsA_cons, opsA_guardS, gvI_same, slotAt_zero, slotAt_succ, stepA_move, stepA_assign, stepA_pick, stepA_load, stepA_binOp, stepA_indexAddr, thenV_some, pickV_false, eval_tmp, eval_const, put_some, aBin_add, aBin_lss, aBin_geq, absV_int, absV_bool, aLoad_eq, loadGo_one, aPlace_at, Nat.reduceEqDiff, if_true, if_false, lt_3, f1, f28, f29, f30, c3, x1, d1, d2, w2]
  exact hid_mk ⟨j + 1, ⟨f0, f1, f2, f7, f28, f29, rfl, by omega, rfl, by rw [hsn, hA]; simp [n1, n2]⟩, by omega⟩
 have c3 : decide ((j : Int) < ((v.frm.length : Nat) : Int)) = false := by simp only [decide_eq_false_iff_not]; omega
 rw [List.take_of_length_le (by omega)] at hA
 have hrg : ∀ x ∈ v.frm, 0 ≤ x ∧ x < i := fun x hx => by
  rw [List.any_eq_false] at hA
  have := hA x hx
  simp only [decide_eq_true_eq] at this
  omega
 simp only [wpA_region, wpA_seq, wpA_cond, wpA_exit, wpA_draw, condI_false, seqQ_normal, seqQ_exit, blkQ_exit, endI_mk, goE, andThen_exit, goI_out, goI_ops, opsA_nil, opsA_cons, stepA_binOp, thenV_some, eval_tmp, put_some, aBin_lss, if_true, f29, f30, c3]
 have hgl : ∀ f : AFrame, AFrame.eval f h' (.global 0) = .at needsC := fun f => eval_glob gH.2
 have hix : (if (0 : Int) ≤ v.kind ∧ v.kind < ((11 : Nat) : Int) ∧ (v.kind.toNat * 4) ≤ needsC.length then some (V.at (needsC.drop (v.kind.toNat * 4))) else none) = some (.at (needsC.drop (v.kind.toNat * 4))) := if_pos ⟨by omega, by omega, by show _ ≤ 44; omega⟩
 have hld4 := need_ld v.kind.toNat (by omega)
 have hno : ¬ (v.kind < 1 ∨ 10 < v.kind) := by omega
 have hA2 : ¬ ((v.frm.any fun f => decide (f < 0 ∨ (i : Int) ≤ f)) = true) := by rw [hA]; simp
 refine SWp.drawnS none_ [] (.q 0 (.q 1 (.q 2 (.q 3 (.q 4 (.c 5 (.q 6 .done))))))) (by kernel_rfl) (by kernel_rfl) (by kernel_rfl) ?_
 simp only [siI_q, sqI_some, mOk_none', implies_true, qI_nil, qI_cons, thenQ_some, q_load, q_fieldAddr, q_indexAddr, goI_mk, eval_tmp, put_some, aField_eq, fieldGo_ptr, aLoad_eq, aPlace_ptr, aPlace_at, aIndexAddr_eq, ixGo_at, List.getElem?_cons_zero, List.getElem?_cons_succ, Nat.reduceEqDiff, Nat.add_zero, true_and, if_true, if_false, as_129, ft_90_0, lt_128, lt_3, lt_90, ss_129, f7, gv, hd0, hl0, hld, hgl, hix, hld4]
 refine siI_c rfl rfl rfl (fun h'' hk => pMeets v _ hok h'' (gH.or gH hk).1) ?_
 have hHas : meetsX v (needsR.getD v.kind.toNat (0, 0, 0, 0)) = hasX v := rfl
 cases c4 : hasX v
 ·have hG : chkV l i v = 5 := by unfold chkV; rw [if_neg hno, if_neg hA2, if_pos c4]
  simp only [siI_done, siI_q, sqI_some, mOk_none', implies_true, qI_nil, qI_cons, thenQ_some, q_unOp, wpA_region, wpA_seq, wpA_cond, wpA_ret, condI_true, seqQ_normal, seqQ_ret, endI_mk, goI_out, goI_ops, goI_mk, opsA_nil, opsA_cons, stepA_assign, eval_tmp, eval_const, put_some, aUn_not, absV_int, List.getElem?_cons_zero, List.getElem?_cons_succ, Nat.reduceEqDiff, true_and, if_true, if_false, Bool.not_false, hHas, c4, retA_ret, Tryz.results29, resultsA_1]
  exact hid_mk ⟨by rw [hG], kH.up, fun hh => by rw [hG] at hh; cases hh⟩
 simp only [siI_done, siI_q, sqI_some, mOk_none', implies_true, qI_nil, qI_cons, thenQ_some, q_unOp, wpA_skip, wpA_region, wpA_seq, wpA_cond, condI_false, seqQ_normal, goI_out, goI_mk, opsA_cons, stepA_fieldAddr, eval_tmp, put_some, aUn_not, aField_eq, List.getElem?_cons_zero, List.getElem?_cons_succ, Nat.reduceEqDiff, true_and, if_true, if_false, Bool.not_true, ft_90_0, hHas, c4]
 have hno5 : ¬ (hasX v = false) := by rw [c4]; simp
 have hn : (V.agg [.int .i64 v.kind, .int .i64 v.n]).cells = some [.int .i64 v.kind, .int .i64 v.n] := rfl
 by_cases hs : v.kind = 1 ∨ v.kind = 10
 ·obtain ⟨Hp, hHp⟩ : ∃ x, x = h'.push (.cells [.int .i64 v.kind, .int .i64 v.n] 131 none) := ⟨_, rfl⟩
  have gp : Hp.get h'.n = .cells [.int .i64 v.kind, .int .i64 v.n] 131 none := by rw [hHp]; exact get_push_new
  have kp : Keep h' Hp none_ := by rw [hHp]; exact Keep.push _ _ _
  have gvp : Hp.get h.n = .cells (encX v) 90 none := (kp.get h.n (by omega) (by simp [none_])).trans gv
  have gmp : Hp.get m = .map (wT es) cl := (kp.get m (by omega) (by simp [none_])).trans gmH
  have hlk := lookT es v.kind v.n gmp
  have hup := updT es v.kind v.n (i : Nat) gmp
  have htk2 : (kget es (v.kind, v.n)).isSome = takenX l i v := by
   rw [hT v.kind v.n hs]
   unfold takenX
   rcases hs with hs | hs <;> rw [hs] <;> rfl
  rw [htk2] at hlk
  have c56 : ((v.kind == 1) = true ∧ (v.kind == 10) = false) ∨ ((v.kind == 1) = false ∧ (v.kind == 10) = true) := by
   rcases hs with hs | hs <;> rw [hs] <;> simp
  cases c7 : takenX l i v
  ·rw [c7] at hlk
   obtain ⟨HX, hHX⟩ : ∃ x, x = Hp.set m (.map (wT (kset cl es (v.kind, v.n) (i : Nat))) (kclk cl es (v.kind, v.n))) := ⟨_, rfl⟩
   have kS : Keep Hp HX (· = m) := by rw [hHX]; exact Keep.set _ _ _
   have gX : HX.get h.n = .cells (encX v) 90 none := (kS.get h.n (by rw [hHp, push_n]; omega) (by omega)).trans gvp
   have gmX : HX.get m = .map (wT (kset cl es (v.kind, v.n) (i : Nat))) (kclk cl es (v.kind, v.n)) := by rw [hHX]; exact get_set_same
   have kX : Keep h HX (· = m) := ((kH.trans' kp).up).trans' kS
   have hfin : ∃ es' cl', HX.get m = .map (wT es') cl' ∧ TK (l.take (i + 1)) es' := ⟨_, _, gmX, by rw [htk]; exact hT.set v _ _⟩
   rcases c56 with ⟨c5, c6⟩ | ⟨c5, c6⟩
   ·simp only [wpA_skip, wpA_region, wpA_seq, wpA_cond, wpA_block, wpA_loop, condI_true, condI_false, seqQ_normal, goI_out, goI_ops, opsA_nil, opsA_cons, opsA_guardS, gvI_tf, slotAt_zero, slotAt_succ, stepA_move, stepA_assign, stepA_pick, stepA_alloc, stepA_build, stepA_load, stepA_store, stepA_binOp, stepA_fieldAddr, stepA_lookup, stepA_mapUpdate, stepA_extract, stepA_len, thenV_some, thenH_some, thenS_some, pickV_true, extV_zero, extV_succ, eval_tmp, eval_const, put_some, put_none, aBin_eql, absV_int, absV_bool, cells_int, one_int, all_nil, all_cons, aField_eq, fieldGo_ptr, aLoad_eq, loadGo_one, loadGo_row, aPlace_ptr, dropC_cells, aStore_eq, storeGo_ptr, setC_row, setAll_nil, setAll_cons, aAlloc_eq, aLen_imm, aBuild_go, aFill_nil, aFill_cons, fillGo_some, buildGo_struct, get_push_new, set_push, List.getElem?_cons_zero, List.getElem?_cons_succ, Nat.reduceEqDiff, Nat.reduceAdd, Nat.reduceLeDiff, List.map_cons, List.map_nil, Option.map_some, Nat.add_zero, Nat.zero_add, Nat.zero_le, List.length_cons, List.length_nil, List.drop_zero, List.take_succ_cons, List.take_nil, List.set_cons_zero, List.set_cons_succ, and_self, if_true, if_false, Bool.and_self, Nat.le_refl, ft_90_0, ft_90_1, ft_90_3, kt_66, lt_131, lt_2, lt_3, lt_66, pl_131, zc_131, zt_131, f1, f2, f7, gv, hl0, hd0, hd1, hd5, c5, hn, ← hHp, gp, hlk, hup, ← hHX, gX]
    refine SWp.loopG (α := Nat) (fun j f h1 => f 0 = .imm l.length (l.flatMap encX) ∧ f 7 = .ptr h.n 0 ∧ f 73 = .imm v.frm.length (i64V v.frm) ∧ f 74 = .int .i64 ((v.frm.length : Nat) : Int) ∧ f 75 = .int .i64 (j : Nat) ∧ j ≤ v.frm.length ∧ h1 = HX ∧ ((v.frm.take j).any fun f => kindAt l f == 10) = false) (fun j => v.frm.length - j) 0 ⟨f0, f7, rfl, rfl, rfl, Nat.zero_le _, rfl, rfl⟩ ?_
    rintro j2 f2' h1 ⟨g0, g7, g73, g74, g75, hj2, rfl, hB⟩
    refine wpI_sound (by kernel_rfl) ?_
    by_cases hlt2 : j2 < v.frm.length
    ·have c8 : decide ((j2 : Int) < ((v.frm.length : Nat) : Int)) = true := by simp only [decide_eq_true_eq]; omega
     have x1 := i64V_ix' (P := Tryz.prog) (kk := .i64) hlt2 ss_66
     have w2 : IntKind.i64.wrap (((j2 : Nat) : Int) + 1) = ((j2 + 1 : Nat) : Int) := by rw [Go.IntWalk.i64_in _ (by omega)]; omega
     have hsn := any_take_succ (fun f => kindAt l f == 10) hlt2
     have hin : v.frm[j2] ∈ v.frm := List.getElem_mem hlt2
     generalize v.frm[j2] = A at x1 hsn hin
     obtain ⟨p1, p2⟩ := hrg A hin
     obtain ⟨q, rfl⟩ : ∃ q : Nat, A = (q : Int) := ⟨A.toNat, by omega⟩
     obtain ⟨x2, lu0, lk⟩ := kind_ix (l := l) (q := q) (by omega)
     cases c9 : (kindAt l (q : Int) == 10)
     ·simp only [wpA_skip, wpA_region, wpA_seq, wpA_cond, wpA_block, condI_true, condI_false, seqQ_normal, blkQ_normal, endI_mk, andThen_normal, goI_out, goI_ops, opsA_nil, opsA_cons, stepA_move, stepA_assign, stepA_load, stepA_binOp, stepA_fieldAddr, stepA_indexAddr, thenV_some, eval_tmp, eval_const, put_some, aBin_add, aBin_eql, aBin_lss, absV_int, aField_eq, fieldGo_at, aLoad_eq, loadGo_one, aPlace_at, Nat.reduceEqDiff, reduceCtorEq, Nat.zero_le, List.drop_zero, if_true, if_false, ft_90_0, lt_3, g0, g73, g74, g75, c8, x1, x2, lu0, c9, w2]
      exact hid_mk ⟨j2 + 1, ⟨g0, g7, g73, g74, rfl, by omega, rfl, by rw [hsn, hB, c9]; rfl⟩, by omega⟩
     ·have hG : chkV l i v = 5 := by
       unfold chkV
       rw [if_neg hno, if_neg hA2, if_neg hno5, if_neg (by rw [c7]; simp), if_pos (List.any_eq_true.2 ⟨_, hin, c9⟩)]
      simp only [wpA_skip, wpA_region, wpA_seq, wpA_cond, wpA_block, wpA_ret, condI_true, seqQ_normal, seqQ_ret, blkQ_ret, endI_mk, goE, andThen_ret, goI_out, goI_ops, opsA_nil, opsA_cons, stepA_move, stepA_assign, stepA_load, stepA_binOp, stepA_fieldAddr, stepA_indexAddr, thenV_some, eval_tmp, eval_const, put_some, aBin_eql, aBin_lss, absV_int, aField_eq, fieldGo_at, aLoad_eq, loadGo_one, aPlace_at, Nat.reduceEqDiff, reduceCtorEq, Nat.zero_le, List.drop_zero, if_true, if_false, ft_90_0, lt_3, g0, g73, g74, g75, c8, x1, x2, lu0, c9, retA_ret, Tryz.results29, resultsA_1]
      exact hid_mk ⟨by rw [hG], kX, fun hh => by rw [hG] at hh; cases hh⟩
    have c8 : decide ((j2 : Int) < ((v.frm.length : Nat) : Int)) = false := by simp only [decide_eq_false_iff_not]; omega
    rw [List.take_of_length_le (by omega)] at hB
    have hB2 : ¬ ((v.frm.any fun f => kindAt l f == 10) = true) := by rw [hB]; simp
    by_cases h9 : v.kind = 9
    ·have c9 : (v.kind == 9) = true := by simp [h9]
     have hlen : v.frm.length = 2 := has9 h9 c4
     have x1 := frm_1 (l := v.frm) (by omega)
     have hge : v.frm.getD 1 0 = v.frm[1] := by rw [List.getD, List.getElem?_eq_getElem (by omega)]; rfl
     have hin : v.frm[1] ∈ v.frm := List.getElem_mem _
     have hG : chkV l i v = if v.kind = 9 ∧ kindAt l v.frm[1] ≠ 6 then 5 else 0 := by
      unfold chkV
      rw [if_neg hno, if_neg hA2, if_neg hno5, if_neg (by rw [c7]; simp), if_neg hB2, hge]
     generalize v.frm[1] = A at x1 hin hG
     obtain ⟨p1, p2⟩ := hrg A hin
     obtain ⟨q, rfl⟩ : ∃ q : Nat, A = (q : Int) := ⟨A.toNat, by omega⟩
     obtain ⟨x2, lu0, lk⟩ := kind_ix (l := l) (q := q) (by omega)
     by_cases h6 : kindAt l (q : Int) = 6
     ·have c10 : (kindAt l (q : Int) != 6) = false := by simp [h6]
      rw [if_neg (by simp [h6])] at hG
      simp only [wpA_skip, wpA_region, wpA_seq, wpA_cond, wpA_exit, wpA_ret, condI_false, seqQ_normal, seqQ_exit, blkQ_exit, endI_mk, goE, andThen_exit, goI_out, goI_ops, opsA_nil, opsA_cons, opsA_guardS, gvI_same, slotAt_zero, slotAt_succ, stepA_move, stepA_assign, stepA_pick, stepA_load, stepA_binOp, stepA_fieldAddr, stepA_indexAddr, thenV_some, pickV_true, eval_tmp, eval_const, put_some, aBin_eql, aBin_neq, aBin_lss, absV_int, absV_bool, aField_eq, fieldGo_ptr, fieldGo_at, aLoad_eq, loadGo_one, aPlace_ptr, aPlace_at, aIndexAddr_eq, ixGo_imm, Int.reduceLE, Nat.reduceEqDiff, reduceCtorEq, Nat.add_zero, Nat.zero_add, Nat.zero_le, List.drop_zero, true_and, if_true, if_false, as_66, ft_90_0, ft_90_1, lt_3, lt_66, ss_66, g0, g7, g74, g75, c8, c9, gX, hl0, hd0, hd1, x1, x2, lu0, c10, retA_ret, Tryz.results29, resultsA_1]
      exact hid_mk ⟨by rw [hG], kX, fun _ => hfin⟩
     ·have c10 : (kindAt l (q : Int) != 6) = true := by simp [h6]
      rw [if_pos ⟨h9, h6⟩] at hG
      simp only [wpA_region, wpA_seq, wpA_cond, wpA_exit, wpA_ret, condI_true, condI_false, seqQ_normal, seqQ_exit, seqQ_ret, blkQ_exit, endI_mk, goE, andThen_exit, goI_out, goI_ops, opsA_nil, opsA_cons, opsA_guardS, gvI_same, slotAt_zero, slotAt_succ, stepA_move, stepA_assign, stepA_pick, stepA_load, stepA_binOp, stepA_fieldAddr, stepA_indexAddr, thenV_some, pickV_true, eval_tmp, eval_const, put_some, aBin_eql, aBin_neq, aBin_lss, absV_int, absV_bool, aField_eq, fieldGo_ptr, fieldGo_at, aLoad_eq, loadGo_one, aPlace_ptr, aPlace_at, aIndexAddr_eq, ixGo_imm, Int.reduceLE, Nat.reduceEqDiff, reduceCtorEq, Nat.add_zero, Nat.zero_add, Nat.zero_le, List.drop_zero, true_and, if_true, if_false, as_66, ft_90_0, ft_90_1, lt_3, lt_66, ss_66, g0, g7, g74, g75, c8, c9, gX, hl0, hd0, hd1, x1, x2, lu0, c10, retA_ret, Tryz.results29, resultsA_1]
      exact hid_mk ⟨by rw [hG], kX, fun hh => by rw [hG] at hh; cases hh⟩
    ·have c9 : (v.kind == 9) = false := by simp [h9]
     have hG : chkV l i v = 0 := by
      unfold chkV
      rw [if_neg hno, if_neg hA2, if_neg hno5, if_neg (by rw [c7]; simp), if_neg hB2, if_neg (by simp [h9])]
     simp only [wpA_skip, wpA_region, wpA_seq, wpA_cond, wpA_exit, wpA_ret, condI_false, seqQ_normal, seqQ_exit, blkQ_exit, endI_mk, goE, andThen_exit, goI_out, goI_ops, opsA_nil, opsA_cons, opsA_guardS, gvI_ft, slotAt_zero, slotAt_succ, stepA_move, stepA_assign, stepA_pick, stepA_load, stepA_binOp, stepA_fieldAddr, thenV_some, pickV_false, eval_tmp, eval_const, put_some, aBin_eql, aBin_lss, absV_int, absV_bool, aField_eq, fieldGo_ptr, aLoad_eq, aPlace_ptr, Nat.reduceEqDiff, Nat.add_zero, if_true, if_false, ft_90_0, lt_3, g7, g74, g75, c8, c9, gX, hl0, hd0, retA_ret, Tryz.results29, resultsA_1]
     exact hid_mk ⟨by rw [hG], kX, fun _ => hfin⟩
   ·simp only [wpA_skip, wpA_region, wpA_seq, wpA_cond, wpA_block, wpA_loop, condI_true, condI_false, seqQ_normal, goI_out, goI_ops, opsA_nil, opsA_cons, opsA_guardS, gvI_same, slotAt_zero, slotAt_succ, stepA_move, stepA_assign, stepA_pick, stepA_alloc, stepA_build, stepA_load, stepA_store, stepA_binOp, stepA_fieldAddr, stepA_lookup, stepA_mapUpdate, stepA_extract, stepA_len, thenV_some, thenH_some, thenS_some, pickV_false, extV_zero, extV_succ, eval_tmp, eval_const, put_some, put_none, aBin_eql, absV_int, absV_bool, cells_int, one_int, all_nil, all_cons, aField_eq, fieldGo_ptr, aLoad_eq, loadGo_one, loadGo_row, aPlace_ptr, dropC_cells, aStore_eq, storeGo_ptr, setC_row, setAll_nil, setAll_cons, aAlloc_eq, aLen_imm, aBuild_go, aFill_nil, aFill_cons, fillGo_some, buildGo_struct, get_push_new, set_push, List.getElem?_cons_zero, List.getElem?_cons_succ, Nat.reduceEqDiff, Nat.reduceAdd, Nat.reduceLeDiff, List.map_cons, List.map_nil, Option.map_some, Nat.add_zero, Nat.zero_add, Nat.zero_le, List.length_cons, List.length_nil, List.drop_zero, List.take_succ_cons, List.take_nil, List.set_cons_zero, List.set_cons_succ, and_self, if_true, if_false, Bool.and_self, Nat.le_refl, ft_90_0, ft_90_1, ft_90_3, kt_66, lt_131, lt_2, lt_3, lt_66, pl_131, zc_131, zt_131, f1, f2, f7, gv, hl0, hd0, hd1, hd5, c5, c6, hn, ← hHp, gp, hlk, hup, ← hHX, gX]
    refine SWp.loopG (α := Nat) (fun j f h1 => f 0 = .imm l.length (l.flatMap encX) ∧ f 7 = .ptr h.n 0 ∧ f 73 = .imm v.frm.length (i64V v.frm) ∧ f 74 = .int .i64 ((v.frm.length : Nat) : Int) ∧ f 75 = .int .i64 (j : Nat) ∧ j ≤ v.frm.length ∧ h1 = HX ∧ ((v.frm.take j).any fun f => kindAt l f == 10) = false) (fun j => v.frm.length - j) 0 ⟨f0, f7, rfl, rfl, rfl, Nat.zero_le _, rfl, rfl⟩ ?_
    rintro j2 f2' h1 ⟨g0, g7, g73, g74, g75, hj2, rfl, hB⟩
    refine wpI_sound (by kernel_rfl) ?_
    by_cases hlt2 : j2 < v.frm.length
    ·have c8 : decide ((j2 : Int) < ((v.frm.length : Nat) : Int)) = true := by simp only [decide_eq_true_eq]; omega
     have x1 := i64V_ix' (P := Tryz.prog) (kk := .i64) hlt2 ss_66
     have w2 : IntKind.i64.wrap (((j2 : Nat) : Int) + 1) = ((j2 + 1 : Nat) : Int) := by rw [Go.IntWalk.i64_in _ (by omega)]; omega
     have hsn := any_take_succ (fun f => kindAt l f == 10) hlt2
     have hin : v.frm[j2] ∈ v.frm := List.getElem_mem hlt2
     generalize v.frm[j2] = A at x1 hsn hin
     obtain ⟨p1, p2⟩ := hrg A hin
     obtain ⟨q, rfl⟩ : ∃ q : Nat, A = (q : Int) := ⟨A.toNat, by omega⟩
     obtain ⟨x2, lu0, lk⟩ := kind_ix (l := l) (q := q) (by omega)
     cases c9 : (kindAt l (q : Int) == 10)
     ·simp only [wpA_skip, wpA_region, wpA_seq, wpA_cond, wpA_block, condI_true, condI_false, seqQ_normal, blkQ_normal, endI_mk, andThen_normal, goI_out, goI_ops, opsA_nil, opsA_cons, stepA_move, stepA_assign, stepA_load, stepA_binOp, stepA_fieldAddr, stepA_indexAddr, thenV_some, eval_tmp, eval_const, put_some, aBin_add, aBin_eql, aBin_lss, absV_int, aField_eq, fieldGo_at, aLoad_eq, loadGo_one, aPlace_at, Nat.reduceEqDiff, reduceCtorEq, Nat.zero_le, List.drop_zero, if_true, if_false, ft_90_0, lt_3, g0, g73, g74, g75, c8, x1, x2, lu0, c9, w2]
      exact hid_mk ⟨j2 + 1, ⟨g0, g7, g73, g74, rfl, by omega, rfl, by rw [hsn, hB, c9]; rfl⟩, by omega⟩
     ·have hG : chkV l i v = 5 := by
       unfold chkV
       rw [if_neg hno, if_neg hA2, if_neg hno5, if_neg (by rw [c7]; simp), if_pos (List.any_eq_true.2 ⟨_, hin, c9⟩)]
      simp only [wpA_skip, wpA_region, wpA_seq, wpA_cond, wpA_block, wpA_ret, condI_true, seqQ_normal, seqQ_ret, blkQ_ret, endI_mk, goE, andThen_ret, goI_out, goI_ops, opsA_nil, opsA_cons, stepA_move, stepA_assign, stepA_load, stepA_binOp, stepA_fieldAddr, stepA_indexAddr, thenV_some, eval_tmp, eval_const, put_some, aBin_eql, aBin_lss, absV_int, aField_eq, fieldGo_at, aLoad_eq, loadGo_one, aPlace_at, Nat.reduceEqDiff, reduceCtorEq, Nat.zero_le, List.drop_zero, if_true, if_false, ft_90_0, lt_3, g0, g73, g74, g75, c8, x1, x2, lu0, c9, retA_ret, Tryz.results29, resultsA_1]
      exact hid_mk ⟨by rw [hG], kX, fun hh => by rw [hG] at hh; cases hh⟩
    have c8 : decide ((j2 : Int) < ((v.frm.length : Nat) : Int)) = false := by simp only [decide_eq_false_iff_not]; omega
    rw [List.take_of_length_le (by omega)] at hB
    have hB2 : ¬ ((v.frm.any fun f => kindAt l f == 10) = true) := by rw [hB]; simp
    by_cases h9 : v.kind = 9
    ·have c9 : (v.kind == 9) = true := by simp [h9]
     have hlen : v.frm.length = 2 := has9 h9 c4
     have x1 := frm_1 (l := v.frm) (by omega)
     have hge : v.frm.getD 1 0 = v.frm[1] := by rw [List.getD, List.getElem?_eq_getElem (by omega)]; rfl
     have hin : v.frm[1] ∈ v.frm := List.getElem_mem _
     have hG : chkV l i v = if v.kind = 9 ∧ kindAt l v.frm[1] ≠ 6 then 5 else 0 := by
      unfold chkV
      rw [if_neg hno, if_neg hA2, if_neg hno5, if_neg (by rw [c7]; simp), if_neg hB2, hge]
     generalize v.frm[1] = A at x1 hin hG
     obtain ⟨p1, p2⟩ := hrg A hin
     obtain ⟨q, rfl⟩ : ∃ q : Nat, A = (q : Int) := ⟨A.toNat, by omega⟩
     obtain ⟨x2, lu0, lk⟩ := kind_ix (l := l) (q := q) (by omega)
     by_cases h6 : kindAt l (q : Int) = 6
     ·have c10 : (kindAt l (q : Int) != 6) = false := by simp [h6]
      rw [if_neg (by simp [h6])] at hG
      simp only [wpA_skip, wpA_region, wpA_seq, wpA_cond, wpA_exit, wpA_ret, condI_false, seqQ_normal, seqQ_exit, blkQ_exit, endI_mk, goE, andThen_exit, goI_out, goI_ops, opsA_nil, opsA_cons, opsA_guardS, gvI_same, slotAt_zero, slotAt_succ, stepA_move, stepA_assign, stepA_pick, stepA_load, stepA_binOp, stepA_fieldAddr, stepA_indexAddr, thenV_some, pickV_true, eval_tmp, eval_const, put_some, aBin_eql, aBin_neq, aBin_lss, absV_int, absV_bool, aField_eq, fieldGo_ptr, fieldGo_at, aLoad_eq, loadGo_one, aPlace_ptr, aPlace_at, aIndexAddr_eq, ixGo_imm, Int.reduceLE, Nat.reduceEqDiff, reduceCtorEq, Nat.add_zero, Nat.zero_add, Nat.zero_le, List.drop_zero, true_and, if_true, if_false, as_66, ft_90_0, ft_90_1, lt_3, lt_66, ss_66, g0, g7, g74, g75, c8, c9, gX, hl0, hd0, hd1, x1, x2, lu0, c10, retA_ret, Tryz.results29, resultsA_1]
      exact hid_mk ⟨by rw [hG], kX, fun _ => hfin⟩
     ·have c10 : (kindAt l (q : Int) != 6) = true := by simp [h6]
      rw [if_pos ⟨h9, h6⟩] at hG
      simp only [wpA_region, wpA_seq, wpA_cond, wpA_exit, wpA_ret, condI_true, condI_false, seqQ_normal, seqQ_exit, seqQ_ret, blkQ_exit, endI_mk, goE, andThen_exit, goI_out, goI_ops, opsA_nil, opsA_cons, opsA_guardS, gvI_same, slotAt_zero, slotAt_succ, stepA_move, stepA_assign, stepA_pick, stepA_load, stepA_binOp, stepA_fieldAddr, stepA_indexAddr, thenV_some, pickV_true, eval_tmp, eval_const, put_some, aBin_eql, aBin_neq, aBin_lss, absV_int, absV_bool, aField_eq, fieldGo_ptr, fieldGo_at, aLoad_eq, loadGo_one, aPlace_ptr, aPlace_at, aIndexAddr_eq, ixGo_imm, Int.reduceLE, Nat.reduceEqDiff, reduceCtorEq, Nat.add_zero, Nat.zero_add, Nat.zero_le, List.drop_zero, true_and, if_true, if_false, as_66, ft_90_0, ft_90_1, lt_3, lt_66, ss_66, g0, g7, g74, g75, c8, c9, gX, hl0, hd0, hd1, x1, x2, lu0, c10, retA_ret, Tryz.results29, resultsA_1]
      exact hid_mk ⟨by rw [hG], kX, fun hh => by rw [hG] at hh; cases hh⟩
    ·have c9 : (v.kind == 9) = false := by simp [h9]
     have hG : chkV l i v = 0 := by
      unfold chkV
      rw [if_neg hno, if_neg hA2, if_neg hno5, if_neg (by rw [c7]; simp), if_neg hB2, if_neg (by simp [h9])]
     simp only [wpA_skip, wpA_region, wpA_seq, wpA_cond, wpA_exit, wpA_ret, condI_false, seqQ_normal, seqQ_exit, blkQ_exit, endI_mk, goE, andThen_exit, goI_out, goI_ops, opsA_nil, opsA_cons, opsA_guardS, gvI_ft, slotAt_zero, slotAt_succ, stepA_move, stepA_assign, stepA_pick, stepA_load, stepA_binOp, stepA_fieldAddr, thenV_some, pickV_false, eval_tmp, eval_const, put_some, aBin_eql, aBin_lss, absV_int, absV_bool, aField_eq, fieldGo_ptr, aLoad_eq, aPlace_ptr, Nat.reduceEqDiff, Nat.add_zero, if_true, if_false, ft_90_0, lt_3, g7, g74, g75, c8, c9, gX, hl0, hd0, retA_ret, Tryz.results29, resultsA_1]
     exact hid_mk ⟨by rw [hG], kX, fun _ => hfin⟩
  ·rw [c7] at hlk
   have hG : chkV l i v = 12 := by unfold chkV; rw [if_neg hno, if_neg hA2, if_neg hno5, if_pos c7]
   rcases c56 with ⟨c5, c6⟩ | ⟨c5, c6⟩
   ·simp only [wpA_region, wpA_seq, wpA_cond, wpA_ret, condI_true, seqQ_normal, seqQ_ret, endI_mk, goI_out, goI_ops, opsA_nil, opsA_cons, opsA_guardS, gvI_tf, slotAt_zero, slotAt_succ, stepA_move, stepA_assign, stepA_pick, stepA_alloc, stepA_build, stepA_load, stepA_store, stepA_binOp, stepA_fieldAddr, stepA_lookup, stepA_extract, thenV_some, thenH_some, thenS_some, pickV_true, extV_zero, extV_succ, eval_tmp, eval_const, put_some, put_none, aBin_eql, absV_int, absV_bool, cells_int, one_int, all_nil, all_cons, aField_eq, fieldGo_ptr, aLoad_eq, loadGo_one, loadGo_row, aPlace_ptr, dropC_cells, aStore_eq, storeGo_ptr, setC_row, setAll_nil, setAll_cons, aAlloc_eq, aBuild_go, aFill_nil, aFill_cons, fillGo_some, buildGo_struct, get_push_new, set_push, List.getElem?_cons_zero, List.getElem?_cons_succ, Nat.reduceEqDiff, Nat.reduceAdd, Nat.reduceLeDiff, List.map_cons, List.map_nil, Option.map_some, Nat.add_zero, Nat.zero_add, Nat.zero_le, List.length_cons, List.length_nil, List.drop_zero, List.take_succ_cons, List.take_nil, List.set_cons_zero, List.set_cons_succ, and_self, if_true, if_false, Bool.and_self, Nat.le_refl, ft_90_0, ft_90_3, lt_131, lt_2, lt_3, pl_131, zc_131, zt_131, f2, f7, gv, hl0, hd0, hd5, c5, hn, ← hHp, gp, hlk, retA_ret, Tryz.results29, resultsA_1]
    exact hid_mk ⟨by rw [hG], (kH.trans' kp).up, fun hh => by rw [hG] at hh; cases hh⟩
   ·simp only [wpA_region, wpA_seq, wpA_cond, wpA_ret, condI_true, seqQ_normal, seqQ_ret, endI_mk, goI_out, goI_ops, opsA_nil, opsA_cons, opsA_guardS, gvI_same, slotAt_zero, slotAt_succ, stepA_move, stepA_assign, stepA_pick, stepA_alloc, stepA_build, stepA_load, stepA_store, stepA_binOp, stepA_fieldAddr, stepA_lookup, stepA_extract, thenV_some, thenH_some, thenS_some, pickV_false, extV_zero, extV_succ, eval_tmp, eval_const, put_some, put_none, aBin_eql, absV_int, absV_bool, cells_int, one_int, all_nil, all_cons, aField_eq, fieldGo_ptr, aLoad_eq, loadGo_one, loadGo_row, aPlace_ptr, dropC_cells, aStore_eq, storeGo_ptr, setC_row, setAll_nil, setAll_cons, aAlloc_eq, aBuild_go, aFill_nil, aFill_cons, fillGo_some, buildGo_struct, get_push_new, set_push, List.getElem?_cons_zero, List.getElem?_cons_succ, Nat.reduceEqDiff, Nat.reduceAdd, Nat.reduceLeDiff, List.map_cons, List.map_nil, Option.map_some, Nat.add_zero, Nat.zero_add, Nat.zero_le, List.length_cons, List.length_nil, List.drop_zero, List.take_succ_cons, List.take_nil, List.set_cons_zero, List.set_cons_succ, and_self, if_true, if_false, Bool.and_self, Nat.le_refl, ft_90_0, ft_90_3, lt_131, lt_2, lt_3, pl_131, zc_131, zt_131, f2, f7, gv, hl0, hd0, hd5, c5, c6, hn, ← hHp, gp, hlk, retA_ret, Tryz.results29, resultsA_1]
    exact hid_mk ⟨by rw [hG], (kH.trans' kp).up, fun hh => by rw [hG] at hh; cases hh⟩
 ·have c5 : (v.kind == 1) = false := by simp; omega
  have c6 : (v.kind == 10) = false := by simp; omega
  have c7 : takenX l i v = false := by unfold takenX; rw [c5, c6]; rfl
  obtain ⟨HX, hHX⟩ : ∃ x, x = h' := ⟨_, rfl⟩
  have hfin : ∃ es' cl', HX.get m = .map (wT es') cl' ∧ TK (l.take (i + 1)) es' := ⟨_, _, by rw [hHX]; exact gmH, by rw [htk]; exact hT.skip hs⟩
  have kX : Keep h HX (· = m) := by rw [hHX]; exact kH.up
  have gX : HX.get h.n = .cells (encX v) 90 none := by rw [hHX]; exact gv
  simp only [wpA_skip, wpA_region, wpA_seq, wpA_cond, wpA_block, wpA_loop, condI_false, seqQ_normal, goI_out, goI_ops, opsA_nil, opsA_cons, opsA_guardS, gvI_same, slotAt_zero, slotAt_succ, stepA_move, stepA_pick, stepA_load, stepA_binOp, stepA_fieldAddr, stepA_len, thenV_some, pickV_false, eval_tmp, eval_const, put_some, aBin_eql, absV_int, absV_bool, aField_eq, fieldGo_ptr, aLoad_eq, loadGo_one, aPlace_ptr, aLen_imm, Nat.reduceEqDiff, Nat.add_zero, Nat.zero_add, if_true, if_false, ft_90_0, ft_90_1, kt_66, lt_3, lt_66, f7, ← hHX, gX, hl0, hd0, hd1, c5, c6]
  refine SWp.loopG (α := Nat) (fun j f h1 => f 0 = .imm l.length (l.flatMap encX) ∧ f 7 = .ptr h.n 0 ∧ f 73 = .imm v.frm.length (i64V v.frm) ∧ f 74 = .int .i64 ((v.frm.length : Nat) : Int) ∧ f 75 = .int .i64 (j : Nat) ∧ j ≤ v.frm.length ∧ h1 = HX ∧ ((v.frm.take j).any fun f => kindAt l f == 10) = false) (fun j => v.frm.length - j) 0 ⟨f0, f7, rfl, rfl, rfl, Nat.zero_le _, rfl, rfl⟩ ?_
  rintro j2 f2' h1 ⟨g0, g7, g73, g74, g75, hj2, rfl, hB⟩
  refine wpI_sound (by kernel_rfl) ?_
  by_cases hlt2 : j2 < v.frm.length
  ·have c8 : decide ((j2 : Int) < ((v.frm.length : Nat) : Int)) = true := by simp only [decide_eq_true_eq]; omega
   have x1 := i64V_ix' (P := Tryz.prog) (kk := .i64) hlt2 ss_66
   have w2 : IntKind.i64.wrap (((j2 : Nat) : Int) + 1) = ((j2 + 1 : Nat) : Int) := by rw [Go.IntWalk.i64_in _ (by omega)]; omega
   have hsn := any_take_succ (fun f => kindAt l f == 10) hlt2
   have hin : v.frm[j2] ∈ v.frm := List.getElem_mem hlt2
   generalize v.frm[j2] = A at x1 hsn hin
   obtain ⟨p1, p2⟩ := hrg A hin
   obtain ⟨q, rfl⟩ : ∃ q : Nat, A = (q : Int) := ⟨A.toNat, by omega⟩
   obtain ⟨x2, lu0, lk⟩ := kind_ix (l := l) (q := q) (by omega)
   cases c9 : (kindAt l (q : Int) == 10)
   ·simp only [wpA_skip, wpA_region, wpA_seq, wpA_cond, wpA_block, condI_true, condI_false, seqQ_normal, blkQ_normal, endI_mk, andThen_normal, goI_out, goI_ops, opsA_nil, opsA_cons, stepA_move, stepA_assign, stepA_load, stepA_binOp, stepA_fieldAddr, stepA_indexAddr, thenV_some, eval_tmp, eval_const, put_some, aBin_add, aBin_eql, aBin_lss, absV_int, aField_eq, fieldGo_at, aLoad_eq, loadGo_one, aPlace_at, Nat.reduceEqDiff, reduceCtorEq, Nat.zero_le, List.drop_zero, if_true, if_false, ft_90_0, lt_3, g0, g73, g74, g75, c8, x1, x2, lu0, c9, w2]
    exact hid_mk ⟨j2 + 1, ⟨g0, g7, g73, g74, rfl, by omega, rfl, by rw [hsn, hB, c9]; rfl⟩, by omega⟩
   ·have hG : chkV l i v = 5 := by
     unfold chkV
     rw [if_neg hno, if_neg hA2, if_neg hno5, if_neg (by rw [c7]; simp), if_pos (List.any_eq_true.2 ⟨_, hin, c9⟩)]
    simp only [wpA_skip, wpA_region, wpA_seq, wpA_cond, wpA_block, wpA_ret, condI_true, seqQ_normal, seqQ_ret, blkQ_ret, endI_mk, goE, andThen_ret, goI_out, goI_ops, opsA_nil, opsA_cons, stepA_move, stepA_assign, stepA_load, stepA_binOp, stepA_fieldAddr, stepA_indexAddr, thenV_some, eval_tmp, eval_const, put_some, aBin_eql, aBin_lss, absV_int, aField_eq, fieldGo_at, aLoad_eq, loadGo_one, aPlace_at, Nat.reduceEqDiff, reduceCtorEq, Nat.zero_le, List.drop_zero, if_true, if_false, ft_90_0, lt_3, g0, g73, g74, g75, c8, x1, x2, lu0, c9, retA_ret, Tryz.results29, resultsA_1]
    exact hid_mk ⟨by rw [hG], kX, fun hh => by rw [hG] at hh; cases hh⟩
  have c8 : decide ((j2 : Int) < ((v.frm.length : Nat) : Int)) = false := by simp only [decide_eq_false_iff_not]; omega
  rw [List.take_of_length_le (by omega)] at hB
  have hB2 : ¬ ((v.frm.any fun f => kindAt l f == 10) = true) := by rw [hB]; simp
  by_cases h9 : v.kind = 9
  ·have c9 : (v.kind == 9) = true := by simp [h9]
   have hlen : v.frm.length = 2 := has9 h9 c4
   have x1 := frm_1 (l := v.frm) (by omega)
   have hge : v.frm.getD 1 0 = v.frm[1] := by rw [List.getD, List.getElem?_eq_getElem (by omega)]; rfl
   have hin : v.frm[1] ∈ v.frm := List.getElem_mem _
   have hG : chkV l i v = if v.kind = 9 ∧ kindAt l v.frm[1] ≠ 6 then 5 else 0 := by
    unfold chkV
    rw [if_neg hno, if_neg hA2, if_neg hno5, if_neg (by rw [c7]; simp), if_neg hB2, hge]
   generalize v.frm[1] = A at x1 hin hG
   obtain ⟨p1, p2⟩ := hrg A hin
   obtain ⟨q, rfl⟩ : ∃ q : Nat, A = (q : Int) := ⟨A.toNat, by omega⟩
   obtain ⟨x2, lu0, lk⟩ := kind_ix (l := l) (q := q) (by omega)
   by_cases h6 : kindAt l (q : Int) = 6
   ·have c10 : (kindAt l (q : Int) != 6) = false := by simp [h6]
    rw [if_neg (by simp [h6])] at hG
    simp only [wpA_skip, wpA_region, wpA_seq, wpA_cond, wpA_exit, wpA_ret, condI_false, seqQ_normal, seqQ_exit, blkQ_exit, endI_mk, goE, andThen_exit, goI_out, goI_ops, opsA_nil, opsA_cons, opsA_guardS, gvI_same, slotAt_zero, slotAt_succ, stepA_move, stepA_assign, stepA_pick, stepA_load, stepA_binOp, stepA_fieldAddr, stepA_indexAddr, thenV_some, pickV_true, eval_tmp, eval_const, put_some, aBin_eql, aBin_neq, aBin_lss, absV_int, absV_bool, aField_eq, fieldGo_ptr, fieldGo_at, aLoad_eq, loadGo_one, aPlace_ptr, aPlace_at, aIndexAddr_eq, ixGo_imm, Int.reduceLE, Nat.reduceEqDiff, reduceCtorEq, Nat.add_zero, Nat.zero_add, Nat.zero_le, List.drop_zero, true_and, if_true, if_false, as_66, ft_90_0, ft_90_1, lt_3, lt_66, ss_66, g0, g7, g74, g75, c8, c9, gX, hl0, hd0, hd1, x1, x2, lu0, c10, retA_ret, Tryz.results29, resultsA_1]
    exact hid_mk ⟨by rw [hG], kX, fun _ => hfin⟩
   ·have c10 : (kindAt l (q : Int) != 6) = true := by simp [h6]
    rw [if_pos ⟨h9, h6⟩] at hG
    simp only [wpA_region, wpA_seq, wpA_cond, wpA_exit, wpA_ret, condI_true, condI_false, seqQ_normal, seqQ_exit, seqQ_ret, blkQ_exit, endI_mk, goE, andThen_exit, goI_out, goI_ops, opsA_nil, opsA_cons, opsA_guardS, gvI_same, slotAt_zero, slotAt_succ, stepA_move, stepA_assign, stepA_pick, stepA_load, stepA_binOp, stepA_fieldAddr, stepA_indexAddr, thenV_some, pickV_true, eval_tmp, eval_const, put_some, aBin_eql, aBin_neq, aBin_lss, absV_int, absV_bool, aField_eq, fieldGo_ptr, fieldGo_at, aLoad_eq, loadGo_one, aPlace_ptr, aPlace_at, aIndexAddr_eq, ixGo_imm, Int.reduceLE, Nat.reduceEqDiff, reduceCtorEq, Nat.add_zero, Nat.zero_add, Nat.zero_le, List.drop_zero, true_and, if_true, if_false, as_66, ft_90_0, ft_90_1, lt_3, lt_66, ss_66, g0, g7, g74, g75, c8, c9, gX, hl0, hd0, hd1, x1, x2, lu0, c10, retA_ret, Tryz.results29, resultsA_1]
    exact hid_mk ⟨by rw [hG], kX, fun hh => by rw [hG] at hh; cases hh⟩
  ·have c9 : (v.kind == 9) = false := by simp [h9]
   have hG : chkV l i v = 0 := by
    unfold chkV
    rw [if_neg hno, if_neg hA2, if_neg hno5, if_neg (by rw [c7]; simp), if_neg hB2, if_neg (by simp [h9])]
   simp only [wpA_skip, wpA_region, wpA_seq, wpA_cond, wpA_exit, wpA_ret, condI_false, seqQ_normal, seqQ_exit, blkQ_exit, endI_mk, goE, andThen_exit, goI_out, goI_ops, opsA_nil, opsA_cons, opsA_guardS, gvI_ft, slotAt_zero, slotAt_succ, stepA_move, stepA_assign, stepA_pick, stepA_load, stepA_binOp, stepA_fieldAddr, thenV_some, pickV_false, eval_tmp, eval_const, put_some, aBin_eql, aBin_lss, absV_int, absV_bool, aField_eq, fieldGo_ptr, aLoad_eq, aPlace_ptr, Nat.reduceEqDiff, Nat.add_zero, if_true, if_false, ft_90_0, lt_3, g7, g74, g75, c8, c9, gX, hl0, hd0, retA_ret, Tryz.results29, resultsA_1]
   exact hid_mk ⟨by rw [hG], kX, fun _ => hfin⟩
end Go.Proofs.YtfcjehlhoebmnaaGreatDoor.Pk
namespace Go.Proofs.YtfcjehlhoebmnaaGreatDoor.Pk
open Go Go.Proofs Go.Proofs.YtfcjehlhoebmnaaGreatDoor.Ab
set_option linter.unusedVariables false
set_option linter.unusedSimpArgs false
def topE (l : List Vx) (p : Int) : List V := [.imm l.length (l.flatMap encX), .int .i64 p]
theorem topE_clo (l : List Vx) (p : Int) : CloL (topE l p) := CloL.cons (Clo.imm (rows_clo encX_clo _)) (CloL.cons (Clo.int _ _) CloL.nil)
def OkT (l : List Vx) : Prop := l.length < 2 ^ 47 ∧ ∀ v ∈ l, OkX v
def chkA (q : Int × Int) : V := .tuple [.int .i64 q.1, .int .i64 q.2]
set_option maxHeartbeats 1000000 in
set_option maxRecDepth 10000 in
theorem pCheck (l : List Vx) (p : Int) (hok : OkT l) (h : AHeap) (hg : TG h) : Pure Tryz.prog 12 [.agg (topE l p)] h (chkA (chkT p l)) := by
 have hclo : Clo (chkA (chkT p l)) := Clo.tuple (CloL.cons (Clo.int _ _) (CloL.cons (Clo.int _ _) CloL.nil))
 refine Pure.val hclo ?_
 have hc : (V.agg (topE l p)).cells = some [.imm l.length (l.flatMap encX), .int .i64 p] := rfl
 obtain ⟨H, hH⟩ : ∃ x, x = h.push (.cells [.imm l.length (l.flatMap encX), .int .i64 p] 45 none) := ⟨_, rfl⟩
 have gt : H.get h.n = .cells [.imm l.length (l.flatMap encX), .int .i64 p] 45 none := by rw [hH]; exact get_push_new
 have kH : Keep h H none_ := by rw [hH]; exact Keep.push _ _ _
 have nH : H.n = h.n + 1 := by rw [hH]; rfl
 refine SCalls.enterI (c := _) Tryz.func12 rfl (by kernel_rfl) (by simp) ?_
 by_cases h1 : p < 1
 ·have c1 : decide (p < 1) = true := by simpa using h1
  have hG : chkT p l = (-1, 2) := if_pos (.inl h1)
  simp only [wpA_region, wpA_seq, wpA_cond, wpA_ret, condI_true, seqQ_normal, seqQ_ret, endI_mk, goI_out, goI_ops, opsA_nil, opsA_cons, opsA_guardS, gvI_tf, slotAt_zero, slotAt_succ, stepA_move, stepA_assign, stepA_pick, stepA_box, stepA_load, stepA_binOp, stepA_fieldAddr, thenV_some, thenH_some, pickV_true, eval_tmp, eval_const, put_some, enterF_zero, enterF_succ, aBin_lss, absV_int, absV_bool, aField_eq, fieldGo_ptr, aLoad_eq, loadGo_one, aPlace_ptr, dropC_cells, aBox_eq, Int.reduceNeg, Nat.reduceEqDiff, Nat.reduceAdd, Nat.reduceLeDiff, Option.map_some, Nat.zero_add, List.length_cons, List.length_nil, List.drop_zero, List.drop_succ_cons, if_true, if_false, ft_45_1, lt_3, hc, ← hH, gt, c1, retA_ret, Tryz.results12, resultsA_2]
  exact hid_mk ⟨by rw [hG]; rfl, kH⟩
 have c1 : decide (p < 1) = false := by simpa using h1
 by_cases h2 : 8 < p
 ·have c2 : decide (8 < p) = true := by simpa using h2
  have hG : chkT p l = (-1, 2) := if_pos (.inr (.inl h2))
  simp only [wpA_region, wpA_seq, wpA_cond, wpA_ret, condI_true, seqQ_normal, seqQ_ret, endI_mk, goI_out, goI_ops, opsA_nil, opsA_cons, opsA_guardS, gvI_same, gvI_tf, slotAt_zero, slotAt_succ, stepA_move, stepA_assign, stepA_pick, stepA_box, stepA_load, stepA_binOp, stepA_fieldAddr, thenV_some, thenH_some, pickV_true, pickV_false, eval_tmp, eval_const, put_some, enterF_zero, enterF_succ, aBin_lss, aBin_gtr, absV_int, absV_bool, aField_eq, fieldGo_ptr, aLoad_eq, loadGo_one, aPlace_ptr, dropC_cells, aBox_eq, Int.reduceNeg, Nat.reduceEqDiff, Nat.reduceAdd, Nat.reduceLeDiff, Option.map_some, Nat.zero_add, List.length_cons, List.length_nil, List.drop_zero, List.drop_succ_cons, if_true, if_false, ft_45_1, lt_3, hc, ← hH, gt, c1, c2, retA_ret, Tryz.results12, resultsA_2]
  exact hid_mk ⟨by rw [hG]; rfl, kH⟩
 have c2 : decide (8 < p) = false := by simpa using h2
 by_cases h3 : l.length = 0
 ·have c3 : (((l.length : Nat) : Int) == 0) = true := by simp [h3]
  have hG : chkT p l = (-1, 2) := if_pos (.inr (.inr (.inl h3)))
  simp only [wpA_region, wpA_seq, wpA_cond, wpA_ret, condI_true, seqQ_normal, seqQ_ret, endI_mk, goI_out, goI_ops, opsA_nil, opsA_cons, opsA_guardS, gvI_same, gvI_tf, slotAt_zero, slotAt_succ, stepA_move, stepA_assign, stepA_pick, stepA_box, stepA_load, stepA_binOp, stepA_fieldAddr, stepA_len, thenV_some, thenH_some, pickV_true, pickV_false, eval_tmp, eval_const, put_some, enterF_zero, enterF_succ, aBin_eql, aBin_lss, aBin_gtr, absV_int, absV_bool, aField_eq, fieldGo_ptr, aLoad_eq, loadGo_one, aPlace_ptr, dropC_cells, aBox_eq, aLen_imm, Int.reduceNeg, Nat.reduceEqDiff, Nat.reduceAdd, Nat.reduceLeDiff, Option.map_some, Nat.add_zero, Nat.zero_add, Nat.zero_le, List.length_cons, List.length_nil, List.drop_zero, List.drop_succ_cons, if_true, if_false, ft_45_0, ft_45_1, kt_43, lt_3, lt_43, hc, ← hH, gt, c1, c2, c3, retA_ret, Tryz.results12, resultsA_2]
  exact hid_mk ⟨by rw [hG]; rfl, kH⟩
 have c3 : (((l.length : Nat) : Int) == 0) = false := by simp only [beq_eq_false_iff_ne, ne_eq]; omega
 by_cases h4 : 24 < l.length
 ·have c4 : decide ((24 : Int) < ((l.length : Nat) : Int)) = true := by simp only [decide_eq_true_eq]; omega
  have hG : chkT p l = (-1, 2) := if_pos (.inr (.inr (.inr h4)))
  simp only [wpA_region, wpA_seq, wpA_cond, wpA_ret, condI_true, seqQ_normal, seqQ_ret, endI_mk, goI_out, goI_ops, opsA_nil, opsA_cons, opsA_guardS, gvI_same, slotAt_zero, slotAt_succ, stepA_move, stepA_assign, stepA_pick, stepA_box, stepA_load, stepA_binOp, stepA_fieldAddr, stepA_len, thenV_some, thenH_some, pickV_false, eval_tmp, eval_const, put_some, enterF_zero, enterF_succ, aBin_eql, aBin_lss, aBin_gtr, absV_int, absV_bool, aField_eq, fieldGo_ptr, aLoad_eq, loadGo_one, aPlace_ptr, dropC_cells, aBox_eq, aLen_imm, Int.reduceNeg, Nat.reduceEqDiff, Nat.reduceAdd, Nat.reduceLeDiff, Option.map_some, Nat.add_zero, Nat.zero_add, Nat.zero_le, List.length_cons, List.length_nil, List.drop_zero, List.drop_succ_cons, if_true, if_false, ft_45_0, ft_45_1, kt_43, lt_3, lt_43, hc, ← hH, gt, c1, c2, c3, c4, retA_ret, Tryz.results12, resultsA_2]
  exact hid_mk ⟨by rw [hG]; rfl, kH⟩
 have c4 : decide ((24 : Int) < ((l.length : Nat) : Int)) = false := by simp only [decide_eq_false_iff_not]; omega
 have hG : chkT p l = chkF l 0 l := if_neg (by omega)
 obtain ⟨HM, hHM⟩ : ∃ x, x = H.push (.map [] 0) := ⟨_, rfl⟩
 have gtm : HM.get h.n = .cells [.imm l.length (l.flatMap encX), .int .i64 p] 45 none := by rw [hHM]; exact (get_push_lt (by omega)).trans gt
 have kM : Keep h HM none_ := by rw [hHM]; exact kH.then_push _
 have gm0 : HM.get H.n = .map (wT []) 0 := by rw [hHM]; exact get_push_new
 have nM : HM.n = H.n + 1 := by rw [hHM]; rfl
 simp only [wpA_skip, wpA_region, wpA_seq, wpA_cond, wpA_block, wpA_loop, condI_false, seqQ_normal, goI_out, goI_ops, opsA_nil, opsA_cons, opsA_guardS, gvI_same, slotAt_zero, slotAt_succ, stepA_move, stepA_assign, stepA_pick, stepA_box, stepA_load, stepA_binOp, stepA_makeMap, stepA_fieldAddr, stepA_len, thenV_some, thenH_some, pickV_false, eval_tmp, eval_const, put_some, enterF_zero, enterF_succ, aBin_eql, aBin_lss, aBin_gtr, absV_int, absV_bool, aField_eq, fieldGo_ptr, aLoad_eq, loadGo_one, aPlace_ptr, dropC_cells, aBox_eq, aLen_imm, makeMap_nil, Int.reduceNeg, Nat.reduceEqDiff, Nat.reduceAdd, Nat.reduceLeDiff, Option.map_some, Option.map_none, Nat.add_zero, Nat.zero_add, Nat.zero_le, List.length_cons, List.length_nil, List.drop_zero, List.drop_succ_cons, if_true, if_false, ft_45_0, ft_45_1, kt_43, lt_3, lt_43, hc, ← hH, gt, c1, c2, c3, c4, ← hHM, gtm]
 refine SWp.loopG (α := Nat × EntT × Nat) (fun x f h' => f 1 = .ptr h.n 0 ∧ f 4 = .map H.n ∧ f 30 = .int .i64 ((l.length : Nat) : Int) ∧ f 31 = .int .i64 (x.1 : Nat) ∧ x.1 ≤ l.length ∧ Keep h h' none_ ∧ H.n < h'.n ∧ h'.get h.n = .cells [.imm l.length (l.flatMap encX), .int .i64 p] 45 none ∧ h'.get H.n = .map (wT x.2.1) x.2.2 ∧ TK (l.take x.1) x.2.1 ∧ chkF l 0 l = chkF l x.1 (l.drop x.1)) (fun x => l.length - x.1) (0, [], 0) ⟨rfl, rfl, rfl, rfl, Nat.zero_le _, kM, by omega, gtm, gm0, TK.nil, rfl⟩ ?_
 rintro ⟨i, es, cl⟩ f h1 ⟨f1, f4, f30, f31, hi, k1, n1, g1, gm, hT, hE⟩
 simp only at f31 hi gm hT hE
 refine wpI_sound (by kernel_rfl) ?_
 by_cases hlt : i < l.length
 ·have c5 : decide ((i : Int) < ((l.length : Nat) : Int)) = true := by simp only [decide_eq_true_eq]; omega
  rw [List.drop_eq_getElem_cons hlt] at hE
  obtain ⟨ok1, ok2, _⟩ := hok.2 _ (List.getElem_mem hlt)
  have w2 : IntKind.i64.wrap (((i : Nat) : Int) + 1) = ((i + 1 : Nat) : Int) := by rw [Go.IntWalk.i64_in _ (by omega)]; omega
  simp only [wpA_skip, wpA_region, wpA_seq, wpA_cond, wpA_block, condI_true, seqQ_normal, goI_out, goI_ops, opsA_nil, opsA_cons, stepA_move, stepA_assign, stepA_load, stepA_binOp, stepA_fieldAddr, stepA_call, thenV_some, eval_tmp, put_some, aBin_lss, aField_eq, fieldGo_ptr, aLoad_eq, loadGo_one, aPlace_ptr, dropC_cells, Nat.reduceEqDiff, Nat.reduceAdd, List.map_cons, List.map_nil, Nat.add_zero, Nat.zero_add, Nat.zero_le, List.length_cons, List.length_nil, List.drop_zero, if_true, if_false, ft_45_0, lt_43, f1, f4, f30, f31, c5, g1]
  refine callI_of cal29 (pCheck1 l i H.n cl es hlt (by omega) _ rfl ok1 ok2 h1 (hg.keep k1) n1 gm hT) fun r h2 ⟨e1, k2, hfin⟩ => ?_
  subst e1
  have k3 : Keep h h2 none_ := k1.trans k2 fun k hk hkk => by omega
  have hn2 := k2.n
  have g2 := (k2.get h.n (by omega) (by omega)).trans g1
  replace hE : chkF l 0 l = if chkV l i l[i] = 0 then chkF l (i + 1) (l.drop (i + 1)) else ((i : Int), chkV l i l[i]) := hE
  by_cases h0 : chkV l i l[i] = 0
  ·have c6 : (chkV l i l[i] != 0) = false := by simp [h0]
   obtain ⟨es', cl', q1, q2⟩ := hfin h0
   rw [if_pos h0] at hE
   simp only [wpA_skip, wpA_region, wpA_seq, wpA_cond, condI_false, seqQ_normal, blkQ_normal, endI_mk, andThen_normal, goI_out, goI_ops, opsA_nil, opsA_cons, stepA_move, stepA_assign, stepA_binOp, thenV_some, eval_tmp, eval_const, put_some, aBin_add, aBin_neq, absV_int, Int.reduceNeg, Nat.reduceEqDiff, if_true, if_false, f31, c6, w2]
   exact hid_mk ⟨(i + 1, es', cl'), ⟨f1, f4, f30, rfl, by simp only; omega, k3, by omega, g2, q1, q2, hE⟩, by simp only; omega⟩
  ·have c6 : (chkV l i l[i] != 0) = true := by simp [h0]
   rw [if_neg h0] at hE
   simp only [wpA_region, wpA_seq, wpA_cond, wpA_ret, condI_true, seqQ_normal, seqQ_ret, blkQ_ret, endI_mk, goE, andThen_ret, goI_out, goI_ops, opsA_nil, opsA_cons, stepA_move, stepA_assign, stepA_binOp, thenV_some, eval_tmp, eval_const, put_some, aBin_neq, absV_int, Int.reduceNeg, Nat.reduceEqDiff, if_true, if_false, c6, retA_ret, Tryz.results12, resultsA_2]
   exact hid_mk ⟨by rw [hG, hE]; rfl, k3⟩
 ·have c5 : decide ((i : Int) < ((l.length : Nat) : Int)) = false := by simp only [decide_eq_false_iff_not]; omega
  rw [List.drop_of_length_le (by omega)] at hE
  simp only [wpA_region, wpA_seq, wpA_cond, wpA_exit, wpA_ret, condI_false, seqQ_normal, seqQ_exit, blkQ_exit, endI_mk, goE, andThen_exit, goI_out, goI_ops, opsA_nil, opsA_cons, stepA_assign, stepA_binOp, thenV_some, eval_tmp, eval_const, put_some, aBin_lss, absV_int, Int.reduceNeg, Nat.reduceEqDiff, if_true, if_false, f30, f31, c5, retA_ret, Tryz.results12, resultsA_2]
  exact hid_mk ⟨by rw [hG, hE]; rfl, k1⟩
end Go.Proofs.YtfcjehlhoebmnaaGreatDoor.Pk
namespace Go.Proofs.YtfcjehlhoebmnaaGreatDoor.Pk
open Go Go.Proofs Go.Proofs.YtfcjehlhoebmnaaGreatDoor.Ab
set_option linter.unusedVariables false
set_option linter.unusedSimpArgs false
theorem okE0 (o n : Int) (ho : -2 ^ 63 ≤ o ∧ o < 2 ^ 63) (hn : -2 ^ 63 ≤ n ∧ n < 2 ^ 63) : OkE (.mk o n []) := .mk o n [] (by simp) (by simp) ho hn
end Go.Proofs.YtfcjehlhoebmnaaGreatDoor.Pk
namespace Go.Proofs.YtfcjehlhoebmnaaGreatDoor.Pk
open Go Go.Proofs Go.Proofs.YtfcjehlhoebmnaaGreatDoor.Ab
set_option linter.unusedVariables false
set_option linter.unusedSimpArgs false
theorem chkV_zero {l : List Vx} {i : Nat} {v : Vx} (h : chkV l i v = 0) : (1 ≤ v.kind ∧ v.kind ≤ 10) ∧ (∀ f ∈ v.frm, 0 ≤ f ∧ f < i) ∧ hasX v = true ∧ takenX l i v = false ∧ (∀ f ∈ v.frm, kindAt l f ≠ 10) := by
 unfold chkV at h
 split at h
 ·cases h
 rename_i h1
 split at h
 ·cases h
 rename_i h2
 split at h
 ·cases h
 rename_i h3
 split at h
 ·cases h
 rename_i h4
 split at h
 ·cases h
 rename_i h5
 refine ⟨by omega, fun f hf => ?_, by simpa using h3, by simpa using h4, fun f hf hk => ?_⟩
 ·have h2' : (v.frm.any fun f => decide (f < 0 ∨ (i : Int) ≤ f)) = false := by simpa using h2
  rw [List.any_eq_false] at h2'
  have := h2' f hf
  simp only [decide_eq_true_eq] at this
  omega
 ·exact h5 (List.any_eq_true.2 ⟨f, hf, by simp [hk]⟩)
theorem chk_ok {p : Int} {l : List Vx} (h : (chkT p l).2 = 0) : chkT p l = (-1, 0) ∧ (1 ≤ p ∧ p ≤ 8) ∧ 1 ≤ l.length ∧ l.length ≤ 24 ∧ chkF l 0 l = (-1, 0) ∧ ∀ k v, l[k]? = some v → chkV l k v = 0 := by
 unfold chkT at h ⊢
 split at h
 ·cases h
 rename_i hn
 rw [if_neg hn]
 obtain ⟨a, b⟩ := chkF_ok h
 exact ⟨a, by omega, by omega, by omega, a, fun k v hk => by simpa using b k v hk⟩
end Go.Proofs.YtfcjehlhoebmnaaGreatDoor.Pk
namespace Go.Proofs.YtfcjehlhoebmnaaGreatDoor.Pk
open Go Go.Proofs Go.Proofs.YtfcjehlhoebmnaaGreatDoor.Ab
set_option linter.unusedVariables false
set_option linter.unusedSimpArgs false
def encV (v : Vx) : List Nat := enc v.kind.toNat ++ encInts v.frm ++ enc (zz v.n) ++ encBytes (bytX v.e)
def encT (p : Int) (l : List Vx) : List Nat := enc p.toNat ++ enc l.length ++ l.flatMap encV
def bytT (p : Int) (l : List Vx) : List Nat := if (chkT p l).2 = 0 then encT p l else []
theorem from_le : ∀ k, k < 11 → (needsR.getD k (0, 0, 0, 0)).1 ≤ 2 := by decide
theorem chk_all {p : Int} {l : List Vx} (h : (chkT p l).2 = 0) : (1 ≤ p ∧ p ≤ 8) ∧ 1 ≤ l.length ∧ l.length ≤ 24 ∧ ∀ v ∈ l, (1 ≤ v.kind ∧ v.kind ≤ 10) ∧ v.frm.length ≤ 2 ∧ (∀ f ∈ v.frm, 0 ≤ f ∧ f < 24) ∧ hasX v = true := by
 unfold chkT at h
 split at h
 ·cases h
 rename_i hb
 refine ⟨by omega, by omega, by omega, fun v hv => ?_⟩
 obtain ⟨i, hi, rfl⟩ := List.getElem_of_mem hv
 have h0 := (chkF_ok h).2 i l[i] (List.getElem?_eq_getElem hi)
 rw [Nat.zero_add] at h0
 obtain ⟨k1, k2, k3, _, _⟩ := chkV_zero h0
 refine ⟨k1, ?_, fun f hf => by have := k2 f hf; omega, k3⟩
 have := k3
 unfold hasX meetsX at this
 simp only [Bool.and_eq_true, decide_eq_true_eq] at this
 have h2 := from_le l[i].kind.toNat (by omega)
 omega
theorem bytX_len {e : Ex} (hok : OkE e) : (bytX e).length ≤ 1280 := by
 unfold bytX
 split
 ·rename_i hm
  have h1 := encB_len (szE e) e rfl hok
  have h2 := mayX_sz hm
  omega
 ·simp
theorem encInts_len {l : List Int} (h : ∀ n ∈ l, -2 ^ 63 ≤ n ∧ n < 2 ^ 63) (hl : l.length ≤ 2) : (encInts l).length ≤ 30 := by
 unfold encInts
 rw [List.length_append]
 have h1 := enc_flat h
 have h2 := (enc_le l.length (by omega)).2
 omega
theorem encV_len {v : Vx} (hok : OkX v) (hk : 1 ≤ v.kind ∧ v.kind ≤ 10) (hl : v.frm.length ≤ 2) : (encV v).length ≤ 1400 := by
 unfold encV encBytes
 simp only [List.length_append]
 have h1 := encInts_len hok.2.2.2.2 hl
 have h2 := (enc_le v.kind.toNat (by omega)).2
 have h3 := (enc_le (zz v.n) (zz_lt _ hok.2.2.2.1.1 hok.2.2.2.1.2)).2
 have h4 := bytX_len hok.1
 have h5 := (enc_le (bytX v.e).length (by omega)).2
 omega
theorem encVs_len {l : List Vx} (h : ∀ v ∈ l, (encV v).length ≤ 1400) : (l.flatMap encV).length ≤ 1400 * l.length := by
 induction l with
 | nil => simp
 | cons v l ih =>
  have h1 := h v (by simp)
  have h2 := ih fun u hu => h u (by simp [hu])
  simp only [List.flatMap_cons, List.length_append, List.length_cons]
  omega
def bytTV (p : Int) (l : List Vx) : V := .tuple [.imm (bytT p l).length (bytesV (bytT p l)), .int .i64 (chkT p l).2]
theorem bytTV_clo (p : Int) (l : List Vx) : Clo (bytTV p l) := Clo.tuple (CloL.cons (Clo.imm (bytesV_clo _)) (CloL.cons (Clo.int _ _) CloL.nil))
set_option maxHeartbeats 1000000 in
set_option maxRecDepth 10000 in
theorem pTBytes (l : List Vx) (p : Int) (hok : OkT l) (h : AHeap) (hg : TG h) : Pure Tryz.prog 35 [.agg (topE l p)] h (bytTV p l) := by
 refine Pure.of (bytTV_clo p l) ?_
 have hc : (V.agg (topE l p)).cells = some [.imm l.length (l.flatMap encX), .int .i64 p] := rfl
 obtain ⟨H, hH⟩ : ∃ x, x = h.push (.cells [.imm l.length (l.flatMap encX), .int .i64 p] 45 none) := ⟨_, rfl⟩
 have gt : H.get h.n = .cells [.imm l.length (l.flatMap encX), .int .i64 p] 45 none := by rw [hH]; exact get_push_new
 have kH : Keep h H none_ := by rw [hH]; exact Keep.push _ _ _
 have nH : h.n < H.n := by rw [hH]; exact Nat.lt_succ_self _
 refine SCalls.enterI (c := _) Tryz.func35 rfl (by kernel_rfl) (by simp) ?_
 simp only [wpA_region, wpA_seq, seqQ_normal, goI_out, goI_ops, opsA_nil, opsA_cons, stepA_assign, stepA_box, stepA_load, stepA_call, thenV_some, thenH_some, eval_tmp, eval_const, put_some, enterF_zero, enterF_succ, absV_int, absV_snil, aLoad_eq, loadGo_row, aPlace_ptr, dropC_cells, aBox_eq, Nat.reduceEqDiff, Nat.reduceAdd, List.map_cons, List.map_nil, Option.map_some, Nat.zero_add, Nat.zero_le, List.length_cons, List.length_nil, List.drop_zero, List.take_succ_cons, List.take_nil, if_true, if_false, Nat.le_refl, lt_45, hc, ← hH, gt]
 refine callI_pure cal12 (pCheck l p hok H (hg.keep kH)) ?_
 by_cases h0 : (chkT p l).2 = 0
 rotate_left
 ·have c1 : ((chkT p l).2 != 0) = true := by simpa using h0
  have hV : bytTV p l = .tuple [.imm 0 [], .int .i64 (chkT p l).2] := by unfold bytTV bytT; rw [if_neg h0]; rfl
  rw [hV]
  simp only [wpA_region, wpA_seq, wpA_cond, wpA_ret, condI_true, seqQ_normal, seqQ_ret, endI_mk, goI_out, goI_ops, opsA_nil, opsA_cons, stepA_move, stepA_assign, stepA_binOp, stepA_extract, thenV_some, extV_zero, extV_succ, eval_tmp, eval_const, put_some, enterF_succ, aBin_neq, absV_int, absV_snil, Nat.reduceEqDiff, if_true, if_false, chkA, c1, retA_ret, Tryz.results35, resultsA_2]
  exact hid_mk ⟨_, Cast.tuple (CastL.cons (Cast.snil0 _) (CastL.refl _ _)), kH⟩
 ·have c1 : ((chkT p l).2 != 0) = false := by simpa using h0
  obtain ⟨hp, hl1, hl2, hall⟩ := chk_all h0
  obtain ⟨P, rfl⟩ := Int.eq_ofNat_of_zero_le (show 0 ≤ p by omega)
  have hV : bytTV P l = .tuple [.imm (encT P l).length (bytesV (encT P l)), .int .i64 0] := by unfold bytTV bytT; rw [if_pos h0, h0]
  have u1 := wrap_natU (n := P) (by omega)
  have u2 := wrap_natU (n := l.length) (by omega)
  simp only [wpA_skip, wpA_region, wpA_seq, wpA_cond, condI_false, seqQ_normal, goI_out, goI_ops, opsA_nil, opsA_cons, stepA_move, stepA_assign, stepA_load, stepA_binOp, stepA_convert, stepA_fieldAddr, stepA_extract, stepA_call, thenV_some, thenC_some, extV_zero, extV_succ, eval_tmp, eval_const, put_some, enterF_succ, aBin_neq, absV_int, absV_snil, aField_eq, fieldGo_ptr, aLoad_eq, loadGo_one, aPlace_ptr, dropC_cells, Nat.reduceEqDiff, Nat.reduceAdd, Nat.reduceLeDiff, List.map_cons, List.map_nil, Nat.zero_add, List.length_cons, List.length_nil, List.drop_zero, List.drop_succ_cons, if_true, if_false, ft_45_1, lt_3, chkA, c1, gt, aConv_int it_3 it_108, u1]
  refine callI_pure cal62 (pUint .snil [] P H (Rd.snil _) (by simp) (by omega)) ?_
  simp only [wpA_region, wpA_seq, seqQ_normal, goI_out, goI_ops, opsA_nil, opsA_cons, stepA_move, stepA_assign, stepA_load, stepA_convert, stepA_fieldAddr, stepA_len, stepA_call, thenV_some, thenC_some, eval_tmp, put_some, enterF_succ, aField_eq, fieldGo_ptr, aLoad_eq, loadGo_one, aPlace_ptr, dropC_cells, aLen_imm, Nat.reduceEqDiff, Nat.reduceAdd, List.map_cons, List.map_nil, Nat.add_zero, Nat.zero_add, Nat.zero_le, List.length_cons, List.length_nil, List.drop_zero, List.nil_append, if_true, if_false, ft_45_0, kt_43, lt_43, gt, aConv_int it_3 it_108, u2, List.nil_append]
  have e1 := (enc_le P (by omega)).2
  have e2 := (enc_le l.length (by omega)).2
  refine callI_pure cal62 (pUint _ _ l.length H (Rd.imm _ _) (by omega) (by omega)) ?_
  simp only [wpA_region, wpA_seq, wpA_block, wpA_loop, seqQ_normal, goI_out, goI_ops, opsA_nil, opsA_cons, stepA_move, stepA_assign, stepA_load, stepA_fieldAddr, stepA_len, thenV_some, eval_tmp, eval_const, put_some, enterF_succ, absV_int, aField_eq, fieldGo_ptr, aLoad_eq, loadGo_one, aPlace_ptr, dropC_cells, aLen_imm, Nat.reduceEqDiff, Nat.reduceAdd, Nat.add_zero, Nat.zero_add, Nat.zero_le, List.length_cons, List.length_nil, List.drop_zero, if_true, if_false, ft_45_0, kt_43, lt_43, gt]
  have hlen : ∀ v ∈ l, (encV v).length ≤ 1400 := fun v hv => encV_len (hok.2 v hv) (hall v hv).1 (hall v hv).2.1
  refine SWp.loopG (α := Nat) (fun i f h' => f 1 = .ptr h.n 0 ∧ f 6 = .imm (enc P ++ enc l.length ++ (l.take i).flatMap encV).length (bytesV (enc P ++ enc l.length ++ (l.take i).flatMap encV)) ∧ f 30 = .imm l.length (l.flatMap encX) ∧ f 31 = .int .i64 ((l.length : Nat) : Int) ∧ f 32 = .int .i64 (i : Nat) ∧ i ≤ l.length ∧ Keep h h' none_) (fun i => l.length - i) 0
   ⟨rfl, by simp only [List.take_zero, List.flatMap_nil, List.append_nil]; rfl, rfl, rfl, rfl, Nat.zero_le _, kH⟩ ?_
  rintro i f h1 ⟨f1, f6, f30, f31, f32, hi, k1⟩
  refine wpI_sound (by kernel_rfl) ?_
  by_cases hlt : i < l.length
  ·have c5 : decide ((i : Int) < ((l.length : Nat) : Int)) = true := by simp only [decide_eq_true_eq]; omega
   have okA := hok.2 _ (List.getElem_mem hlt)
   obtain ⟨kA, lA, fA, _⟩ := hall _ (List.getElem_mem hlt)
   have x0 := rows_ix (kk := .i64) (P := Tryz.prog) encX_len hlt ss_43
   have hsn : (l.take (i + 1)).flatMap encV = (l.take i).flatMap encV ++ encV l[i] := flat_take l encV hlt
   have hcl : ((l.take i).flatMap encV).length ≤ 1400 * 24 := by
    have := encVs_len (l := l.take i) fun v hv => hlen v (List.mem_of_mem_take hv)
    rw [List.length_take] at this
    have : (l.take i).length ≤ 24 := by rw [List.length_take]; omega
    omega
   generalize l[i] = A at *
   have hX := encX_eq A
   have lr : ∀ (q : List V), loadGo (some (some 6)) (some (encX A ++ q)) = some (.agg (encX A)) := fun q => load_row (encX_len A)
   have hone : (V.agg (encX A)).cells = some (encX A) := rfl
   have hset : setC (some 6) (AObj.cells [.int .i64 0, .snil, .int .i64 0, .int .i64 0, .snil, .int .i64 0] 90 none) 0 (encX A) = some (.cells (encX A) 90 none) := by
    rw [setC_row (n := 6) (encX_len A) (encX_one A), if_pos (by decide), hX]; rfl
   have hd0 : dropC (AObj.cells (encX A) 90 none) 0 = some [.int .i64 A.kind, .imm A.frm.length (i64V A.frm), .int .i64 A.e.op, .int .i64 A.e.num, .imm A.e.ks.length (A.e.ks.flatMap encE), .int .i64 A.n] := by rw [hX]; rfl
   have hd1 : dropC (AObj.cells (encX A) 90 none) 1 = some [.imm A.frm.length (i64V A.frm), .int .i64 A.e.op, .int .i64 A.e.num, .imm A.e.ks.length (A.e.ks.flatMap encE), .int .i64 A.n] := by rw [hX]; rfl
   have hd2 : dropC (AObj.cells (encX A) 90 none) 2 = some (encE A.e ++ [.int .i64 A.n]) := by obtain ⟨k, fr, ⟨o, m, ks⟩, n⟩ := A; rw [hX, encE_eq]; rfl
   have hd5 : dropC (AObj.cells (encX A) 90 none) 5 = some [.int .i64 A.n] := by rw [hX]; rfl
   have w2 : IntKind.i64.wrap (((i : Nat) : Int) + 1) = ((i + 1 : Nat) : Int) := by rw [Go.IntWalk.i64_in _ (by omega)]; omega
   have uk : IntKind.u64.wrap A.kind = ((A.kind.toNat : Nat) : Int) := by rw [IntKind.wrap_u64]; omega
   have lrE := ex_lr A.e
   obtain ⟨cs, hcs⟩ : ∃ y, y = enc P ++ enc l.length ++ (l.take i).flatMap encV := ⟨_, rfl⟩
   have hcs2 : enc P ++ enc l.length ++ (l.take (i + 1)).flatMap encV = (((cs ++ enc A.kind.toNat) ++ encInts A.frm) ++ enc (zz A.n)) ++ encBytes (bytX A.e) := by rw [hsn, hcs, encV]; simp only [List.append_assoc]
   have hcn : cs.length ≤ 40000 := by rw [hcs]; simp only [List.length_append]; omega
   rw [← hcs] at f6
   have g1 := (enc_le A.kind.toNat (by omega)).2
   have g2 := encInts_len okA.2.2.2.2 lA
   have g3 := (enc_le (zz A.n) (zz_lt _ okA.2.2.2.1.1 okA.2.2.2.1.2)).2
   have g4 := bytX_len okA.1
   have hgH : TG (h1.push (.cells (encX A) 90 none)) := hg.keep (k1.trans' (Keep.push _ _ _))
   simp only [wpA_skip, wpA_region, wpA_seq, wpA_cond, wpA_block, condI_true, seqQ_normal, goI_out, goI_ops, opsA_nil, opsA_cons, stepA_move, stepA_alloc, stepA_load, stepA_store, stepA_binOp, stepA_convert, stepA_fieldAddr, stepA_indexAddr, stepA_call, thenV_some, thenC_some, thenH_some, thenS_some, eval_tmp, put_some, put_none, aBin_lss, aField_eq, fieldGo_ptr, aLoad_eq, loadGo_one, aPlace_ptr, aPlace_at, aStore_eq, storeGo_ptr, aAlloc_eq, get_push_new, set_push, Nat.reduceEqDiff, List.map_cons, List.map_nil, Option.map_some, Nat.add_zero, if_true, if_false, ft_90_0, lt_3, lt_90, zc_90, zt_90, f6, f30, f31, f32, c5, x0, lr, hone, hset, hd0, aConv_int it_3 it_108, uk]
   refine callI_pure cal62 (pUint _ _ A.kind.toNat _ (Rd.imm _ _) (by omega) (by omega)) ?_
   simp only [wpA_region, wpA_seq, seqQ_normal, goI_out, goI_ops, opsA_nil, opsA_cons, stepA_move, stepA_assign, stepA_load, stepA_fieldAddr, stepA_call, thenV_some, eval_tmp, put_some, put_none, aField_eq, fieldGo_ptr, aLoad_eq, loadGo_one, aPlace_ptr, get_push_new, Nat.reduceEqDiff, List.map_cons, List.map_nil, Nat.zero_add, if_true, if_false, ft_90_1, lt_66, hd1]
   refine callI_pure cal63 (pInts _ _ A.frm _ (Rd.imm _ _) okA.2.2.2.2 (by rw [List.length_append]; omega)) ?_
   simp only [wpA_region, wpA_seq, seqQ_normal, goI_out, goI_ops, opsA_nil, opsA_cons, stepA_move, stepA_assign, stepA_load, stepA_fieldAddr, stepA_call, thenV_some, eval_tmp, put_some, put_none, aField_eq, fieldGo_ptr, aLoad_eq, loadGo_one, aPlace_ptr, get_push_new, Nat.reduceEqDiff, List.map_cons, List.map_nil, Nat.zero_add, if_true, if_false, ft_90_3, lt_2, hd5]
   refine callI_pure cal64 (pInt _ _ A.n _ (Rd.imm _ _) (by simp only [List.length_append]; omega) okA.2.2.2.1.1 okA.2.2.2.1.2) ?_
   simp only [wpA_region, wpA_seq, seqQ_normal, goI_out, goI_ops, opsA_nil, opsA_cons, stepA_assign, stepA_load, stepA_fieldAddr, stepA_call, thenV_some, eval_tmp, put_some, put_none, aField_eq, fieldGo_ptr, aLoad_eq, aPlace_ptr, get_push_new, Nat.reduceEqDiff, List.map_cons, List.map_nil, Nat.zero_add, if_true, if_false, ft_90_2, lt_88, hd2, lrE]
   refine callI_pure cal65 (pBytesX A.e okA.1 _ hgH.1) ?_
   simp only [wpA_region, seqQ_normal, goI_out, goI_ops, opsA_nil, opsA_cons, stepA_move, stepA_assign, stepA_extract, stepA_call, thenV_some, extV_zero, extV_succ, eval_tmp, put_some, put_none, Nat.reduceEqDiff, List.map_cons, List.map_nil, if_true, if_false, bytV]
   refine callI_pure cal66 (pBytes _ _ _ (bytX A.e) _ (Rd.imm _ _) (Rd.imm _ _) (by simp only [List.length_append]; omega)) ?_
   simp only [wpA_region, seqQ_normal, blkQ_normal, endI_mk, andThen_normal, goI_out, goI_ops, opsA_nil, opsA_cons, stepA_move, stepA_assign, stepA_binOp, thenV_some, eval_tmp, eval_const, put_some, put_none, aBin_add, absV_int, Nat.reduceEqDiff, if_true, if_false, f32, w2]
   exact hid_mk ⟨i + 1, ⟨f1, by rw [hcs2]; rfl, f30, f31, rfl, by omega, k1.trans' (Keep.push _ _ _)⟩, by omega⟩
  ·have c5 : decide ((i : Int) < ((l.length : Nat) : Int)) = false := by simp only [decide_eq_false_iff_not]; omega
   rw [List.take_of_length_le (by omega)] at f6
   rw [hV]
   simp only [wpA_region, wpA_seq, wpA_cond, wpA_exit, wpA_ret, condI_false, seqQ_normal, seqQ_exit, blkQ_exit, endI_mk, goE, andThen_exit, goI_out, goI_ops, opsA_nil, opsA_cons, stepA_move, stepA_assign, stepA_binOp, thenV_some, eval_tmp, eval_const, put_some, aBin_lss, absV_int, Nat.reduceEqDiff, if_true, if_false, f6, f31, f32, c5, retA_ret, Tryz.results35, resultsA_2]
   exact hid_mk ⟨_, Cast.refl _ _, k1⟩
end Go.Proofs.YtfcjehlhoebmnaaGreatDoor.Pk
namespace Go.Proofs.YtfcjehlhoebmnaaGreatDoor.Pk
open Go Go.Proofs Go.Proofs.YtfcjehlhoebmnaaGreatDoor.Ab
set_option linter.unusedVariables false
set_option linter.unusedSimpArgs false
set_option maxRecDepth 10000 in
theorem pNum (i : Nat) (bs : List Nat) (h : AHeap) (hr : IsRd h (.ptr i 0) i bs) (hb : ∀ b ∈ bs, b < 256) (hc : bs.length ≤ 2 ^ 47) :
  SCalls Tryz.prog 57 [.ptr i 0] h (fun r h' => r = .tuple [.int .i64 ((min (dec bs 0 0).1 1000 : Nat) : Int), .int .i64 ((dec bs 0 0).2.2 : Nat)] ∧ IsRd h' (.ptr i 0) i (bs.drop (dec bs 0 0).2.1) ∧ Keep h h' (· = i)) := by
 refine SCalls.enterI (c := _) Tryz.func57 rfl (by kernel_rfl) (by simp) ?_
 simp only [wpA_region, wpA_seq, seqQ_normal, goI_out, goI_ops, opsA_nil, opsA_cons, stepA_move, stepA_assign, stepA_call, eval_tmp, eval_const, put_some, enterF_zero, enterF_succ, absV_int, Nat.reduceEqDiff, reduceCtorEq, List.map_cons, List.map_nil, if_true, if_false]
 refine callI_of cal80 (RUint _ i bs h hr hb hc) fun r h1 ⟨e1, r1, k1⟩ => ?_
 subst e1
 have u1 : IntKind.i64.wrap (min ((dec bs 0 0).1 : Int) 1000) = ((min (dec bs 0 0).1 1000 : Nat) : Int) := by rw [Go.IntWalk.i64_in _ (by omega)]; omega
 simp only [wpA_region, wpA_seq, wpA_ret, seqQ_normal, endI_mk, goI_out, goI_ops, opsA_nil, opsA_cons, stepA_move, stepA_assign, stepA_convert, stepA_extract, stepA_min, thenV_some, thenC_some, extV_zero, extV_succ, eval_tmp, eval_const, put_some, enterF_succ, mmV_min, absV_int, Nat.reduceEqDiff, if_true, if_false, aConv_int it_108 it_3, u1, retA_ret, Tryz.results57, resultsA_2]
 exact hid_mk ⟨rfl, r1, k1⟩
def rdV3 (k : Nat) (fr : List Int) (n : Int) (bs : List Nat) : Except Nat (Vx × List Nat) :=
 if (getBytes bs).2.2 ≠ 0 then .error (getBytes bs).2.2
 else if (getBytes bs).1.length = 0 then .ok (⟨(k : Int), fr, .mk 0 0 [], n⟩, (getBytes bs).2.1)
 else if ofC (getBytes bs).1 ≠ 0 then .error (ofC (getBytes bs).1)
 else .ok (⟨(k : Int), fr, ofE (getBytes bs).1, n⟩, (getBytes bs).2.1)
def rdV2 (k : Nat) (fr : List Int) (bs : List Nat) : Except Nat (Vx × List Nat) :=
 if (dec bs 0 0).2.2 ≠ 0 then .error (dec bs 0 0).2.2 else rdV3 k fr (unz (dec bs 0 0).1) (bs.drop (dec bs 0 0).2.1)
def rdV1 (k : Nat) (bs : List Nat) : Except Nat (Vx × List Nat) :=
 if (getInts bs 2).2.2 ≠ 0 then .error (getInts bs 2).2.2 else rdV2 k (getInts bs 2).1 (getInts bs 2).2.1
def rdV (bs : List Nat) : Except Nat (Vx × List Nat) :=
 if (dec bs 0 0).2.2 ≠ 0 then .error (dec bs 0 0).2.2 else rdV1 (min (dec bs 0 0).1 1000) (bs.drop (dec bs 0 0).2.1)
def zeroX : Vx := ⟨0, [], .mk 0 0 [], 0⟩
def vV : Except Nat (Vx × List Nat) → V
 | .error c => .tuple [.agg (encX zeroX), .int .i64 (c : Nat)]
 | .ok (v, _) => .tuple [.agg (encX v), .int .i64 0]
def Sub (a b : List Nat) : Prop := (∀ x ∈ a, x ∈ b) ∧ a.length ≤ b.length
theorem Sub.rfl' (a : List Nat) : Sub a a := ⟨fun _ h => h, Nat.le_refl _⟩
theorem Sub.nil (a : List Nat) : Sub [] a := ⟨fun _ h => (by cases h), Nat.zero_le _⟩
theorem Sub.trans {a b c : List Nat} (x : Sub a b) (y : Sub b c) : Sub a c := ⟨fun q h => y.1 q (x.1 q h), Nat.le_trans x.2 y.2⟩
theorem Sub.drop (a : List Nat) (k : Nat) : Sub (a.drop k) a := ⟨fun _ h => List.mem_of_mem_drop h, by rw [List.length_drop]; omega⟩
theorem Sub.take (a : List Nat) (k : Nat) : Sub (a.take k) a := ⟨fun _ h => List.mem_of_mem_take h, by rw [List.length_take]; omega⟩
theorem Sub.lt {a b : List Nat} (x : Sub a b) (h : ∀ q ∈ b, q < 256) : ∀ q ∈ a, q < 256 := fun q hq => h q (x.1 q hq)
theorem goInts_sub : ∀ (m : Nat) (r : List Nat) (acc : List Int), Sub (goInts m r acc).2.1 r
 | 0, r, acc => Sub.rfl' r
 | m + 1, r, acc => by
  unfold goInts
  split
  ·exact Sub.nil _
  ·split
   ·exact Sub.nil _
   ·exact (goInts_sub m _ _).trans (Sub.drop _ _)
theorem getInts_sub (bs : List Nat) (m : Int) : Sub (getInts bs m).2.1 bs := by
 unfold getInts
 split
 ·exact Sub.rfl' _
 ·split
  ·exact Sub.rfl' _
  ·split
   ·exact Sub.rfl' _
   ·exact (goInts_sub _ _ _).trans (Sub.drop _ _)
theorem getBytes_sub (bs : List Nat) : Sub (getBytes bs).2.1 bs ∧ Sub (getBytes bs).1 bs := by
 unfold getBytes
 split
 ·exact ⟨Sub.rfl' _, Sub.nil _⟩
 ·split
  ·exact ⟨Sub.rfl' _, Sub.nil _⟩
  ·exact ⟨(Sub.drop _ _).trans (Sub.drop _ _), (Sub.take _ _).trans (Sub.drop _ _)⟩
theorem zeroC47 (h : AHeap) (c : Nat) : Cast (.tuple [.agg [.int .i64 0, .snil, .int .i64 0, .int .i64 0, .snil, .int .i64 0], .int .i64 (c : Nat)]) h (.tuple [.agg (encX zeroX), .int .i64 (c : Nat)]) h := by
 refine Cast.tuple (CastL.cons ?_ (CastL.refl _ _))
 rw [encX_eq]
 exact Pk.Cast.agg (CastL.skip (CastL.cons (Cast.nil0 h) (CastL.skip (CastL.skip (CastL.cons (Cast.nil0 h) (CastL.refl _ _))))))
theorem zeroE47 (h : AHeap) (k : Nat) (fr : List Int) (n : Int) : Cast (.tuple [.agg [.int .i64 (k : Int), .imm fr.length (i64V fr), .int .i64 0, .int .i64 0, .snil, .int .i64 n], .int .i64 0]) h (.tuple [.agg (encX ⟨(k : Int), fr, .mk 0 0 [], n⟩), .int .i64 0]) h := by
 refine Cast.tuple (CastL.cons ?_ (CastL.refl _ _))
 rw [encX_eq]
 exact Pk.Cast.agg (CastL.skip (CastL.skip (CastL.skip (CastL.skip (CastL.cons (Cast.nil0 h) (CastL.refl _ _))))))
set_option maxHeartbeats 2000000 in
set_option maxRecDepth 10000 in
theorem pReadV (i : Nat) (bs : List Nat) (h : AHeap) (hg : KG h) (hr : IsRd h (.ptr i 0) i bs) (hb : ∀ b ∈ bs, b < 256) (hc : bs.length ≤ 2 ^ 47) :
  SCalls Tryz.prog 58 [.ptr i 0] h (fun r h' => r = vV (rdV bs) ∧ Keep h h' (· = i) ∧ ∀ v b', rdV bs = .ok (v, b') → IsRd h' (.ptr i 0) i b') := by
 refine SCalls.cast ?_
 refine SCalls.enterI (c := _) Tryz.func58 rfl (by kernel_rfl) (by simp) ?_
 have hin := hr.2.1
 obtain ⟨H0, hH0⟩ : ∃ y, y = h.push (.cells [V.int .i64 0, .snil, .int .i64 0, .int .i64 0, .snil, .int .i64 0] 90 none) := ⟨_, rfl⟩
 have k0 : Keep h H0 (· = i) := by rw [hH0]; exact Keep.push _ _ _
 have k00 : Keep h H0 none_ := by rw [hH0]; exact Keep.push _ _ _
 have g0 : H0.get h.n = .cells [V.int .i64 0, .snil, .int .i64 0, .int .i64 0, .snil, .int .i64 0] 90 none := by rw [hH0]; exact get_push_new
 have n0 : H0.n = h.n + 1 := by rw [hH0]; rfl
 have r0 := IsRd.keep hr k00 (by simp [none_])
 have stz : setC (some 6) (AObj.cells [V.int .i64 0, .snil, .int .i64 0, .int .i64 0, .snil, .int .i64 0] 90 none) 0 [V.int .i64 0, .snil, .int .i64 0, .int .i64 0, .snil, .int .i64 0] = some (.cells [V.int .i64 0, .snil, .int .i64 0, .int .i64 0, .snil, .int .i64 0] 90 none) := rfl
 have z0 : (((0 : Nat) : Int) != 0) = false := rfl
 simp only [wpA_region, wpA_seq, seqQ_normal, goI_out, goI_ops, opsA_nil, opsA_cons, stepA_move, stepA_assign, stepA_alloc, stepA_call, thenH_some, eval_tmp, eval_const, put_some, enterF_zero, enterF_succ, absV_int, aAlloc_eq, Nat.reduceEqDiff, reduceCtorEq, List.map_cons, List.map_nil, Option.map_some, if_true, if_false, zc_90]
 rw [← hH0]
 clear hH0
 refine callI_of cal57 (pNum i bs H0 r0 hb (by omega)) fun r H1 ⟨e1, r1, k1⟩ => ?_
 subst e1
 have s1 : Sub (bs.drop (dec bs 0 0).2.1) bs := Sub.drop _ _
 have g1 := (k1.get h.n (by omega) (by omega)).trans g0
 have kk1 := k0.trans' k1
 have n1 := k1.n
 by_cases e1 : (dec bs 0 0).2.2 = 0
 rotate_left
 ·have c1 : (((dec bs 0 0).2.2 : Int) != 0) = true := by simp; omega
  have hV : rdV bs = .error (dec bs 0 0).2.2 := by unfold rdV; rw [if_pos e1]
  simp only [wpA_region, wpA_seq, wpA_cond, wpA_ret, condI_true, seqQ_normal, seqQ_ret, endI_mk, goI_out, goI_ops, opsA_nil, opsA_cons, stepA_move, stepA_assign, stepA_build, stepA_store, stepA_binOp, stepA_extract, thenV_some, thenS_some, extV_zero, extV_succ, eval_tmp, eval_const, put_some, put_none, enterF_succ, aBin_neq, absV_int, cells_agg, aLoad_eq, loadGo_row, aPlace_ptr, dropC_cells, aStore_eq, storeGo_ptr, aBuild_go, aFill_nil, buildGo_struct, get_set_same, Nat.reduceEqDiff, Nat.reduceAdd, List.map_nil, Option.map_some, Nat.zero_add, Nat.zero_le, List.length_cons, List.length_nil, List.drop_zero, List.take_succ_cons, List.take_nil, if_true, if_false, Nat.le_refl, lt_90, pl_90, zc_90, zt_90, c1, g1, stz, retA_ret, Tryz.results58, resultsC_2, resultA_tmp, resultA_cell, res2_some]
  rw [hV]
  exact hid_mk ⟨_, _, zeroC47 _ _, rfl, kk1.trans (Keep.set _ h.n _) fun q hq hh => by omega, fun v b' hh => by cases hh⟩
 have hV0 : rdV bs = rdV1 (min (dec bs 0 0).1 1000) (bs.drop (dec bs 0 0).2.1) := by unfold rdV; rw [if_neg (by omega)]
 rw [e1] at *
 rw [hV0]
 generalize min (dec bs 0 0).1 1000 = K at *
 generalize bs.drop (dec bs 0 0).2.1 = b1 at *
 clear hV0
 simp only [wpA_skip, wpA_region, wpA_seq, wpA_cond, condI_false, seqQ_normal, goI_out, goI_ops, opsA_nil, opsA_cons, stepA_move, stepA_assign, stepA_binOp, stepA_extract, stepA_call, thenV_some, extV_zero, extV_succ, eval_tmp, eval_const, put_some, enterF_zero, enterF_succ, aBin_neq, absV_int, Nat.reduceEqDiff, reduceCtorEq, List.map_cons, List.map_nil, if_true, if_false, z0]
 refine callI_of cal82 (RIntsG _ i b1 2 H1 r1 (s1.lt hb) (by have := s1.2; omega) (.inr (by decide)) (by decide)) fun r H2 ⟨e2, r2, k2⟩ => ?_
 subst e2
 have s2 := (getInts_sub b1 2).trans s1
 have g2 := (k2.get h.n (by omega) (by omega)).trans g1
 have kk2 := kk1.trans' k2
 have n2 := k2.n
 by_cases e2 : (getInts b1 2).2.2 = 0
 rotate_left
 ·have c1 : (((getInts b1 2).2.2 : Int) != 0) = true := by simp; omega
  have hV : rdV1 K b1 = .error (getInts b1 2).2.2 := by unfold rdV1; rw [if_pos e2]
  simp only [wpA_region, wpA_seq, wpA_cond, wpA_ret, condI_true, seqQ_normal, seqQ_ret, endI_mk, goI_out, goI_ops, opsA_nil, opsA_cons, stepA_move, stepA_assign, stepA_build, stepA_store, stepA_binOp, stepA_extract, thenV_some, thenS_some, extV_zero, extV_succ, eval_tmp, eval_const, put_some, put_none, enterF_succ, aBin_neq, absV_int, cells_agg, aLoad_eq, loadGo_row, aPlace_ptr, dropC_cells, aStore_eq, storeGo_ptr, aBuild_go, aFill_nil, buildGo_struct, get_set_same, Nat.reduceEqDiff, Nat.reduceAdd, List.map_nil, Option.map_some, Nat.zero_add, Nat.zero_le, List.length_cons, List.length_nil, List.drop_zero, List.take_succ_cons, List.take_nil, if_true, if_false, Nat.le_refl, lt_90, pl_90, zc_90, zt_90, c1, g2, stz, retA_ret, Tryz.results58, resultsC_2, resultA_tmp, resultA_cell, res2_some]
  rw [hV]
  exact hid_mk ⟨_, _, zeroC47 _ _, rfl, kk2.trans (Keep.set _ h.n _) fun q hq hh => by omega, fun v b' hh => by cases hh⟩
 have hV0 : rdV1 K b1 = rdV2 K (getInts b1 2).1 (getInts b1 2).2.1 := by unfold rdV1; rw [if_neg (by omega)]
 rw [e2] at *
 rw [hV0]
 generalize (getInts b1 2).1 = fr at *
 generalize (getInts b1 2).2.1 = b2 at *
 clear hV0
 simp only [wpA_skip, wpA_region, wpA_seq, wpA_cond, condI_false, seqQ_normal, goI_out, goI_ops, opsA_nil, opsA_cons, stepA_move, stepA_assign, stepA_binOp, stepA_extract, stepA_call, thenV_some, extV_zero, extV_succ, eval_tmp, eval_const, put_some, enterF_zero, enterF_succ, aBin_neq, absV_int, Nat.reduceEqDiff, reduceCtorEq, List.map_cons, List.map_nil, if_true, if_false, z0]
 refine callI_of cal95 (RInt _ i b2 H2 r2 (s2.lt hb) (by have := s2.2; omega)) fun r H3 ⟨e3, r3, k3⟩ => ?_
 subst e3
 have s3 := (Sub.drop b2 (dec b2 0 0).2.1).trans s2
 have g3 := (k3.get h.n (by omega) (by omega)).trans g2
 have kk3 := kk2.trans' k3
 have n3 := k3.n
 by_cases e3 : (dec b2 0 0).2.2 = 0
 rotate_left
 ·have c1 : (((dec b2 0 0).2.2 : Int) != 0) = true := by simp; omega
  have hV : rdV2 K fr b2 = .error (dec b2 0 0).2.2 := by unfold rdV2; rw [if_pos e3]
  simp only [wpA_region, wpA_seq, wpA_cond, wpA_ret, condI_true, seqQ_normal, seqQ_ret, endI_mk, goI_out, goI_ops, opsA_nil, opsA_cons, stepA_move, stepA_assign, stepA_build, stepA_store, stepA_binOp, stepA_extract, thenV_some, thenS_some, extV_zero, extV_succ, eval_tmp, eval_const, put_some, put_none, enterF_succ, aBin_neq, absV_int, cells_agg, aLoad_eq, loadGo_row, aPlace_ptr, dropC_cells, aStore_eq, storeGo_ptr, aBuild_go, aFill_nil, buildGo_struct, get_set_same, Nat.reduceEqDiff, Nat.reduceAdd, List.map_nil, Option.map_some, Nat.zero_add, Nat.zero_le, List.length_cons, List.length_nil, List.drop_zero, List.take_succ_cons, List.take_nil, if_true, if_false, Nat.le_refl, lt_90, pl_90, zc_90, zt_90, c1, g3, stz, retA_ret, Tryz.results58, resultsC_2, resultA_tmp, resultA_cell, res2_some]
  rw [hV]
  exact hid_mk ⟨_, _, zeroC47 _ _, rfl, kk3.trans (Keep.set _ h.n _) fun q hq hh => by omega, fun v b' hh => by cases hh⟩
 have hV0 : rdV2 K fr b2 = rdV3 K fr (unz (dec b2 0 0).1) (b2.drop (dec b2 0 0).2.1) := by unfold rdV2; rw [if_neg (by omega)]
 rw [e3] at *
 rw [hV0]
 generalize unz (dec b2 0 0).1 = N at *
 generalize b2.drop (dec b2 0 0).2.1 = b3 at *
 clear hV0
 simp only [wpA_skip, wpA_region, wpA_seq, wpA_cond, condI_false, seqQ_normal, goI_out, goI_ops, opsA_nil, opsA_cons, stepA_move, stepA_assign, stepA_binOp, stepA_extract, stepA_call, thenV_some, extV_zero, extV_succ, eval_tmp, eval_const, put_some, enterF_zero, enterF_succ, aBin_neq, absV_int, Nat.reduceEqDiff, reduceCtorEq, List.map_cons, List.map_nil, if_true, if_false, z0]
 refine callI_of cal96 (RBytes _ i b3 H3 r3 (s3.lt hb) (by have := s3.2; omega)) fun r H4 ⟨e4, r4, k4⟩ => ?_
 subst e4
 have s4 := (getBytes_sub b3).2.trans s3
 have g4 := (k4.get h.n (by omega) (by omega)).trans g3
 have kk4 := kk3.trans' k4
 have n4 := k4.n
 by_cases e4 : (getBytes b3).2.2 = 0
 rotate_left
 ·have c1 : (((getBytes b3).2.2 : Int) != 0) = true := by simp; omega
  have hV : rdV3 K fr N b3 = .error (getBytes b3).2.2 := by unfold rdV3; rw [if_pos e4]
  simp only [wpA_region, wpA_seq, wpA_cond, wpA_ret, condI_true, seqQ_normal, seqQ_ret, endI_mk, goI_out, goI_ops, opsA_nil, opsA_cons, stepA_move, stepA_assign, stepA_build, stepA_store, stepA_binOp, stepA_extract, thenV_some, thenS_some, extV_zero, extV_succ, eval_tmp, eval_const, put_some, put_none, enterF_succ, aBin_neq, absV_int, cells_agg, aLoad_eq, loadGo_row, aPlace_ptr, dropC_cells, aStore_eq, storeGo_ptr, aBuild_go, aFill_nil, buildGo_struct, get_set_same, Nat.reduceEqDiff, Nat.reduceAdd, List.map_nil, Option.map_some, Nat.zero_add, Nat.zero_le, List.length_cons, List.length_nil, List.drop_zero, List.take_succ_cons, List.take_nil, if_true, if_false, Nat.le_refl, lt_90, pl_90, zc_90, zt_90, c1, g4, stz, retA_ret, Tryz.results58, resultsC_2, resultA_tmp, resultA_cell, res2_some]
  rw [hV]
  exact hid_mk ⟨_, _, zeroC47 _ _, rfl, kk4.trans (Keep.set _ h.n _) fun q hq hh => by omega, fun v b' hh => by cases hh⟩
 have hV0 : rdV3 K fr N b3 = if (getBytes b3).1.length = 0 then .ok (⟨(K : Int), fr, .mk 0 0 [], N⟩, (getBytes b3).2.1) else if ofC (getBytes b3).1 ≠ 0 then .error (ofC (getBytes b3).1) else .ok (⟨(K : Int), fr, ofE (getBytes b3).1, N⟩, (getBytes b3).2.1) := by unfold rdV3; rw [if_neg (by omega)]
 rw [hV0]
 clear hV0
 rw [e4] at *
 have st1 : ∀ (k : Int) (m : Nat) (x : List V) (n : Int), setC (some 6) (AObj.cells [V.int .i64 0, .snil, .int .i64 0, .int .i64 0, .snil, .int .i64 0] 90 none) 0 [.int .i64 k, .imm m x, .int .i64 0, .int .i64 0, .snil, .int .i64 n] = some (.cells [.int .i64 k, .imm m x, .int .i64 0, .int .i64 0, .snil, .int .i64 n] 90 none) := fun _ _ _ _ => rfl
 obtain ⟨H5, hH5⟩ : ∃ y, y = H4.push (.cells [V.int .i64 (K : Int), .imm fr.length (i64V fr), .int .i64 0, .int .i64 0, .snil, .int .i64 N] 90 none) := ⟨_, rfl⟩
 have k5 : Keep H4 H5 (· = i) := by rw [hH5]; exact Keep.push _ _ _
 have k50 : Keep H4 H5 none_ := by rw [hH5]; exact Keep.push _ _ _
 have g55 : H5.get H4.n = .cells [V.int .i64 (K : Int), .imm fr.length (i64V fr), .int .i64 0, .int .i64 0, .snil, .int .i64 N] 90 none := by rw [hH5]; exact get_push_new
 have n5 : H5.n = H4.n + 1 := by rw [hH5]; rfl
 have g5 := (k5.get h.n (by omega) (by omega)).trans g4
 have kk5 := kk4.trans' k5
 have r5 := IsRd.keep r4 k50 (by simp [none_])
 simp only [wpA_skip, wpA_region, wpA_seq, wpA_cond, condI_false, seqQ_normal, goI_out, goI_ops, opsA_nil, opsA_cons, stepA_move, stepA_assign, stepA_alloc, stepA_build, stepA_store, stepA_binOp, stepA_extract, stepA_len, thenV_some, thenH_some, thenS_some, extV_zero, extV_succ, eval_tmp, eval_const, put_some, put_none, enterF_succ, aBin_neq, aBin_gtr, absV_int, cells_int, cells_imm, cells_agg, aStore_eq, storeGo_ptr, setAll_nil, setAll_cons, aAlloc_eq, aLen_imm, aBuild_go, aFill_nil, aFill_cons, fillGo_some, buildGo_struct, get_push_new, set_push, List.getElem?_cons_zero, List.getElem?_cons_succ, Nat.reduceEqDiff, Nat.reduceAdd, Nat.reduceLeDiff, List.map_cons, List.map_nil, Option.map_some, Nat.zero_add, List.length_cons, List.length_nil, List.set_cons_zero, List.set_cons_succ, and_self, if_true, if_false, Nat.le_refl, kt_42, pl_90, zc_90, zt_90, z0, st1]
 rw [← hH5]
 clear hH5
 by_cases hl0 : (getBytes b3).1.length = 0
 ·have c1 : decide ((0 : Int) < (((getBytes b3).1.length : Nat) : Int)) = false := decide_eq_false (by omega)
  rw [if_pos hl0]
  simp only [wpA_skip, wpA_region, wpA_seq, wpA_ret, condI_false, seqQ_normal, endI_mk, goI_out, goI_ops, opsA_nil, opsA_cons, stepA_assign, stepA_load, stepA_store, thenV_some, thenS_some, eval_tmp, eval_const, put_some, put_none, enterF_succ, absV_int, cells_agg, aLoad_eq, loadGo_row, aPlace_ptr, dropC_cells, aStore_eq, storeGo_ptr, get_set_same, Nat.reduceEqDiff, Nat.reduceAdd, Option.map_some, Nat.zero_add, Nat.zero_le, List.length_cons, List.length_nil, List.drop_zero, List.take_succ_cons, List.take_nil, if_true, if_false, Nat.le_refl, lt_90, zt_90, c1, g55, g5, st1, retA_ret, Tryz.results58, resultsC_2, resultA_tmp, resultA_cell, res2_some]
  have kS : Keep H5 (H5.set h.n (.cells [V.int .i64 (K : Int), .imm fr.length (i64V fr), .int .i64 0, .int .i64 0, .snil, .int .i64 N] 90 none)) (· = h.n) := Keep.set _ h.n _
  exact hid_mk ⟨_, _, zeroE47 _ _ _ _, rfl, kk5.trans kS fun q hq hh => by omega, fun v b' hh => by injection hh with hh; injection hh with h1 h2; subst h2; exact r5.keep kS (by omega)⟩
 ·have c1 : decide ((0 : Int) < (((getBytes b3).1.length : Nat) : Int)) = true := decide_eq_true (by omega)
  simp only [wpA_region, wpA_seq, condI_true, goI_ops, opsA_cons, stepA_move, stepA_call, eval_tmp, put_some, put_none, enterF_succ, Nat.reduceEqDiff, List.map_cons, List.map_nil, if_true, if_false, c1]
  refine callI_pure cal97 (pOf _ (getBytes b3).1 H5 (hg.keep kk5) (Rd.imm _ _) (s4.lt hb) (by have := s4.2; omega)) ?_
  rw [if_neg hl0]
  generalize (getBytes b3).1 = xs at *
  unfold ofV
  have hcE := ex_cells (ofE xs)
  obtain ⟨A, hA⟩ : ∃ y, y = (⟨(K : Int), fr, ofE xs, N⟩ : Vx) := ⟨_, rfl⟩
  have stE : setC (some 3) (AObj.cells [V.int .i64 (K : Int), .imm fr.length (i64V fr), .int .i64 0, .int .i64 0, .snil, .int .i64 N] 90 none) 2 (encE (ofE xs)) = some (.cells (encX A) 90 none) := by
   rw [setC_row (n := 3) (encE_len _) (encE_one _), if_pos (by simp), hA]
   simp only [encX]
   generalize ofE xs = E
   cases E
   rfl
  have hone : (V.agg (encX A)).cells = some (encX A) := rfl
  have hset : setC (some 6) (AObj.cells [V.int .i64 0, .snil, .int .i64 0, .int .i64 0, .snil, .int .i64 0] 90 none) 0 (encX A) = some (.cells (encX A) 90 none) := by
   rw [setC_row (n := 6) (encX_len A) (encX_one A), if_pos (by decide), encX_eq]; rfl
  have hd0 : dropC (AObj.cells (encX A) 90 none) 0 = some (encX A) := by rw [encX_eq]; rfl
  have hld : loadGo (some (some 6)) (some (encX A)) = some (.agg (encX A)) := by rw [encX_eq]; rfl
  have ldX : (if 6 ≤ (encX A).length then some (V.agg (List.take 6 (encX A))) else none) = some (.agg (encX A)) := by rw [encX_eq]; rfl
  have kA : Keep H5 (H5.set H4.n (.cells (encX A) 90 none)) (· = H4.n) := Keep.set _ _ _
  have g6 := (kA.get h.n (by omega) (by omega)).trans g5
  by_cases e5 : ofC xs = 0
  ·have c2 : ((ofC xs : Int) != 0) = false := by simp [e5]
   rw [if_neg (by omega)]
   simp only [wpA_skip, wpA_region, wpA_seq, wpA_cond, wpA_ret, condI_false, seqQ_normal, endI_mk, goI_out, goI_ops, opsA_nil, opsA_cons, stepA_move, stepA_assign, stepA_load, stepA_store, stepA_binOp, stepA_fieldAddr, stepA_extract, thenV_some, thenS_some, extV_zero, extV_succ, eval_tmp, eval_const, put_some, put_none, enterF_succ, aBin_neq, absV_int, aField_eq, fieldGo_ptr, aLoad_eq, aPlace_ptr, aStore_eq, storeGo_ptr, get_set_same, Nat.reduceEqDiff, Option.map_some, Nat.zero_add, if_true, if_false, ft_90_2, lt_90, zt_88, zt_90, hcE, g55, stE, c2, hd0, hld, g6, hone, hset, retA_ret, Tryz.results58, resultsC_2, resultA_tmp, resultA_cell, res2_some]
   have kS : Keep (H5.set H4.n (.cells (encX A) 90 none)) ((H5.set H4.n (.cells (encX A) 90 none)).set h.n (.cells (encX A) 90 none)) (· = h.n) := Keep.set _ h.n _
   exact hid_mk ⟨_, _, Cast.refl _ _, by rw [hA]; rfl, (kk5.trans kA fun q hq hh => by omega).trans kS fun q hq hh => by omega, fun v b' hh => by injection hh with hh; injection hh with h1 h2; subst h2; exact (r5.keep kA (by omega)).keep kS (by omega)⟩
  ·have c2 : ((ofC xs : Int) != 0) = true := by simp; omega
   rw [if_pos e5]
   simp only [wpA_region, wpA_seq, wpA_cond, wpA_ret, condI_true, seqQ_normal, seqQ_ret, endI_mk, goI_out, goI_ops, opsA_nil, opsA_cons, stepA_move, stepA_assign, stepA_build, stepA_store, stepA_binOp, stepA_fieldAddr, stepA_extract, thenV_some, thenS_some, extV_zero, extV_succ, eval_tmp, eval_const, put_some, put_none, enterF_succ, aBin_neq, absV_int, cells_agg, aField_eq, fieldGo_ptr, aLoad_eq, loadGo_row, aPlace_ptr, dropC_cells, aStore_eq, storeGo_ptr, aBuild_go, aFill_nil, buildGo_struct, get_set_same, Nat.reduceEqDiff, Nat.reduceAdd, List.map_nil, Option.map_some, Nat.zero_add, Nat.zero_le, List.length_cons, List.length_nil, List.drop_zero, List.take_succ_cons, List.take_nil, if_true, if_false, Nat.le_refl, ft_90_2, lt_90, pl_90, zc_90, zt_88, zt_90, hcE, g55, stE, c2, g6, stz, retA_ret, Tryz.results58, resultsC_2, resultA_tmp, resultA_cell, res2_some]
   exact hid_mk ⟨_, _, zeroC47 _ _, rfl, (kk5.trans kA fun q hq hh => by omega).trans (Keep.set _ h.n _) fun q hq hh => by omega, fun v b' hh => by cases hh⟩
end Go.Proofs.YtfcjehlhoebmnaaGreatDoor.Pk
namespace Go.Proofs.YtfcjehlhoebmnaaGreatDoor.Pk
open Go Go.Proofs Go.Proofs.YtfcjehlhoebmnaaGreatDoor.Ab
set_option linter.unusedVariables false
set_option linter.unusedSimpArgs false
def goVs : Nat → List Nat → List Vx → Except Nat (List Vx × List Nat)
 | 0, bs, acc => .ok (acc, bs)
 | m + 1, bs, acc => match rdV bs with
  | .error c => .error c
  | .ok (v, b') => goVs m b' (acc ++ [v])
def rdT2 (p n : Nat) (bs : List Nat) : Except Nat (Nat × List Vx × List Nat) := match goVs n bs [] with
 | .error c => .error c
 | .ok (l, r) => .ok (p, l, r)
def rdT1 (p : Nat) (bs : List Nat) : Except Nat (Nat × List Vx × List Nat) :=
 if (dec bs 0 0).2.2 ≠ 0 then .error (dec bs 0 0).2.2 else if 24 < min (dec bs 0 0).1 1000 then .error 2 else rdT2 p (min (dec bs 0 0).1 1000) (bs.drop (dec bs 0 0).2.1)
def rdT (bs : List Nat) : Except Nat (Nat × List Vx × List Nat) :=
 if (dec bs 0 0).2.2 ≠ 0 then .error (dec bs 0 0).2.2 else rdT1 (min (dec bs 0 0).1 1000) (bs.drop (dec bs 0 0).2.1)
def tV : Except Nat (Nat × List Vx × List Nat) → V
 | .error c => .tuple [.agg (topE [] 0), .int .i64 (c : Nat)]
 | .ok (p, l, _) => .tuple [.agg (topE l (p : Int)), .int .i64 0]
theorem ofX_ne {xs : List Nat} (h : ofC xs ≠ 0 → False) (hx : xs ≠ []) : ∃ e, ofX xs = .ok e ∧ ofE xs = e := by
 unfold ofC at h
 unfold ofE
 cases hq : ofX xs with
 | ok e => exact ⟨e, rfl, rfl⟩
 | error c => rw [hq] at h; exact (h (ofX_err hq)).elim
theorem goInts_sound : ∀ (m : Nat) (r : List Nat) (acc : List Int), (∀ b ∈ r, b < 256) → (goInts m r acc).2.2 = 0 → ∃ l, (goInts m r acc).1 = acc ++ l ∧ l.length = m ∧ r = (l.flatMap fun n => enc (zz n)) ++ (goInts m r acc).2.1 ∧ ∀ n ∈ l, -2147483648 ≤ n ∧ n ≤ 2147483647
 | 0, r, acc, _, _ => ⟨[], by simp [goInts], rfl, by simp [goInts], by simp⟩
 | m + 1, r, acc, hb, h => by
  unfold goInts at h ⊢
  split at h
  ·rename_i h1; exact absurd h h1
  ·rename_i h1
   rw [if_neg h1]
   split at h
   ·cases h
   ·rename_i h2
    rw [if_neg h2]
    obtain ⟨h3, h4⟩ := dec_ok hb (by omega)
    obtain ⟨l, q1, q2, q3, q4⟩ := goInts_sound m _ _ (fun b hq => hb b (List.mem_of_mem_drop hq)) h
    refine ⟨unz (dec r 0 0).1 :: l, by rw [q1]; simp, by simp [q2], ?_, ?_⟩
    ·rw [List.flatMap_cons, zz_unz _ h4, List.append_assoc, ← q3]; exact h3
    ·intro n hn
     rcases List.mem_cons.1 hn with rfl | hn
     ·omega
     ·exact q4 n hn
theorem getInts_sound {bs : List Nat} (hb : ∀ b ∈ bs, b < 256) (h : (getInts bs 2).2.2 = 0) : bs = encInts (getInts bs 2).1 ++ (getInts bs 2).2.1 ∧ (getInts bs 2).1.length ≤ 2 ∧ ∀ n ∈ (getInts bs 2).1, -2147483648 ≤ n ∧ n ≤ 2147483647 := by
 unfold getInts at h ⊢
 split at h
 ·rename_i h1; exact absurd h h1
 rename_i h1
 rw [if_neg h1]
 split at h
 ·cases h
 rename_i h2
 rw [if_neg h2]
 split at h
 ·rename_i h3; exact absurd h h3
 rename_i h3
 rw [if_neg h3]
 obtain ⟨h4, h5⟩ := dec_ok hb (by omega)
 obtain ⟨l, q1, q2, q3, q4⟩ := goInts_sound _ _ [] (fun b hq => hb b (List.mem_of_mem_drop hq)) h
 rw [List.nil_append] at q1
 rw [q1]
 refine ⟨?_, by omega, q4⟩
 unfold encInts
 rw [q2, List.append_assoc, ← q3]
 exact h4
theorem getBytes_sound {bs : List Nat} (hb : ∀ b ∈ bs, b < 256) (h : (getBytes bs).2.2 = 0) : bs = encBytes (getBytes bs).1 ++ (getBytes bs).2.1 := by
 unfold getBytes at h ⊢
 split at h
 ·rename_i h1; exact absurd h h1
 rename_i h1
 rw [if_neg h1]
 split at h
 ·cases h
 rename_i h2
 rw [if_neg h2]
 obtain ⟨h4, h5⟩ := dec_ok hb (by omega)
 unfold encBytes
 simp only
 rw [List.length_take, Nat.min_eq_left (by omega), List.append_assoc, List.take_append_drop]
 exact h4
theorem rdV_sound {bs : List Nat} (hb : ∀ b ∈ bs, b < 256) {v : Vx} {b' : List Nat} (h : rdV bs = .ok (v, b')) : OkX v ∧ Sub b' bs ∧ (v.kind < 1000 → bs = encV v ++ b') := by
 unfold rdV at h
 split at h
 ·cases h
 rename_i e1
 obtain ⟨d1, l1⟩ := dec_ok hb (by omega)
 have s1 := Sub.drop bs (dec bs 0 0).2.1
 generalize hK : (dec bs 0 0).1 = K at *
 generalize bs.drop (dec bs 0 0).2.1 = b1 at *
 unfold rdV1 at h
 split at h
 ·cases h
 rename_i e2
 obtain ⟨d2, l2, r2⟩ := getInts_sound (s1.lt hb) (by omega)
 have s2 := (getInts_sub b1 2).trans s1
 generalize (getInts b1 2).1 = fr at *
 generalize (getInts b1 2).2.1 = b2 at *
 unfold rdV2 at h
 split at h
 ·cases h
 rename_i e3
 obtain ⟨d3, l3⟩ := dec_ok (s2.lt hb) (by omega)
 have s3 := (Sub.drop b2 (dec b2 0 0).2.1).trans s2
 have u3 := unz_range _ l3
 have z3 := zz_unz _ l3
 generalize (dec b2 0 0).1 = N at *
 generalize b2.drop (dec b2 0 0).2.1 = b3 at *
 unfold rdV3 at h
 split at h
 ·cases h
 rename_i e4
 have d4 := getBytes_sound (s3.lt hb) (by omega)
 have s4 := (getBytes_sub b3).1.trans s3
 have s5 := (getBytes_sub b3).2.trans s3
 generalize (getBytes b3).1 = xs at *
 generalize (getBytes b3).2.1 = b4 at *
 have hfr : ∀ f ∈ fr, inR f := fun f hf => by have := r2 f hf; unfold inR; omega
 split at h
 ·rename_i h0
  injection h with h
  injection h with h1 h2
  subst h1
  subst h2
  have hx0 : xs = [] := List.eq_nil_of_length_eq_zero h0
  refine ⟨⟨okE0 0 0 (by decide) (by decide), by simp only; omega, by simp only [inR]; omega, u3, hfr⟩, s4, fun hk => ?_⟩
  simp only at hk
  have hKK : min K 1000 = K := by omega
  have hbx : bytX (.mk 0 0 []) = [] := by decide
  unfold encV
  simp only
  rw [hKK, Int.toNat_natCast, hbx, z3]
  subst hx0
  conv => lhs; rw [d1, d2, d3, d4]
  simp only [List.append_assoc]
 ·rename_i h0
  split at h
  ·cases h
  rename_i h6
  injection h with h
  injection h with h1 h2
  subst h1
  subst h2
  obtain ⟨e, q1, q2⟩ := ofX_ne (xs := xs) (fun hh => h6 hh) (fun hh => h0 (by rw [hh]; rfl))
  obtain ⟨q3, q4, q5⟩ := ofX_ok (s5.lt hb) q1
  rw [q2]
  refine ⟨⟨q5, by simp only; omega, by simp only [inR]; omega, u3, hfr⟩, s4, fun hk => ?_⟩
  simp only at hk
  have hKK : min K 1000 = K := by omega
  have hbx : bytX e = xs := by unfold bytX; rw [if_pos q4, ← q3]
  unfold encV
  simp only
  rw [hKK, Int.toNat_natCast, hbx, z3]
  conv => lhs; rw [d1, d2, d3, d4]
  simp only [List.append_assoc]
theorem rdV_app {v : Vx} (hok : OkX v) (hk : 1 ≤ v.kind ∧ v.kind ≤ 10) (hl : v.frm.length ≤ 2) (hf : ∀ f ∈ v.frm, 0 ≤ f ∧ f < 24) (he : v.e = .mk 0 0 [] ∨ mayX v.e = true) (r : List Nat) : rdV (encV v ++ r) = .ok (v, r) := by
 obtain ⟨kind, fr, e, n⟩ := v
 simp only at hk hl hf he
 obtain ⟨K, rfl⟩ := Int.eq_ofNat_of_zero_le (show 0 ≤ kind by omega)
 have hn := hok.2.2.2.1
 simp only at hn
 unfold encV
 simp only [Int.toNat_natCast, List.append_assoc]
 unfold rdV
 rw [dec_app K (by omega)]
 simp only [List.drop_left]
 rw [if_neg (by simp), Nat.min_eq_left (by omega)]
 unfold rdV1
 have hg : ∀ q, getInts (encInts fr ++ q) 2 = (fr, q, 0) := fun q => by
  unfold getInts encInts
  rw [List.append_assoc, dec_app _ (by omega)]
  simp only [List.drop_left]
  rw [if_neg (by simp), if_neg (by omega), goInts_app q fr [] (fun f hq => by have := hf f hq; omega), if_neg (by simp)]
  simp
 rw [hg]
 simp only
 rw [if_neg (by simp)]
 unfold rdV2
 rw [dec_app _ (zz_lt _ hn.1 hn.2)]
 simp only [List.drop_left]
 rw [if_neg (by simp), unz_zz]
 unfold rdV3
 have hbl := bytX_len hok.1
 simp only at hbl
 rw [getBytes_app _ _ (by omega)]
 simp only
 rw [if_neg (by simp)]
 rcases he with rfl | he
 ·have hbx : bytX (.mk 0 0 []) = [] := by decide
  rw [hbx, List.length_nil, if_pos rfl]
 ·have hbx : bytX e = encB e := by unfold bytX; rw [if_pos he]
  rw [hbx]
  have hof := ofX_enc he hok.1
  have hne : (encB e).length ≠ 0 := by
   obtain ⟨o, m, ks⟩ := e
   rw [encB_eq]
   simp only [List.length_append]
   have := (enc_le o.toNat (by have := hok.1; cases this; omega)).1
   omega
  have hC : ofC (encB e) = 0 := by unfold ofC; rw [hof]
  have hE : ofE (encB e) = e := by unfold ofE; rw [hof]
  rw [if_neg hne, hC, if_neg (by simp), hE]
end Go.Proofs.YtfcjehlhoebmnaaGreatDoor.Pk
namespace Go.Proofs.YtfcjehlhoebmnaaGreatDoor.Pk
open Go Go.Proofs Go.Proofs.YtfcjehlhoebmnaaGreatDoor.Ab
set_option linter.unusedVariables false
set_option linter.unusedSimpArgs false
theorem litX1 (h : AHeap) (v : Vx) : aBuildSlice Tryz.prog 43 1 [(0, .agg (encX v))] h = some (.sl h.n 0 1 1, h.push (.cells (encX v) 90 none)) := by
 rw [encX_eq, buildSlice_go sl_43]; rfl
theorem app1X {h : AHeap} {s : V} {cs : List Vx} (o : Own h 90 6 s (cs.flatMap encX)) (hl : cs.length ≤ 2 ^ 40) (c : Vx) :
  ∃ s' h', aAppend Tryz.prog 43 43 s (.sl h.n 0 1 1) (h.push (.cells (encX c) 90 none)) = some (s', h') ∧ Own h' 90 6 s' ((cs ++ [c]).flatMap encX) ∧ Keep h h' (isId s) ∧ NewOr h s s' := by
 have kp : Keep h (h.push (.cells (encX c) 90 none)) none_ := Keep.push _ _ _
 have oj : Own (h.push (.cells (encX c) 90 none)) 90 6 (.sl h.n 0 1 1) (encX c) := Own.fresh' (encX c) 1 (encX_len c) (by decide)
 have hsrc := own_src (P := Tryz.prog) (t := 43) kt_43 oj (n := 1) (encX_len c) (by decide) (encX_one c)
 obtain ⟨s', h', ea, oa, ka, na⟩ := append_ownM (P := Tryz.prog) (t := 43) (tx := 43) sl_43 (by decide) (o.keepN kp) hsrc (encX_len c) (fun m hm => by
  change m * 6 = _ at hm
  rw [rows_len encX_len, encX_len] at hm
  exact ⟨by simp only [lim]; omega, by simp only [lim]; omega⟩)
 refine ⟨s', h', ea, ?_, (kp.up).trans' ka, ?_⟩
 ·rw [List.flatMap_append]
  simpa using oa
 ·rcases na with na | na
  ·exact .inl na
  ·exact .inr fun q hq => Nat.le_trans kp.n (na q hq)
theorem zeroC24 (h : AHeap) (c : Nat) : Cast (.tuple [.agg [.snil, .int .i64 0], .int .i64 (c : Nat)]) h (.tuple [.agg (topE [] 0), .int .i64 (c : Nat)]) h :=
 Cast.tuple (CastL.cons (Pk.Cast.agg (CastL.cons (Cast.nil0 h) (CastL.refl _ _))) (CastL.refl _ _))
theorem castT {h : AHeap} {s : V} {l : List Vx} (p : Int) (o : Own h 90 6 s (l.flatMap encX)) : ∃ h2, Cast (.agg [s, .int .i64 p]) h (.agg (topE l p)) h2 ∧ Keep h h2 (isId s) := by
 obtain ⟨h2, c, k⟩ := Cast.own (n := l.length) o (rows_len encX_len l) (by decide)
 exact ⟨h2, Pk.Cast.agg (CastL.cons c (CastL.refl _ _)), k⟩
theorem rdV_err {bs : List Nat} {c : Nat} (h : rdV bs = .error c) : c ≠ 0 := by
 unfold rdV at h
 split at h
 ·injection h with h; omega
 unfold rdV1 at h
 split at h
 ·injection h with h; omega
 unfold rdV2 at h
 split at h
 ·injection h with h; omega
 unfold rdV3 at h
 split at h
 ·injection h with h; omega
 split at h
 ·cases h
 split at h
 ·injection h with h; omega
 ·cases h
theorem goVs_error {m : Nat} {bs : List Nat} {acc : List Vx} {c : Nat} (h : rdV bs = .error c) : goVs (m + 1) bs acc = .error c := by unfold goVs; rw [h]
set_option maxHeartbeats 4000000 in
set_option maxRecDepth 10000 in
theorem pRead (i : Nat) (bs : List Nat) (h : AHeap) (hg : KG h) (hr : IsRd h (.ptr i 0) i bs) (hb : ∀ b ∈ bs, b < 256) (hc : bs.length ≤ 2 ^ 47) :
  SCalls Tryz.prog 27 [.ptr i 0] h (fun r h' => r = tV (rdT bs) ∧ Keep h h' (· = i) ∧ ∀ p l b', rdT bs = .ok (p, l, b') → IsRd h' (.ptr i 0) i b') := by
 refine SCalls.cast ?_
 refine SCalls.enterI (c := _) Tryz.func27 rfl (by kernel_rfl) (by simp) ?_
 have hin := hr.2.1
 obtain ⟨H0, hH0⟩ : ∃ y, y = h.push (.cells [V.snil, .int .i64 0] 45 none) := ⟨_, rfl⟩
 have k00 : Keep h H0 none_ := by rw [hH0]; exact Keep.push _ _ _
 have k0 : Keep h H0 (· = i) := k00.up
 have g0 : H0.get h.n = .cells [V.snil, .int .i64 0] 45 none := by rw [hH0]; exact get_push_new
 have n0 : H0.n = h.n + 1 := by rw [hH0]; rfl
 have r0 := IsRd.keep hr k00 (by simp [none_])
 have stz : setC (some 2) (AObj.cells [V.snil, .int .i64 0] 45 none) 0 [V.snil, .int .i64 0] = some (.cells [V.snil, .int .i64 0] 45 none) := rfl
 have z0 : (((0 : Nat) : Int) != 0) = false := rfl
 simp only [wpA_region, wpA_seq, seqQ_normal, goI_out, goI_ops, opsA_nil, opsA_cons, stepA_move, stepA_assign, stepA_alloc, stepA_call, thenH_some, eval_tmp, eval_const, put_some, enterF_zero, enterF_succ, absV_int, aAlloc_eq, Nat.reduceEqDiff, reduceCtorEq, List.map_cons, List.map_nil, Option.map_some, if_true, if_false, zc_45]
 rw [← hH0]
 clear hH0
 refine callI_of cal57 (pNum i bs H0 r0 hb (by omega)) fun r H1 ⟨e1, r1, k1⟩ => ?_
 subst e1
 have s1 : Sub (bs.drop (dec bs 0 0).2.1) bs := Sub.drop _ _
 have g1 := (k1.get h.n (by omega) (by omega)).trans g0
 have kk1 := k0.trans' k1
 have n1 := k1.n
 by_cases e1 : (dec bs 0 0).2.2 = 0
 rotate_left
 ·have c1 : (((dec bs 0 0).2.2 : Int) != 0) = true := by simp; omega
  have hV : rdT bs = .error (dec bs 0 0).2.2 := by unfold rdT; rw [if_pos e1]
  simp only [wpA_region, wpA_seq, wpA_cond, wpA_ret, condI_true, seqQ_normal, seqQ_ret, endI_mk, goI_out, goI_ops, opsA_nil, opsA_cons, stepA_move, stepA_assign, stepA_build, stepA_store, stepA_binOp, stepA_extract, thenV_some, thenS_some, extV_zero, extV_succ, eval_tmp, eval_const, put_some, put_none, enterF_succ, aBin_neq, absV_int, cells_agg, aLoad_eq, loadGo_row, aPlace_ptr, dropC_cells, aStore_eq, storeGo_ptr, aBuild_go, aFill_nil, buildGo_struct, get_set_same, Nat.reduceEqDiff, Nat.reduceAdd, List.map_nil, Option.map_some, Nat.zero_add, Nat.zero_le, List.length_cons, List.length_nil, List.drop_zero, List.take_succ_cons, List.take_nil, if_true, if_false, Nat.le_refl, lt_45, pl_45, zc_45, zt_45, c1, g1, stz, retA_ret, Tryz.results27, resultsC_2, resultA_tmp, resultA_cell, res2_some]
  rw [hV]
  exact hid_mk ⟨_, _, zeroC24 _ _, rfl, kk1.trans (Keep.set _ h.n _) fun q hq hh => by omega, fun p l b' hh => by cases hh⟩
 have hV0 : rdT bs = rdT1 (min (dec bs 0 0).1 1000) (bs.drop (dec bs 0 0).2.1) := by unfold rdT; rw [if_neg (by omega)]
 rw [e1] at *
 rw [hV0]
 generalize min (dec bs 0 0).1 1000 = P at *
 generalize bs.drop (dec bs 0 0).2.1 = b1 at *
 clear hV0
 simp only [wpA_skip, wpA_region, wpA_seq, wpA_cond, condI_false, seqQ_normal, goI_out, goI_ops, opsA_nil, opsA_cons, stepA_move, stepA_assign, stepA_binOp, stepA_extract, stepA_call, thenV_some, extV_zero, extV_succ, eval_tmp, eval_const, put_some, enterF_zero, enterF_succ, aBin_neq, absV_int, Nat.reduceEqDiff, reduceCtorEq, List.map_cons, List.map_nil, if_true, if_false, z0]
 refine callI_of cal57 (pNum i b1 H1 r1 (s1.lt hb) (by have := s1.2; omega)) fun r H2 ⟨e2, r2, k2⟩ => ?_
 subst e2
 have s2 := (Sub.drop b1 (dec b1 0 0).2.1).trans s1
 have g2 := (k2.get h.n (by omega) (by omega)).trans g1
 have kk2 := kk1.trans' k2
 have n2 := k2.n
 by_cases e2 : (dec b1 0 0).2.2 = 0
 rotate_left
 ·have c1 : (((dec b1 0 0).2.2 : Int) != 0) = true := by simp; omega
  have hV : rdT1 P b1 = .error (dec b1 0 0).2.2 := by unfold rdT1; rw [if_pos e2]
  simp only [wpA_region, wpA_seq, wpA_cond, wpA_ret, condI_true, seqQ_normal, seqQ_ret, endI_mk, goI_out, goI_ops, opsA_nil, opsA_cons, stepA_move, stepA_assign, stepA_build, stepA_store, stepA_binOp, stepA_extract, thenV_some, thenS_some, extV_zero, extV_succ, eval_tmp, eval_const, put_some, put_none, enterF_succ, aBin_neq, absV_int, cells_agg, aLoad_eq, loadGo_row, aPlace_ptr, dropC_cells, aStore_eq, storeGo_ptr, aBuild_go, aFill_nil, buildGo_struct, get_set_same, Nat.reduceEqDiff, Nat.reduceAdd, List.map_nil, Option.map_some, Nat.zero_add, Nat.zero_le, List.length_cons, List.length_nil, List.drop_zero, List.take_succ_cons, List.take_nil, if_true, if_false, Nat.le_refl, lt_45, pl_45, zc_45, zt_45, c1, g2, stz, retA_ret, Tryz.results27, resultsC_2, resultA_tmp, resultA_cell, res2_some]
  rw [hV]
  exact hid_mk ⟨_, _, zeroC24 _ _, rfl, kk2.trans (Keep.set _ h.n _) fun q hq hh => by omega, fun p l b' hh => by cases hh⟩
 have hV0 : rdT1 P b1 = if 24 < min (dec b1 0 0).1 1000 then .error 2 else rdT2 P (min (dec b1 0 0).1 1000) (b1.drop (dec b1 0 0).2.1) := by unfold rdT1; rw [if_neg (by omega)]
 rw [e2] at *
 rw [hV0]
 generalize min (dec b1 0 0).1 1000 = N at *
 generalize b1.drop (dec b1 0 0).2.1 = b2 at *
 clear hV0
 by_cases h24 : 24 < N
 ·have c1 : decide ((24 : Int) < (N : Int)) = true := decide_eq_true (by omega)
  simp only [wpA_skip, wpA_region, wpA_seq, wpA_cond, wpA_ret, condI_true, condI_false, seqQ_normal, seqQ_ret, endI_mk, goI_out, goI_ops, opsA_nil, opsA_cons, stepA_move, stepA_assign, stepA_build, stepA_store, stepA_binOp, stepA_extract, thenV_some, thenS_some, extV_zero, extV_succ, eval_tmp, eval_const, put_some, put_none, enterF_succ, aBin_neq, aBin_gtr, absV_int, cells_agg, aLoad_eq, loadGo_row, aPlace_ptr, dropC_cells, aStore_eq, storeGo_ptr, aBuild_go, aFill_nil, buildGo_struct, get_set_same, Nat.reduceEqDiff, Nat.reduceAdd, List.map_nil, Option.map_some, Nat.zero_add, Nat.zero_le, List.length_cons, List.length_nil, List.drop_zero, List.take_succ_cons, List.take_nil, if_true, if_false, Nat.le_refl, lt_45, pl_45, zc_45, zt_45, z0, c1, g2, stz, retA_ret, Tryz.results27, resultsC_2, resultA_tmp, resultA_cell, res2_some]
  rw [if_pos h24]
  exact hid_mk ⟨_, _, zeroC24 _ 2, rfl, kk2.trans (Keep.set _ h.n _) fun q hq hh => by omega, fun p l b' hh => by cases hh⟩
 have c1 : decide ((24 : Int) < (N : Int)) = false := decide_eq_false (by omega)
 rw [if_neg h24]
 have st1 : setC (some 2) (AObj.cells [V.snil, .int .i64 0] 45 none) 0 [V.snil, .int .i64 (P : Int)] = some (.cells [V.snil, .int .i64 (P : Int)] 45 none) := rfl
 obtain ⟨H3, hH3⟩ : ∃ y, y = H2.push (.cells [V.snil, .int .i64 (P : Int)] 45 none) := ⟨_, rfl⟩
 have k30 : Keep H2 H3 none_ := by rw [hH3]; exact Keep.push _ _ _
 have k3 : Keep H2 H3 (· = i) := k30.up
 have g33 : H3.get H2.n = .cells [V.snil, .int .i64 (P : Int)] 45 none := by rw [hH3]; exact get_push_new
 have n3 : H3.n = H2.n + 1 := by rw [hH3]; rfl
 have g3 := (k3.get h.n (by omega) (by omega)).trans g2
 have kk3 := kk2.trans' k3
 have r3 := IsRd.keep r2 k30 (by simp [none_])
 simp only [wpA_skip, wpA_region, wpA_seq, wpA_cond, wpA_block, wpA_loop, condI_false, seqQ_normal, goI_out, goI_ops, opsA_nil, opsA_cons, stepA_move, stepA_assign, stepA_alloc, stepA_build, stepA_store, stepA_binOp, stepA_extract, thenV_some, thenH_some, thenS_some, extV_zero, extV_succ, eval_tmp, eval_const, put_some, put_none, enterF_succ, aBin_neq, aBin_gtr, absV_int, cells_int, cells_agg, aStore_eq, storeGo_ptr, setAll_nil, setAll_cons, aAlloc_eq, aBuild_go, aFill_nil, aFill_cons, fillGo_some, buildGo_struct, get_push_new, set_push, List.getElem?_cons_zero, List.getElem?_cons_succ, Nat.reduceEqDiff, Nat.reduceAdd, List.map_cons, List.map_nil, Option.map_some, Nat.zero_add, List.length_cons, List.length_nil, List.set_cons_zero, List.set_cons_succ, and_self, if_true, if_false, Nat.le_refl, pl_45, zc_45, zt_45, z0, c1, st1]
 rw [← hH3]
 clear hH3
 generalize hF : H2.n = F at *
 have own0 : Own H3 90 6 .snil (([] : List Vx).flatMap encX) := .inl ⟨.inl rfl, rfl⟩
 refine SWp.loopG (α := Nat × V × List Vx × List Nat) (fun x f h' => f 0 = .ptr i 0 ∧ f 2 = .ptr h.n 0 ∧ f 7 = .ptr F 0 ∧ f 33 = .int .i64 (N : Int) ∧ f 34 = .int .i64 (x.1 : Nat) ∧ x.1 ≤ N ∧ x.2.2.1.length = x.1 ∧ h'.get h.n = .cells [V.snil, .int .i64 0] 45 none ∧ h'.get F = .cells [x.2.1, .int .i64 (P : Int)] 45 none ∧
   Own h' 90 6 x.2.1 (x.2.2.1.flatMap encX) ∧ (∀ j, idOf x.2.1 = some j → F < j) ∧ IsRd h' (.ptr i 0) i x.2.2.2 ∧ Sub x.2.2.2 bs ∧ Keep h h' (· = i) ∧ F < h'.n ∧ goVs N b2 [] = goVs (N - x.1) x.2.2.2 x.2.2.1) (fun x => N - x.1) (0, .snil, [], b2)
  ⟨rfl, rfl, rfl, rfl, rfl, Nat.zero_le _, rfl, g3, g33, own0, (fun j hj => by simp [idOf] at hj), r3, s2, kk3, by omega, rfl⟩ ?_
 rintro ⟨j, s, acc, b⟩ f h1 ⟨f0, f2, f7, f33, f34, hj, hal, gz, gF, os, ids, rd, sb, kk, hFn, hE⟩
 simp only at f34 hj hal gF os ids rd sb hE
 refine wpI_sound (by kernel_rfl) ?_
 by_cases hlt : j < N
 ·have c5 : decide ((j : Int) < (N : Int)) = true := decide_eq_true (by omega)
  have w2 : IntKind.i64.wrap (((j : Nat) : Int) + 1) = ((j + 1 : Nat) : Int) := by rw [Go.IntWalk.i64_in _ (by omega)]; omega
  obtain ⟨mi, hmi⟩ : ∃ mi, N - j = mi + 1 := ⟨N - j - 1, by omega⟩
  rw [hmi] at hE
  simp only [wpA_skip, wpA_region, wpA_seq, wpA_cond, wpA_block, condI_true, seqQ_normal, goI_out, goI_ops, opsA_nil, opsA_cons, stepA_move, stepA_binOp, stepA_call, thenV_some, eval_tmp, put_some, aBin_lss, Nat.reduceEqDiff, reduceCtorEq, List.map_cons, List.map_nil, if_true, if_false, f0, f33, f34, c5]
  refine callI_of cal58 (pReadV i b h1 (hg.keep kk) rd (sb.lt hb) (by have := sb.2; omega)) fun r H4 ⟨e4, k4, d4⟩ => ?_
  subst e4
  have n4 := k4.n
  have gz4 := (k4.get h.n (by omega) (by omega)).trans gz
  have gF4 := (k4.get F hFn (by omega)).trans gF
  have kk4 := kk.trans' k4
  have os4 := os.keep k4 (fun q hq hh => by have := ids q hq; omega)
  cases hv : rdV b with
  | error c =>
   rw [goVs_error hv] at hE
   have hc0 : ((c : Int) != 0) = true := by have := rdV_err hv; simp; omega
   have hG : rdT2 P N b2 = .error c := by unfold rdT2; rw [hE]
   have hone : (V.agg (encX zeroX)).cells = some (encX zeroX) := rfl
   have hset : setC (some 6) (AObj.cells [V.int .i64 0, .snil, .int .i64 0, .int .i64 0, .snil, .int .i64 0] 90 none) 0 (encX zeroX) = some (.cells (encX zeroX) 90 none) := by
    rw [setC_row (n := 6) (encX_len _) (encX_one _), if_pos (by decide), encX_eq]; rfl
   have kZ : Keep H4 (H4.push (.cells (encX zeroX) 90 none)) none_ := Keep.push _ _ _
   have gz5 := (kZ.get h.n (by omega) (by simp [none_])).trans gz4
   simp only [vV]
   simp only [wpA_region, wpA_seq, wpA_cond, wpA_ret, condI_true, seqQ_normal, seqQ_ret, blkQ_ret, endI_mk, goE, andThen_ret, goI_out, goI_ops, opsA_nil, opsA_cons, stepA_move, stepA_assign, stepA_alloc, stepA_build, stepA_store, stepA_binOp, stepA_extract, thenV_some, thenH_some, thenS_some, extV_zero, extV_succ, eval_tmp, eval_const, put_some, put_none, aBin_neq, absV_int, cells_agg, aLoad_eq, loadGo_row, aPlace_ptr, dropC_cells, aStore_eq, storeGo_ptr, aAlloc_eq, aBuild_go, aFill_nil, buildGo_struct, get_push_new, get_set_same, set_push, Nat.reduceEqDiff, Nat.reduceAdd, List.map_nil, Option.map_some, Nat.zero_add, Nat.zero_le, List.length_cons, List.length_nil, List.drop_zero, List.take_succ_cons, List.take_nil, if_true, if_false, Nat.le_refl, lt_45, pl_45, zc_45, zc_90, zt_45, zt_90, f2, hone, hset, hc0, gz5, stz, retA_ret, Tryz.results27, resultsC_2, resultA_tmp, resultA_cell, res2_some]
   rw [hG]
   exact hid_mk ⟨_, _, zeroC24 _ _, rfl, (kk4.trans' kZ.up).trans (Keep.set _ h.n _) fun q hq hh => by omega, fun p l b' hh => by cases hh⟩
  | ok y =>
   obtain ⟨A, b'⟩ := y
   have hE2 : goVs N b2 [] = goVs mi b' (acc ++ [A]) := by rw [hE]; conv => lhs; unfold goVs; rw [hv]
   obtain ⟨_, sA, _⟩ := rdV_sound (sb.lt hb) hv
   have rd4 := d4 A b' hv
   have hone : (V.agg (encX A)).cells = some (encX A) := rfl
   have hset : setC (some 6) (AObj.cells [V.int .i64 0, .snil, .int .i64 0, .int .i64 0, .snil, .int .i64 0] 90 none) 0 (encX A) = some (.cells (encX A) 90 none) := by
    rw [setC_row (n := 6) (encX_len _) (encX_one _), if_pos (by decide), encX_eq]; rfl
   have hd0 : dropC (AObj.cells (encX A) 90 none) 0 = some (encX A) := by rw [encX_eq]; rfl
   have hld : loadGo (some (some 6)) (some (encX A)) = some (.agg (encX A)) := by rw [encX_eq]; rfl
   obtain ⟨H5, hH5⟩ : ∃ y, y = H4.push (.cells (encX A) 90 none) := ⟨_, rfl⟩
   have k5 : Keep H4 H5 none_ := by rw [hH5]; exact Keep.push _ _ _
   have n5 : H5.n = H4.n + 1 := by rw [hH5]; rfl
   have gA : H5.get H4.n = .cells (encX A) 90 none := by rw [hH5]; exact get_push_new
   have gz5 := (k5.get h.n (by omega) (by simp [none_])).trans gz4
   have gF5 := (k5.get F (by omega) (by simp [none_])).trans gF4
   obtain ⟨s', H6, ea, o6, k6, n6⟩ := app1X (os4.keepN k5) (by omega) A
   have hlit := litX1 H5 A
   have hn6 := k6.n
   have gz6 := (k6.get h.n (by omega) (fun hh => by have := ids h.n hh; omega)).trans gz5
   have gF6 := (k6.get F (by omega) (fun hh => by have := ids F hh; omega)).trans gF5
   have one_s : s'.one = true := by
    rcases o6 with ⟨rfl | rfl, _⟩ | ⟨_, _, _, _, _, rfl, _⟩ <;> rfl
   have cell_s : s'.cells = some [s'] := by
    rcases o6 with ⟨rfl | rfl, _⟩ | ⟨_, _, _, _, _, rfl, _⟩ <;> rfl
   have hsetF : setC (some 1) (AObj.cells [s, V.int .i64 (P : Int)] 45 none) 0 [s'] = some (.cells [s', .int .i64 (P : Int)] 45 none) := by rw [setC_one one_s]; rfl
   have ids' : ∀ q, idOf s' = some q → F < q := fun q hq => by
    rcases n6 with n6 | n6
    ·exact ids q (by rw [← n6]; exact hq)
    ·have := n6 q hq; omega
   have kS : Keep H6 (H6.set F (.cells [s', .int .i64 (P : Int)] 45 none)) (· = F) := Keep.set _ _ _
   have kk6 : Keep h H6 (· = i) := (kk4.trans' k5.up).trans k6 fun q hq hh => by have := ids q hh; omega
   have rd6 : IsRd H6 (.ptr i 0) i b' := IsRd.keep rd4 (k5.up.trans' k6) (fun hh => by have := ids i hh; omega)
   simp only [vV]
   simp only [wpA_skip, wpA_region, wpA_seq, wpA_cond, condI_false, seqQ_normal, goI_out, goI_ops, opsA_nil, opsA_cons, stepA_move, stepA_assign, stepA_alloc, stepA_load, stepA_store, stepA_binOp, stepA_fieldAddr, stepA_extract, thenV_some, thenH_some, thenS_some, extV_zero, extV_succ, eval_tmp, eval_const, put_some, put_none, aBin_neq, absV_int, aField_eq, fieldGo_ptr, aLoad_eq, aPlace_ptr, aStore_eq, storeGo_ptr, aAlloc_eq, get_push_new, set_push, bne_self_eq_false, Nat.reduceEqDiff, Option.map_some, Nat.add_zero, if_true, if_false, ft_45_0, lt_43, zc_90, zt_90, f7, hone, hset]
   rw [← hH5]
   clear hH5
   simp only [wpA_region, seqQ_normal, blkQ_normal, endI_mk, andThen_normal, goI_out, goI_ops, opsA_nil, opsA_cons, stepA_move, stepA_buildSlice, stepA_load, stepA_store, stepA_binOp, stepA_fieldAddr, stepA_append, thenV_some, thenH_some, thenS_some, eval_tmp, eval_const, put_some, put_none, aBin_add, absV_int, aField_eq, fieldGo_ptr, aLoad_eq, loadGo_one, aPlace_ptr, dropC_cells, aStore_eq, storeGo_ptr, Nat.reduceEqDiff, Nat.reduceAdd, List.map_cons, List.map_nil, Option.map_some, Nat.add_zero, Nat.zero_add, Nat.zero_le, List.length_cons, List.length_nil, List.drop_zero, if_true, if_false, ft_45_0, lt_90, zt_43, f7, f34, gF5, gA, hd0, hld, hlit, ea, gF6, cell_s, hsetF, w2]
   exact hid_mk ⟨(j + 1, s', acc ++ [A], b'), ⟨f0, f2, f7, f33, rfl, hlt, by simp [hal], (kS.get h.n (by omega) (by omega)).trans gz6, get_set_same, o6.keep kS (fun q hq hh => by have := ids' q hq; omega), ids', rd6.keep kS (by omega), sA.trans sb, kk6.trans kS fun q hq hh => by omega, by rw [set_n]; omega, by rw [show N - (j + 1) = mi by omega]; exact hE2⟩, by simp only; omega⟩
 ·have c5 : decide ((j : Int) < (N : Int)) = false := decide_eq_false (by omega)
  rw [show N - j = 0 by omega, goVs] at hE
  have hG : rdT2 P N b2 = .ok (P, acc, b) := by unfold rdT2; rw [hE]
  have one_s : s.one = true := by
   rcases os with ⟨rfl | rfl, _⟩ | ⟨_, _, _, _, _, rfl, _⟩ <;> rfl
  have stF : setC (some 2) (AObj.cells [V.snil, .int .i64 0] 45 none) 0 [s, .int .i64 (P : Int)] = some (.cells [s, .int .i64 (P : Int)] 45 none) :=
   (setC_row (n := 2) (vs := [s, V.int .i64 (P : Int)]) rfl (by simp only [all_cons, all_nil, one_int, one_s, Bool.and_self])).trans rfl
  have kS : Keep h1 (h1.set h.n (.cells [s, .int .i64 (P : Int)] 45 none)) (· = h.n) := Keep.set _ _ _
  have os2 := os.keep kS fun q hq hh => by have := ids q hq; omega
  obtain ⟨h9, c9, k9⟩ := castT (P : Int) os2
  simp only [wpA_region, wpA_seq, wpA_cond, wpA_exit, wpA_ret, condI_false, seqQ_normal, seqQ_exit, blkQ_exit, endI_mk, goE, andThen_exit, goI_out, goI_ops, opsA_nil, opsA_cons, stepA_assign, stepA_load, stepA_store, stepA_binOp, thenV_some, thenS_some, eval_tmp, eval_const, put_some, put_none, aBin_lss, absV_int, cells_agg, aLoad_eq, loadGo_row, aPlace_ptr, dropC_cells, aStore_eq, storeGo_ptr, get_set_same, Nat.reduceEqDiff, Nat.reduceAdd, Option.map_some, Nat.zero_add, Nat.zero_le, List.length_cons, List.length_nil, List.drop_zero, List.take_succ_cons, List.take_nil, if_true, if_false, Nat.le_refl, lt_45, zt_45, f2, f7, f33, f34, c5, gF, gz, stF, retA_ret, Tryz.results27, resultsC_2, resultA_tmp, resultA_cell, res2_some]
  rw [hG]
  refine hid_mk ⟨_, h9, Cast.tuple (CastL.cons c9 (CastL.refl _ _)), rfl, (kk.trans kS fun q hq hh => by omega).trans k9 fun q hq hh => by have := ids q hh; omega, fun p l b' hh => ?_⟩
  cases hh
  exact (rd.keep kS (by omega)).keep k9 (fun hh => by have := ids i hh; omega)
end Go.Proofs.YtfcjehlhoebmnaaGreatDoor.Pk
namespace Go.Proofs.YtfcjehlhoebmnaaGreatDoor.Pk
open Go Go.Proofs Go.Proofs.YtfcjehlhoebmnaaGreatDoor.Ab
set_option linter.unusedVariables false
set_option linter.unusedSimpArgs false
theorem goVs_sound : ∀ (m : Nat) (bs : List Nat) (acc : List Vx), (∀ b ∈ bs, b < 256) → ∀ l r, goVs m bs acc = .ok (l, r) → ∃ l', l = acc ++ l' ∧ l'.length = m ∧ (∀ v ∈ l', OkX v) ∧ Sub r bs ∧ ((∀ v ∈ l', v.kind < 1000) → bs = l'.flatMap encV ++ r)
 | 0, bs, acc, hb, l, r, h => by
  unfold goVs at h
  cases h
  exact ⟨[], by simp, rfl, by simp, Sub.rfl' _, fun _ => rfl⟩
 | m + 1, bs, acc, hb, l, r, h => by
  unfold goVs at h
  split at h
  ·cases h
  ·rename_i v b' hv
   obtain ⟨ok, sb, by_⟩ := rdV_sound hb hv
   obtain ⟨l', q1, q2, q3, q4, q5⟩ := goVs_sound m b' (acc ++ [v]) (sb.lt hb) l r h
   refine ⟨v :: l', by rw [q1]; simp, by simp [q2], fun u hu => ?_, q4.trans sb, fun hk => ?_⟩
   ·rcases List.mem_cons.1 hu with rfl | hu
    ·exact ok
    ·exact q3 u hu
   ·rw [by_ (hk v (by simp)), q5 fun u hu => hk u (by simp [hu])]
    simp
theorem goVs_app : ∀ (l : List Vx) (acc : List Vx) (r : List Nat), (∀ v ∈ l, ∀ r, rdV (encV v ++ r) = .ok (v, r)) → goVs l.length (l.flatMap encV ++ r) acc = .ok (acc ++ l, r)
 | [], acc, r, h => by simp [goVs]
 | v :: l, acc, r, h => by
  rw [List.length_cons, List.flatMap_cons, List.append_assoc]
  unfold goVs
  rw [h v (by simp)]
  simp only
  rw [goVs_app l (acc ++ [v]) r fun u hu => h u (by simp [hu])]
  simp
theorem rdT_sound {bs : List Nat} (hb : ∀ b ∈ bs, b < 256) {p : Nat} {l : List Vx} {r : List Nat} (h : rdT bs = .ok (p, l, r)) : OkT l ∧ p ≤ 1000 ∧ (p < 1000 → (∀ v ∈ l, v.kind < 1000) → bs = encT (p : Int) l ++ r) := by
 unfold rdT at h
 split at h
 ·cases h
 rename_i e1
 obtain ⟨d1, l1⟩ := dec_ok hb (by omega)
 have s1 := Sub.drop bs (dec bs 0 0).2.1
 generalize (dec bs 0 0).1 = P at *
 generalize bs.drop (dec bs 0 0).2.1 = b1 at *
 unfold rdT1 at h
 split at h
 ·cases h
 rename_i e2
 obtain ⟨d2, l2⟩ := dec_ok (s1.lt hb) (by omega)
 have s2 := (Sub.drop b1 (dec b1 0 0).2.1).trans s1
 generalize (dec b1 0 0).1 = N at *
 generalize b1.drop (dec b1 0 0).2.1 = b2 at *
 split at h
 ·cases h
 rename_i e3
 unfold rdT2 at h
 split at h
 ·cases h
 rename_i l0 r0 hv
 cases h
 obtain ⟨l', q1, q2, q3, q4, q5⟩ := goVs_sound _ b2 [] (s2.lt hb) _ _ hv
 rw [List.nil_append] at q1
 subst q1
 refine ⟨⟨by omega, q3⟩, by omega, fun hp hk => ?_⟩
 have h1 : min P 1000 = P := by omega
 have h2 : l.length = N := by omega
 unfold encT
 rw [h1, h2, Int.toNat_natCast]
 conv => lhs; rw [d1, d2, q5 hk]
 simp only [List.append_assoc]
theorem has_e {v : Vx} (hk : 1 ≤ v.kind ∧ v.kind ≤ 10) (h : hasX v = true) : v.e = .mk 0 0 [] ∨ mayX v.e = true := by
 unfold hasX meetsX at h
 simp only [Bool.and_eq_true] at h
 have h2 := h.2.1
 unfold exprX at h2
 split at h2
 ·left
  simp only [Bool.and_eq_true, beq_iff_eq, List.isEmpty_iff] at h2
  obtain ⟨k, fr, ⟨o, n, ks⟩, m⟩ := v
  simp only [Ex.op, Ex.num, Ex.ks] at h2
  obtain ⟨rfl, rfl, rfl⟩ := h2
  rfl
 ·right
  simp only [Bool.and_eq_true] at h2
  exact h2.1
theorem rdT_app {P : Nat} {l : List Vx} (hok : OkT l) (h : (chkT (P : Int) l).2 = 0) : rdT (encT (P : Int) l) = .ok (P, l, []) := by
 obtain ⟨hp, hl1, hl2, hall⟩ := chk_all h
 unfold encT
 rw [Int.toNat_natCast, List.append_assoc]
 unfold rdT
 rw [dec_app P (by omega)]
 simp only [List.drop_left]
 rw [if_neg (by simp), Nat.min_eq_left (by omega)]
 unfold rdT1
 rw [dec_app l.length (by omega)]
 simp only [List.drop_left]
 rw [if_neg (by simp), Nat.min_eq_left (by omega), if_neg (by omega)]
 unfold rdT2
 have := goVs_app l [] [] fun v hv r => rdV_app (hok.2 v hv) (hall v hv).1 (hall v hv).2.1 (hall v hv).2.2.1 (has_e (hall v hv).1 (hall v hv).2.2.2) r
 rw [List.append_nil] at this
 rw [this]
 all_goals rfl
theorem rdT_err {bs : List Nat} {c : Nat} (h : rdT bs = .error c) : c ≠ 0 := by
 have hgo : ∀ (m : Nat) (b : List Nat) (acc : List Vx) (c : Nat), goVs m b acc = .error c → c ≠ 0 := by
  intro m
  induction m with
  | zero => intro b acc c h; unfold goVs at h; cases h
  | succ m ih =>
   intro b acc c h
   unfold goVs at h
   split at h
   ·rename_i hv; cases h; exact rdV_err hv
   ·exact ih _ _ _ h
 unfold rdT at h
 split at h
 ·injection h with h; omega
 unfold rdT1 at h
 split at h
 ·injection h with h; omega
 split at h
 ·injection h with h; omega
 unfold rdT2 at h
 split at h
 ·rename_i hv; cases h; exact hgo _ _ _ _ hv
 ·cases h
def toR (bs : List Nat) : (Int × List Vx) × Int := match rdT bs with
 | .error c => ((0, []), (c : Int))
 | .ok (p, l, r) => if r.length ≠ 0 then ((0, []), 5) else if (chkT (p : Int) l).2 ≠ 0 then ((0, []), (chkT (p : Int) l).2) else (((p : Int), l), 0)
def toV (bs : List Nat) : V := .tuple [.agg (topE (toR bs).1.2 (toR bs).1.1), .int .i64 (toR bs).2]
theorem toV_clo (bs : List Nat) : Clo (toV bs) := Clo.tuple (CloL.cons (Clo.agg (topE_clo _ _)) (CloL.cons (Clo.int _ _) CloL.nil))
theorem okT0 : OkT [] := ⟨by simp, by simp⟩
theorem toR_ok {bs : List Nat} (hb : ∀ b ∈ bs, b < 256) : OkT (toR bs).1.2 := by
 unfold toR
 cases h : rdT bs with
 | error c => exact okT0
 | ok y =>
  obtain ⟨p, l, r⟩ := y
  simp only
  split
  ·exact okT0
  ·split
   ·exact okT0
   ·exact (rdT_sound hb h).1
theorem toR_back {bs : List Nat} (hb : ∀ b ∈ bs, b < 256) (h : (toR bs).2 = 0) : (chkT (toR bs).1.1 (toR bs).1.2).2 = 0 ∧ bytT (toR bs).1.1 (toR bs).1.2 = bs := by
 unfold toR at h ⊢
 cases hr : rdT bs with
 | error c =>
  rw [hr] at h
  have := rdT_err hr
  simp only at h
  omega
 | ok y =>
  obtain ⟨p, l, r⟩ := y
  rw [hr] at h
  simp only at h ⊢
  split at h
  ·cases h
  rename_i h1
  rw [if_neg h1]
  split at h
  ·rename_i h2; exact absurd h h2
  rename_i h2
  rw [if_neg h2]
  have h0 : (chkT (p : Int) l).2 = 0 := by omega
  obtain ⟨hp, _, _, hall⟩ := chk_all h0
  obtain ⟨_, _, hby⟩ := rdT_sound hb hr
  refine ⟨h0, ?_⟩
  unfold bytT
  rw [if_pos h0]
  have hr0 : r = [] := List.eq_nil_of_length_eq_zero (by omega)
  have := hby (by omega) fun v hv => by have := (hall v hv).1; omega
  rw [this, hr0, List.append_nil]
theorem toR_enc {p : Int} {l : List Vx} (hok : OkT l) (h : (chkT p l).2 = 0) : toR (bytT p l) = ((p, l), 0) := by
 obtain ⟨hp, _, _, hall⟩ := chk_all h
 obtain ⟨P, rfl⟩ := Int.eq_ofNat_of_zero_le (show 0 ≤ p by omega)
 unfold bytT
 rw [if_pos h]
 unfold toR
 rw [rdT_app hok h]
 simp only [List.length_nil]
 rw [if_neg (by simp), if_neg (by omega)]
end Go.Proofs.YtfcjehlhoebmnaaGreatDoor.Pk
namespace Go.Proofs.YtfcjehlhoebmnaaGreatDoor.Pk
open Go Go.Proofs Go.Proofs.YtfcjehlhoebmnaaGreatDoor.Ab
set_option linter.unusedVariables false
set_option linter.unusedSimpArgs false
set_option maxHeartbeats 1000000 in
set_option maxRecDepth 10000 in
theorem pTOf (x : V) (bs : List Nat) (h : AHeap) (hg : TG h) (rd : Rd h x bs) (hb : ∀ b ∈ bs, b < 256) (hl : bs.length ≤ 2 ^ 47) : Pure Tryz.prog 11 [x] h (toV bs) := by
 refine Pure.of (toV_clo bs) ?_
 refine SCalls.enterI (c := _) Tryz.func11 rfl (by kernel_rfl) (by simp) ?_
 obtain ⟨H0, hH0⟩ : ∃ y, y = h.push (.cells [V.snil, .int .i64 0] 45 none) := ⟨_, rfl⟩
 have k0 : Keep h H0 none_ := by rw [hH0]; exact Keep.push _ _ _
 have g0 : H0.get h.n = .cells [V.snil, .int .i64 0] 45 none := by rw [hH0]; exact get_push_new
 have n0 : H0.n = h.n + 1 := by rw [hH0]; rfl
 have stz : setC (some 2) (AObj.cells [V.snil, .int .i64 0] 45 none) 0 [V.snil, .int .i64 0] = some (.cells [V.snil, .int .i64 0] 45 none) := rfl
 have stT : ∀ (l : List Vx) (p : Int), setC (some 2) (AObj.cells [V.snil, .int .i64 0] 45 none) 0 [.imm l.length (l.flatMap encX), .int .i64 p] = some (.cells [.imm l.length (l.flatMap encX), .int .i64 p] 45 none) := fun _ _ => rfl
 have hcT : ∀ (l : List Vx) (p : Int), (V.agg (topE l p)).cells = some [.imm l.length (l.flatMap encX), .int .i64 p] := fun _ _ => rfl
 have hag : ∀ (l : List Vx) (p : Int), V.agg [.imm l.length (l.flatMap encX), .int .i64 p] = .agg (topE l p) := fun _ _ => rfl
 simp only [wpA_region, wpA_seq, seqQ_normal, goI_out, goI_ops, opsA_nil, opsA_cons, stepA_move, stepA_assign, stepA_alloc, stepA_call, thenH_some, eval_tmp, eval_const, put_some, enterF_zero, enterF_succ, absV_int, aAlloc_eq, Nat.reduceEqDiff, reduceCtorEq, List.map_cons, List.map_nil, Option.map_some, if_true, if_false, zc_45]
 rw [← hH0]
 clear hH0
 refine callI_of cal26 (From x bs H0 (rd.keep k0) (by omega)) fun r H1 ⟨e1, r1, k1⟩ => ?_
 subst e1
 have n1 : H0.n + 1 ≤ H1.n := r1.2.1
 have g1 := (k1.get h.n (by omega) (by simp [none_])).trans g0
 have kk1 := k0.trans' k1
 simp only [wpA_region, wpA_seq, seqQ_normal, goI_out, goI_ops, opsA_nil, opsA_cons, stepA_move, stepA_assign, stepA_call, eval_tmp, put_some, enterF_succ, Nat.reduceEqDiff, List.map_cons, List.map_nil, if_true, if_false]
 refine callI_of cal27 (pRead H0.n bs H1 (hg.1.keep kk1) r1 hb hl) fun r H2 ⟨e2, k2, d2⟩ => ?_
 subst e2
 have n2 := k2.n
 have g2 := (k2.get h.n (by omega) (by omega)).trans g1
 have kk2 : Keep h H2 none_ := kk1.trans k2 fun q hq hh => by omega
 cases hx : rdT bs with
 | error c =>
  have hc0 := rdT_err hx
  have c1 : (((c : Nat) : Int) != 0) = true := by simp; omega
  have hV : toV bs = .tuple [.agg (topE [] 0), .int .i64 (c : Nat)] := by unfold toV toR; rw [hx]
  rw [hV]
  have kZ : Keep H2 (H2.push (.cells [.imm 0 [], .int .i64 0] 45 none)) none_ := Keep.push _ _ _
  have g3 := (kZ.get h.n (by omega) (by simp [none_])).trans g2
  have hc0 : (V.agg (topE [] 0)).cells = some [.imm 0 [], .int .i64 0] := rfl
  have stT0 : setC (some 2) (AObj.cells [V.snil, .int .i64 0] 45 none) 0 [.imm 0 [], .int .i64 0] = some (.cells [.imm 0 [], .int .i64 0] 45 none) := rfl
  simp only [tV]
  simp only [wpA_region, wpA_seq, wpA_cond, wpA_ret, condI_true, seqQ_normal, seqQ_ret, endI_mk, goI_out, goI_ops, opsA_nil, opsA_cons, stepA_move, stepA_assign, stepA_alloc, stepA_build, stepA_store, stepA_binOp, stepA_extract, thenV_some, thenH_some, thenS_some, extV_zero, extV_succ, eval_tmp, eval_const, put_some, put_none, enterF_succ, aBin_neq, absV_int, cells_agg, aLoad_eq, loadGo_row, aPlace_ptr, dropC_cells, aStore_eq, storeGo_ptr, aAlloc_eq, aBuild_go, aFill_nil, buildGo_struct, get_push_new, get_set_same, set_push, Nat.reduceEqDiff, Nat.reduceAdd, List.map_nil, Option.map_some, Nat.zero_add, Nat.zero_le, List.length_cons, List.length_nil, List.drop_zero, List.take_succ_cons, List.take_nil, if_true, if_false, Nat.le_refl, lt_45, pl_45, zc_45, zt_45, hc0, stT0, c1, g3, stz, retA_ret, Tryz.results11, resultsC_2, resultA_tmp, resultA_cell, res2_some]
  exact hid_mk ⟨_, zeroC24 _ c, (kk2.trans' kZ).trans (Keep.set _ h.n _) fun q hq hh => by omega⟩
 | ok y =>
  obtain ⟨p, l, r⟩ := y
  have rd2 := d2 p l r hx
  obtain ⟨okl, _, _⟩ := rdT_sound hb hx
  have z0 : ((0 : Int) != 0) = false := rfl
  obtain ⟨H3, hH3⟩ : ∃ y, y = H2.push (.cells [.imm l.length (l.flatMap encX), .int .i64 (p : Int)] 45 none) := ⟨_, rfl⟩
  have k3 : Keep H2 H3 none_ := by rw [hH3]; exact Keep.push _ _ _
  have g33 : H3.get H2.n = .cells [.imm l.length (l.flatMap encX), .int .i64 (p : Int)] 45 none := by rw [hH3]; exact get_push_new
  have g3 := (k3.get h.n (by omega) (by simp [none_])).trans g2
  have rd3 := IsRd.keep rd2 k3 (by simp [none_])
  have kk3 := kk2.trans' k3
  have n3 : H3.n = H2.n + 1 := by rw [hH3]; rfl
  simp only [tV]
  simp only [wpA_skip, wpA_region, wpA_seq, wpA_cond, condI_false, seqQ_normal, goI_out, goI_ops, opsA_nil, opsA_cons, stepA_move, stepA_assign, stepA_alloc, stepA_store, stepA_binOp, stepA_extract, stepA_call, thenV_some, thenH_some, thenS_some, extV_zero, extV_succ, eval_tmp, eval_const, put_some, put_none, enterF_succ, aBin_neq, absV_int, aStore_eq, storeGo_ptr, aAlloc_eq, get_push_new, set_push, bne_self_eq_false, Nat.reduceEqDiff, List.map_cons, List.map_nil, Option.map_some, if_true, if_false, zc_45, zt_45, hcT, stT]
  rw [← hH3]
  clear hH3
  refine callI_pure cal28 (Left H3 _ _ r rd3) ?_
  by_cases hr0 : r.length = 0
  rotate_left
  ·have c1 : decide ((0 : Int) < ((r.length : Nat) : Int)) = true := decide_eq_true (by omega)
   have hV : toV bs = .tuple [.agg (topE [] 0), .int .i64 (5 : Nat)] := by unfold toV toR; rw [hx]; simp only; rw [if_pos hr0]; rfl
   rw [hV]
   simp only [wpA_region, wpA_seq, wpA_cond, wpA_ret, condI_true, seqQ_normal, seqQ_ret, endI_mk, goI_out, goI_ops, opsA_nil, opsA_cons, stepA_assign, stepA_build, stepA_store, stepA_binOp, thenV_some, thenS_some, eval_tmp, eval_const, put_some, put_none, enterF_succ, aBin_gtr, absV_int, cells_agg, aLoad_eq, loadGo_row, aPlace_ptr, dropC_cells, aStore_eq, storeGo_ptr, aBuild_go, aFill_nil, buildGo_struct, get_set_same, Nat.reduceEqDiff, Nat.reduceAdd, List.map_nil, Option.map_some, Nat.zero_add, Nat.zero_le, List.length_cons, List.length_nil, List.drop_zero, List.take_succ_cons, List.take_nil, if_true, if_false, Nat.le_refl, lt_45, pl_45, zc_45, zt_45, c1, g3, stz, retA_ret, Tryz.results11, resultsC_2, resultA_tmp, resultA_cell, res2_some]
   exact hid_mk ⟨_, zeroC24 _ 5, kk3.trans (Keep.set _ h.n _) fun q hq hh => by omega⟩
  have c1 : decide ((0 : Int) < ((r.length : Nat) : Int)) = false := decide_eq_false (by omega)
  simp only [wpA_skip, wpA_region, wpA_seq, wpA_cond, condI_false, seqQ_normal, goI_out, goI_ops, opsA_nil, opsA_cons, stepA_load, stepA_binOp, stepA_call, thenV_some, eval_tmp, eval_const, put_some, put_none, enterF_succ, aBin_gtr, absV_int, aLoad_eq, loadGo_row, aPlace_ptr, dropC_cells, Nat.reduceEqDiff, Nat.reduceAdd, List.map_cons, List.map_nil, Nat.zero_add, Nat.zero_le, List.length_cons, List.length_nil, List.drop_zero, List.take_succ_cons, List.take_nil, if_true, if_false, Nat.le_refl, lt_45, c1, g33, hag]
  refine callI_pure cal12 (pCheck l p okl H3 (hg.keep kk3)) ?_
  by_cases h0 : (chkT (p : Int) l).2 = 0
  ·have c2 : ((chkT (p : Int) l).2 != 0) = false := by simpa using h0
   have hV : toV bs = .tuple [.agg (topE l (p : Int)), .int .i64 0] := by unfold toV toR; rw [hx]; simp only; rw [if_neg (by omega), if_neg (by omega)]
   rw [hV]
   simp only [wpA_skip, wpA_region, wpA_seq, wpA_cond, wpA_ret, condI_false, seqQ_normal, endI_mk, goI_out, goI_ops, opsA_nil, opsA_cons, stepA_move, stepA_assign, stepA_load, stepA_store, stepA_binOp, stepA_extract, thenV_some, thenS_some, extV_zero, extV_succ, eval_tmp, eval_const, put_some, put_none, enterF_succ, aBin_neq, absV_int, cells_agg, aLoad_eq, loadGo_row, aPlace_ptr, dropC_cells, aStore_eq, storeGo_ptr, get_set_same, Nat.reduceEqDiff, Nat.reduceAdd, Option.map_some, Nat.zero_add, Nat.zero_le, List.length_cons, List.length_nil, List.drop_zero, List.take_succ_cons, List.take_nil, if_true, if_false, Nat.le_refl, lt_45, zt_45, chkA, c2, g33, g3, stT, retA_ret, Tryz.results11, resultsC_2, resultA_tmp, resultA_cell, res2_some]
   exact hid_mk ⟨_, Cast.refl _ _, kk3.trans (Keep.set _ h.n _) fun q hq hh => by omega⟩
  ·have c2 : ((chkT (p : Int) l).2 != 0) = true := by simpa using h0
   have hV : toV bs = .tuple [.agg (topE [] 0), .int .i64 (chkT (p : Int) l).2] := by unfold toV toR; rw [hx]; simp only; rw [if_neg (by omega), if_pos h0]
   rw [hV]
   simp only [wpA_region, wpA_seq, wpA_cond, wpA_ret, condI_true, seqQ_normal, seqQ_ret, endI_mk, goI_out, goI_ops, opsA_nil, opsA_cons, stepA_move, stepA_assign, stepA_build, stepA_store, stepA_binOp, stepA_extract, thenV_some, thenS_some, extV_zero, extV_succ, eval_tmp, eval_const, put_some, put_none, enterF_succ, aBin_neq, absV_int, cells_agg, aLoad_eq, loadGo_row, aPlace_ptr, dropC_cells, aStore_eq, storeGo_ptr, aBuild_go, aFill_nil, buildGo_struct, get_set_same, Nat.reduceEqDiff, Nat.reduceAdd, List.map_nil, Option.map_some, Nat.zero_add, Nat.zero_le, List.length_cons, List.length_nil, List.drop_zero, List.take_succ_cons, List.take_nil, if_true, if_false, Nat.le_refl, lt_45, pl_45, zc_45, zt_45, chkA, c2, g3, stz, retA_ret, Tryz.results11, resultsC_2, resultA_tmp, resultA_cell, res2_some]
   exact hid_mk ⟨_, Cast.tuple (CastL.cons (Pk.Cast.agg (CastL.cons (Cast.nil0 _) (CastL.refl _ _))) (CastL.refl _ _)), kk3.trans (Keep.set _ h.n _) fun q hq hh => by omega⟩
end Go.Proofs.YtfcjehlhoebmnaaGreatDoor.Pk
