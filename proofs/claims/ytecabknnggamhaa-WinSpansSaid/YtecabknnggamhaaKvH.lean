/-
  What functions of the program do, told of abstract states. Conditions: as each theorem says.
-/
import Derived.Test.YtecabknnggamhaaKvG
namespace Go.Proofs.Ytecabknnggamhaa.Pk
open Go Go.Proofs Go.Proofs.Ytecabknnggamhaa.Ab
set_option linter.unusedVariables false
set_option linter.unusedSimpArgs false

theorem has_put {l : List Pr} (hs : Srt l) (k v x : Int) : has (put l k v) x = (decide (x = k) || has l x) := by
  unfold has
  rw [look_put l k v x hs]
  by_cases h : x = k <;> simp [h]
theorem srt_putL {l : List Pr} (hs : Srt l) (room k v : Int) : Srt (putL room l k v) := by
  unfold putL; split
  · exact hs
  · exact srt_put hs k v
theorem aff0 : (V.agg (chgE zC)) = .agg (chgE zC) := rfl
theorem chg_cells (c : Chg) : (V.agg (chgE c)).cells = some (chgE c) := rfl
theorem chg_store (c : Chg) : setC (some 5) (AObj.cells [V.int .i64 0, V.int .i64 0, V.int .i64 0, V.int .i64 0, V.bool false] 30 none) 0 (chgE c) = some (.cells (chgE c) 30 none) := rfl
set_option maxHeartbeats 2000000 in
set_option maxRecDepth 10000 in
theorem kvFull (room many : Nat) (hr : room < 256) (hm : many < 256) (h : AHeap) : SCalls Try.prog 5 [.int .u8 (room : Int), .int .u8 (many : Int)] h (fun r h' => r = .bool true) := by
  refine SCalls.enterI (c := _) Try.func5 rfl (by kernel_rfl) (by simp) ?_
  simp only [wpA_region, wpA_seq, seqQ_normal, goI_out, goI_ops, opsA_nil, opsA_cons, stepA_assign, stepA_call, eval_const, absV_bool, List.map_nil]
  refine callI_pure cal15 (pShown12 h) ?_
  have w0 := nat_i64 (n := room) (by omega)
  have w1 : IntKind.i64.wrap (1 + (room : Int)) = ((room + 1 : Nat) : Int) := by rw [Go.IntWalk.i64_in _ (by omega)]; omega
  have wm := nat_i64 (n := many) (by omega)
  simp only [wpA_region, wpA_seq, seqQ_normal, goI_out, goI_ops, opsA_nil, opsA_cons, stepA_move, stepA_assign, stepA_binOp, stepA_convert, stepA_call, thenV_some, eval_tmp, eval_const, put_some, enterF_zero, enterF_succ, aBin_add, absV_int, Nat.reduceEqDiff, reduceCtorEq, List.map_cons, List.map_nil, if_true, if_false, aConv_int it_5 it_3, w0, w1]
  refine callI_of cal16 (kvNew h ((room + 1 : Nat) : Int) (by omega) (by omega)) fun r h1 ⟨e1, k1, _⟩ => ?_
  subst e1
  generalize h.n = i at k1
  have cc := chg_cells
  have st := chg_store
  simp only [wpA_skip, wpA_region, wpA_seq, wpA_cond, wpA_block, wpA_loop, condI_false, seqQ_normal, goI_out, goI_ops, opsA_nil, opsA_cons, opsA_guardS, gvI_same, slotAt_zero, slotAt_succ, stepA_move, stepA_assign, stepA_pick, stepA_binOp, stepA_extract, thenV_some, pickV_false, extV_zero, extV_succ, eval_tmp, eval_const, put_some, enterF_succ, aBin_neq, ptr_nil_eql, absV_int, absV_bool, absV_pnil, bne_self_eq_false, Nat.reduceEqDiff, if_true, if_false, kt_24]
  refine SWp.loopG (α := Nat × V × List Pr) (fun x f h' => f 1 = .int .u8 (many : Nat) ∧ f 5 = .bool true ∧ f 6 = .int .i64 ((room + 1 : Nat) : Int) ∧ f 7 = .ptr i 0 ∧ f 9 = .int .i64 (x.1 : Nat) ∧ x.1 ≤ many ∧
      IsKv h' i x.2.1 ((room + 1 : Nat) : Int) x.2.2 ∧ x.2.2.length = min x.1 (room + 1) ∧ ∀ k, has x.2.2 k = decide (0 ≤ k ∧ k < ((min x.1 (room + 1) : Nat) : Int))) (fun x => many - x.1) (0, .snil, [])
    ⟨rfl, rfl, rfl, rfl, rfl, Nat.zero_le _, k1, by simp, fun k => ?_⟩ ?_
  · simp only [has, look, Option.isSome_none]
    symm
    simp only [decide_eq_false_iff_not]
    omega
  rintro ⟨t, v, l⟩ f h' ⟨f1, f5, f6, f7, f9, ht, kk, hl, hh⟩
  simp only at f9 ht kk hl hh
  refine wpI_sound (by kernel_rfl) ?_
  by_cases hlt : t < many
  · have d1 : decide ((t : Int) < (many : Int)) = true := decide_eq_true (by omega)
    have hw := inc64 hlt (by omega)
    simp only [wpA_skip, wpA_region, wpA_seq, wpA_cond, wpA_block, condI_true, seqQ_normal, goI_out, goI_ops, opsA_nil, opsA_cons, stepA_move, stepA_binOp, stepA_convert, stepA_call, thenV_some, eval_tmp, eval_const, put_some, aBin_lss, absV_int, Nat.reduceEqDiff, List.map_cons, List.map_nil, if_true, if_false, f1, f7, f9, aConv_int it_5 it_3, wm, d1]
    refine callI_of cal17 (kvPut h' i v _ t 1 l kk) fun r h2 ⟨v2, e2, k2, _, _⟩ => ?_
    subst e2
    have ht0 : has l (t : Int) = false := by rw [hh]; simp only [decide_eq_false_iff_not]; omega
    have hf : full ((room + 1 : Nat) : Int) l t = decide (room + 1 ≤ t) := by
      rw [full_no ht0, hl]
      by_cases hc : room + 1 ≤ t
      · rw [decide_eq_true hc]; exact decide_eq_true (by omega)
      · rw [decide_eq_false hc]; exact decide_eq_false (by omega)
    have hE : putE ((room + 1 : Nat) : Int) l t = if room + 1 ≤ t then 3 else 0 := by rw [putE, hf]; by_cases hc : room + 1 ≤ t <;> simp [hc]
    have hL : putL ((room + 1 : Nat) : Int) l t 1 = if room + 1 ≤ t then l else put l t 1 := by rw [putL, hf]; by_cases hc : room + 1 ≤ t <;> simp [hc]
    have hh2 : ∀ k, has (putL ((room + 1 : Nat) : Int) l t 1) k = decide (0 ≤ k ∧ k < ((min (t + 1) (room + 1) : Nat) : Int)) := fun k => by
      rw [hL]
      by_cases hc : room + 1 ≤ t
      · rw [if_pos hc, hh, decide_eq_decide]; omega
      · rw [if_neg hc, has_put kk.srt, hh]
        rw [Bool.eq_iff_iff]
        simp only [Bool.or_eq_true, decide_eq_true_eq]
        omega
    have hl2 : (putL ((room + 1 : Nat) : Int) l t 1).length = min (t + 1) (room + 1) := by
      rw [hL]
      by_cases hc : room + 1 ≤ t
      · rw [if_pos hc, hl]; omega
      · rw [if_neg hc, len_put kk.srt, ht0, if_neg (by simp), hl]; omega
    generalize putL ((room + 1 : Nat) : Int) l t 1 = l2 at k2 hh2 hl2
    simp only [wpA_region, wpA_seq, seqQ_normal, goI_out, goI_ops, opsA_nil, opsA_cons, stepA_move, stepA_assign, stepA_alloc, stepA_store, stepA_extract, stepA_call, thenV_some, thenH_some, thenS_some, extV_zero, extV_succ, eval_tmp, eval_const, put_some, put_none, absV_int, aStore_eq, storeGo_ptr, aAlloc_eq, get_push_new, set_push, Nat.reduceEqDiff, List.map_cons, List.map_nil, Option.map_some, if_true, if_false, zc_30, zt_30, f7, f9, cc, st]
    have k2' := k2.keepN (Keep.push h2 (.cells (chgE (putX ((room + 1 : Nat) : Int) l t 1)) 30 none) none_)
    refine callI_of cal17 (kvPut _ i v2 _ 0 t l2 k2') fun r h3 ⟨v3, e3, k3, _, _⟩ => ?_
    subst e3
    have h00 : has l2 0 = true := by rw [hh2]; exact decide_eq_true (by omega)
    have hE3 : putE ((room + 1 : Nat) : Int) l2 0 = 0 := by rw [putE, full_has h00]; rfl
    have hL3 : putL ((room + 1 : Nat) : Int) l2 0 t = put l2 0 t := by rw [putL, full_has h00]; rfl
    have hh3 : ∀ k, has (put l2 0 t) k = decide (0 ≤ k ∧ k < ((min (t + 1) (room + 1) : Nat) : Int)) := fun k => by
      rw [has_put k2.srt, hh2, Bool.eq_iff_iff]
      simp only [Bool.or_eq_true, decide_eq_true_eq]
      omega
    have hl3 : (put l2 0 t).length = min (t + 1) (room + 1) := by rw [len_put k2.srt, h00, if_pos rfl, hl2]
    rw [hL3] at k3
    have k3' := k3.keepN (Keep.push h3 (.cells (chgE (putX ((room + 1 : Nat) : Int) l2 0 t)) 30 none) none_)
    rw [hE, hE3]
    have dne : ∀ b : Bool, aBin Try.prog .neq 4 (.tmp 48) (.tmp 51) (.bool b) (.bool b) = some (.bool false) := fun b => by rw [aBin_bool_neq (by kernel_rfl)]; simp
    by_cases hc : room + 1 ≤ t
    · have d2 : decide ((t : Int) < ((room + 1 : Nat) : Int)) = false := decide_eq_false (by omega)
      simp only [wpA_skip, wpA_region, wpA_seq, wpA_cond, condI_false, seqQ_normal, blkQ_normal, endI_mk, andThen_normal, goI_out, goI_ops, opsA_nil, opsA_cons, opsA_guardS, gvI_same, slotAt_zero, slotAt_succ, stepA_move, stepA_assign, stepA_pick, stepA_alloc, stepA_store, stepA_binOp, stepA_extract, thenV_some, thenH_some, thenS_some, pickV_false, extV_zero, extV_succ, eval_tmp, eval_const, put_some, put_none, aBin_add, aBin_eql, aBin_neq, aBin_lss, absV_int, absV_bool, aStore_eq, storeGo_ptr, aAlloc_eq, get_push_new, set_push, Int.reduceBEq, bne_self_eq_false, Nat.reduceEqDiff, Option.map_some, if_true, if_false, zc_30, zt_30, f6, f9, cc, st, hc, d2, dne, hw]
      exact hid_mk ⟨(t + 1, v3, put l2 0 t), ⟨f1, f5, f6, f7, rfl, hlt, k3', hl3, hh3⟩, by simp only; omega⟩
    · have d2 : decide ((t : Int) < ((room + 1 : Nat) : Int)) = true := decide_eq_true (by omega)
      simp only [wpA_skip, wpA_region, wpA_seq, wpA_cond, condI_false, seqQ_normal, blkQ_normal, endI_mk, andThen_normal, goI_out, goI_ops, opsA_nil, opsA_cons, opsA_guardS, gvI_same, slotAt_zero, slotAt_succ, stepA_move, stepA_assign, stepA_pick, stepA_alloc, stepA_store, stepA_binOp, stepA_extract, thenV_some, thenH_some, thenS_some, pickV_false, extV_zero, extV_succ, eval_tmp, eval_const, put_some, put_none, aBin_add, aBin_eql, aBin_neq, aBin_lss, absV_int, absV_bool, aStore_eq, storeGo_ptr, aAlloc_eq, get_push_new, set_push, bne_self_eq_false, beq_self_eq_true, Nat.reduceEqDiff, Option.map_some, if_true, if_false, zc_30, zt_30, f6, f9, cc, st, hc, d2, dne, hw]
      exact hid_mk ⟨(t + 1, v3, put l2 0 t), ⟨f1, f5, f6, f7, rfl, hlt, k3', hl3, hh3⟩, by simp only; omega⟩
  · have d1 : decide ((t : Int) < (many : Int)) = false := decide_eq_false (by omega)
    obtain rfl : t = many := by omega
    simp only [wpA_region, wpA_seq, wpA_cond, wpA_exit, condI_false, seqQ_normal, seqQ_exit, blkQ_exit, endI_mk, goE, andThen_exit, goI_out, goI_ops, opsA_nil, opsA_cons, opsA_guardS, gvI_same, slotAt_zero, slotAt_succ, stepA_move, stepA_binOp, stepA_convert, stepA_call, thenV_some, eval_tmp, put_some, aBin_lss, Nat.reduceEqDiff, List.map_cons, List.map_nil, if_true, if_false, f1, f5, f7, f9, aConv_int it_5 it_3, wm, d1]
    refine callI_pure cal22 (kvLen h' i v _ l kk) ?_
    have hq : (((l.length : Nat) : Int) == min (((room + 1 : Nat) : Int)) ((t : Nat) : Int)) = true := by rw [hl]; simp; omega
    simp only [wpA_ret, seqQ_normal, endI_mk, goI_out, goI_ops, opsA_nil, opsA_cons, opsA_guardS, gvI_same, slotAt_zero, slotAt_succ, stepA_move, stepA_assign, stepA_pick, stepA_binOp, stepA_convert, stepA_min, thenV_some, pickV_true, eval_tmp, eval_const, put_some, aBin_eql, mmV_min, absV_bool, Nat.reduceEqDiff, if_true, if_false, f1, f6, aConv_int it_5 it_3, wm, hq, retA_ret, Try.results5, resultsA_1]
    exact hid_mk rfl
end Go.Proofs.Ytecabknnggamhaa.Pk
