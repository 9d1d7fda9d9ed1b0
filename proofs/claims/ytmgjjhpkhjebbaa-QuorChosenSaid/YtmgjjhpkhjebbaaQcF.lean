/-
  What functions of the program do, told of abstract states. Conditions: as each theorem says.
-/
import Derived.Test.YtmgjjhpkhjebbaaQcE
namespace Go.Proofs.Ytmgjjhpkhjebbaa.Pk
open Go Go.Proofs Go.Proofs.Ytmgjjhpkhjebbaa.Ab Go.Sort
set_option linter.unusedVariables false
set_option linter.unusedSimpArgs false
theorem litQ1 (h : AHeap) (i : Nat) : aBuildSlice Try.prog 37 1 [(0, .sl i 0 1 1)] h = some (.sl h.n 0 1 1, h.push (.cells [.sl i 0 1 1] 39 none)) := by
  rw [buildSlice_go sl_37]; rfl
theorem litQ0 (h : AHeap) : aBuildSlice Try.prog 37 1 [(0, .snil)] h = some (.sl h.n 0 1 1, h.push (.cells [.snil] 39 none)) := by
  rw [buildSlice_go sl_37]; rfl
theorem accOne (h : AHeap) (c : Cel) : Acc h (h.push (.cells (celE c) 36 none)) 36 3 (.sl h.n 0 1 1) ([c].flatMap celE) := by
  have oj : Own (h.push (.cells (celE c) 36 none)) 36 3 (.sl h.n 0 1 1) (celE c) := Own.fresh' (celE c) 1 (celE_len c) (by decide)
  exact ⟨by simpa using oj, Keep.push _ _ _, fun j hj => by simp only [idOf, Option.some.injEq] at hj; omega⟩
set_option maxHeartbeats 4000000 in
set_option maxRecDepth 10000 in
theorem quorChosen (n m : Int) (hn : 0 ≤ n ∧ n < 256) (hm : 0 ≤ m ∧ m < 256) (c o : Cel) (hc : c.by_.length ≤ 140737488355328) (ho : o.by_.length ≤ 140737488355328) (h : AHeap) :
    SCalls Try.prog 9 [.int .u8 n, .int .u8 m, .agg (celE c), .agg (celE o)] h (fun r h' => r = .bool true) := by
  obtain ⟨N, rfl⟩ := Int.eq_ofNat_of_zero_le hn.1
  obtain ⟨M, rfl⟩ := Int.eq_ofNat_of_zero_le hm.1
  obtain ⟨K, hK⟩ : ∃ K, K = 1 + N % 9 := ⟨_, rfl⟩
  obtain ⟨Q, hQ⟩ : ∃ Q, Q = M % (K + 1) := ⟨_, rfl⟩
  have hK9 : 1 ≤ K ∧ K ≤ 9 := by omega
  have hQK : Q ≤ K := by have := Nat.mod_lt M (show 0 < K + 1 by omega); omega
  have hr1 : (N : Int).tmod 9 = ((N % 9 : Nat) : Int) := by rw [Int.tmod_eq_emod_of_nonneg hn.1]; omega
  have w1 : IntKind.i64.wrap ((N % 9 : Nat) : Int) = ((N % 9 : Nat) : Int) := Go.IntWalk.i64_in _ (by omega)
  have w2 : IntKind.i64.wrap (1 + ((N % 9 : Nat) : Int)) = (K : Int) := by rw [Go.IntWalk.i64_in _ (by omega)]; omega
  have w3 : IntKind.i64.wrap (M : Int) = (M : Int) := Go.IntWalk.i64_in _ (by omega)
  have w4 : IntKind.i64.wrap ((K : Int) + 1) = ((K + 1 : Nat) : Int) := by rw [Go.IntWalk.i64_in _ (by omega)]; omega
  have hr2 : (M : Int).tmod ((K + 1 : Nat) : Int) = (Q : Int) := by rw [Int.tmod_eq_emod_of_nonneg hm.1, hQ]; rfl
  have hnz : ((K + 1 : Nat) : Int) ≠ 0 := by omega
  have w5 : IntKind.i64.wrap (2 * (Q : Int)) = 2 * (Q : Int) := Go.IntWalk.i64_in _ (by omega)
  have w6 : IntKind.i64.wrap (1 + min (Q : Int) 1) = 1 + min (Q : Int) 1 := Go.IntWalk.i64_in _ (by omega)
  have cc := cel_cells
  have ldc := cel_ldc
  have st := cel_store
  have l0 := cel_ld0'
  obtain ⟨H, hH⟩ : ∃ y, y = (h.push (.cells (celE c) 36 none)).push (.cells (celE o) 36 none) := ⟨_, rfl⟩
  have nH : H.n = h.n + 2 := by rw [hH]; rfl
  have gC : H.get h.n = .cells (celE c) 36 none := by rw [hH]; exact (get_push_lt (by rw [push_n]; omega)).trans get_push_new
  have gO : H.get (h.n + 1) = .cells (celE o) 36 none := by rw [hH]; exact get_push_new
  refine SCalls.enterI (c := _) Try.func9 rfl (by kernel_rfl) (by simp) ?_
  simp only [wpA_region, wpA_seq, seqQ_normal, goI_out, goI_ops, opsA_nil, opsA_cons, stepA_assign, stepA_box, stepA_call, thenH_some, eval_tmp, eval_const, put_some, enterF_zero, enterF_succ, absV_bool, aBox_eq, push_n, Nat.reduceEqDiff, List.map_nil, Option.map_some, if_false, cc]
  rw [← hH]
  clear hH
  refine callI_of cal15 (pShown9 H) fun r H1 ⟨e1, k1⟩ => ?_
  subst e1
  have gC := (k1.get h.n (by omega) (by simp [none_])).trans gC
  have gO := (k1.get (h.n + 1) (by omega) (by simp [none_])).trans gO
  have n1 := k1.n
  simp only [wpA_region, wpA_seq, wpA_block, wpA_loop, seqQ_normal, goI_out, goI_ops, opsA_nil, opsA_cons, stepA_move, stepA_assign, stepA_binOp, stepA_convert, thenV_some, thenC_some, eval_tmp, eval_const, put_some, enterF_zero, enterF_succ, aBin_add, absV_int, absV_snil, Nat.reduceEqDiff, reduceCtorEq, if_true, if_false, aBin_rem (show (9 : Int) ≠ 0 by decide), hr1, aConv_int it_5 it_3, w1, w2, w3, w4, aBin_rem hnz, hr2]
  generalize hX : h.n = X at *
  refine SWp.loopG (α := Nat × V) (fun x f h' => f 6 = .ptr X 0 ∧ f 7 = .ptr (X + 1) 0 ∧ f 9 = .bool true ∧ f 10 = .int .i64 (K : Int) ∧ f 11 = .int .i64 (Q : Int) ∧ f 12 = x.2 ∧ f 13 = .int .i64 (x.1 : Nat) ∧ x.1 ≤ K ∧
      ∃ h7, Cast .top h' .top h7 ∧ Acc H1 h7 39 1 x.2 ((rowsF c Q x.1).flatMap rowE)) (fun x => K - x.1) (0, .snil)
    ⟨rfl, rfl, rfl, rfl, rfl, rfl, rfl, Nat.zero_le _, H1, Cast.refl _ _, Acc.nil (Keep.refl _ _)⟩ ?_
  rintro ⟨i, s⟩ f hx ⟨f6, f7, f9, f10, f11, f12, f13, hi, h2, c2, a2⟩
  simp only at f12 f13 hi a2
  refine SWp.cast (CastF.of_top c2) ?_
  clear c2
  have gC2 := (a2.keep.get X (by omega) (by simp [none_])).trans gC
  have gO2 := (a2.keep.get (X + 1) (by omega) (by simp [none_])).trans gO
  have n2 := a2.keep.n
  refine wpI_sound (by kernel_rfl) ?_
  by_cases hlt : i < K
  · have c3 : decide ((i : Int) < (K : Int)) = true := decide_eq_true (by omega)
    have wi : IntKind.i64.wrap (((i : Nat) : Int) + 1) = ((i + 1 : Nat) : Int) := by rw [Go.IntWalk.i64_in _ (by omega)]; omega
    by_cases hq : i < Q
    · have c4 : decide ((i : Int) < (Q : Int)) = true := decide_eq_true (by omega)
      have a4 := accOne h2 c
      obtain ⟨s', h5, h7, ea, c7, a7⟩ := addNode a2 a4 (by rw [rowsF_len]; omega)
      have hl := litQ1 (h2.push (.cells (celE c) 36 none)) h2.n
      simp only [push_n] at ea hl
      simp only [wpA_skip, wpA_region, wpA_seq, wpA_cond, wpA_block, condI_true, seqQ_normal, blkQ_normal, endI_mk, andThen_normal, goI_out, goI_ops, opsA_nil, opsA_cons, stepA_move, stepA_assign, stepA_buildSlice, stepA_load, stepA_binOp, stepA_append, thenV_some, thenH_some, eval_tmp, eval_const, put_some, aBin_add, aBin_lss, absV_int, aLoad_eq, loadGo_row, aPlace_ptr, dropC_cells, Nat.reduceEqDiff, List.map_cons, List.map_nil, Nat.zero_le, List.drop_zero, if_true, if_false, lt_36, f6, f10, f11, f12, f13, c3, c4, gC2, ldc, lit1q, hl, ea, wi]
      exact hid_mk ⟨(i + 1, s'), ⟨f6, f7, f9, f10, f11, rfl, rfl, hlt, h7, c7, by simp only [rowsF]; rw [if_pos hq]; exact a7⟩, by simp only; omega⟩
    · have c4 : decide ((i : Int) < (Q : Int)) = false := decide_eq_false (by omega)
      obtain ⟨s', h5, h7, ea, c7, a7⟩ := addNode (l := []) (v13 := .snil) a2 (Acc.nil (Keep.refl h2 _)) (by rw [rowsF_len]; omega)
      have hl := litQ0 h2
      simp only [wpA_skip, wpA_region, wpA_seq, wpA_cond, wpA_block, condI_true, condI_false, seqQ_normal, blkQ_normal, endI_mk, andThen_normal, goI_out, goI_ops, opsA_nil, opsA_cons, stepA_move, stepA_assign, stepA_buildSlice, stepA_binOp, stepA_append, thenV_some, thenH_some, eval_tmp, eval_const, put_some, aBin_add, aBin_lss, absV_int, absV_snil, Nat.reduceEqDiff, List.map_cons, List.map_nil, if_true, if_false, f10, f11, f12, f13, c3, c4, hl, ea, wi]
      exact hid_mk ⟨(i + 1, s'), ⟨f6, f7, f9, f10, f11, rfl, rfl, hlt, h7, c7, by simp only [rowsF]; rw [if_neg hq]; exact a7⟩, by simp only; omega⟩
  · obtain rfl : i = K := by omega
    have c3 : decide ((i : Int) < (i : Int)) = false := decide_eq_false (by omega)
    have ov : ∀ h', Keep h2 h' none_ → Own h' 39 1 s ((rowsF c Q i).map rowV) := fun h' k => by rw [← rows_map]; exact a2.own.keep k (fun _ _ => by simp [none_])
    have hne : rowsF c Q i ≠ [] := fun hh => by have := rowsF_len c Q i; rw [hh] at this; simp at this; omega
    have hcnt := rowsF_cnt c Q i hQK
    have hch1 := chosen c hc (rowsF c Q i) (rowsF_mem c Q i) (by rw [rowsF_len]; omega) hne c.at_ (i : Int) (by omega) h2 s (ov h2 (Keep.refl _ _))
    rw [hcnt] at hch1
    have hb1 : okQ c c.at_ (i : Int) Q = decide ((i : Int) / 2 + 1 ≤ (Q : Int)) := by unfold okQ hitQ; rw [if_pos rfl]
    rw [hb1] at hch1
    simp only [wpA_region, wpA_seq, wpA_cond, wpA_exit, condI_false, seqQ_normal, seqQ_exit, blkQ_exit, endI_mk, goE, andThen_exit, goI_out, goI_ops, opsA_nil, opsA_cons, stepA_move, stepA_load, stepA_binOp, stepA_fieldAddr, stepA_call, thenV_some, eval_tmp, put_some, aBin_lss, aField_eq, fieldGo_ptr, aLoad_eq, aPlace_ptr, dropC_cells, Nat.reduceEqDiff, List.map_cons, List.map_nil, Nat.add_zero, Nat.zero_le, List.drop_zero, if_true, if_false, ft_36_0, lt_3, f6, f10, f12, f13, c3, gC2, l0]
    refine callI_of cal22 hch1 fun r h3 ⟨e3, k3⟩ => ?_
    subst e3
    generalize hd : (if decide ((i : Int) / 2 + 1 ≤ (Q : Int)) = true then c else cel0) = d
    generalize hb : decide ((i : Int) / 2 + 1 ≤ (Q : Int)) = b at *
    obtain ⟨H4, hH4⟩ : ∃ y, y = h3.push (.cells (celE d) 36 none) := ⟨_, rfl⟩
    have k4 : Keep h3 H4 none_ := by rw [hH4]; exact Keep.push _ _ _
    have n3 := k3.n
    have n4 : H4.n = h3.n + 1 := by rw [hH4]; rfl
    have gD := (show H4.get h3.n = .cells (celE d) 36 none by rw [hH4]; exact get_push_new)
    have k24 := k3.trans' k4
    have gC4 := (k24.get X (by omega) (by simp [none_])).trans gC2
    have wne : ∀ x : Int, IntKind.i64.wrap (x + 1) ≠ x := fun x => by rw [IntKind.wrap_i64]; omega
    have hch2 := chosen c hc (rowsF c Q i) (rowsF_mem c Q i) (by rw [rowsF_len]; omega) hne (IntKind.i64.wrap (c.at_ + 1)) (i : Int) (by omega) H4 s (ov H4 k24)
    have hb2 : okQ c (IntKind.i64.wrap (c.at_ + 1)) (i : Int) Q = false := by unfold okQ hitQ; rw [if_neg (Ne.symm (wne _))]; exact decide_eq_false (by omega)
    rw [hcnt, hb2] at hch2
    simp only [wpA_region, wpA_seq, seqQ_normal, goI_out, goI_ops, opsA_nil, opsA_cons, stepA_move, stepA_assign, stepA_alloc, stepA_load, stepA_store, stepA_fieldAddr, stepA_extract, thenV_some, thenH_some, thenS_some, extV_zero, extV_succ, eval_tmp, put_some, put_none, aField_eq, fieldGo_ptr, aLoad_eq, aPlace_ptr, aStore_eq, storeGo_ptr, aAlloc_eq, get_push_new, set_push, Nat.reduceEqDiff, Option.map_some, Nat.add_zero, if_true, if_false, ft_36_0, lt_3, zc_36, zt_36, f6, f12, cc, st]
    rw [← hH4]
    clear hH4
    simp only [goI_ops, opsA_cons, stepA_move, stepA_binOp, stepA_call, thenV_some, eval_tmp, eval_const, put_some, put_none, aBin_add, absV_int, dropC_cells, Nat.reduceEqDiff, List.map_cons, List.map_nil, Nat.zero_le, List.drop_zero, if_true, if_false, f10, gC4, l0]
    refine callI_of cal22 hch2 fun r h5 ⟨e5, k5⟩ => ?_
    subst e5
    simp only [Bool.false_eq_true, if_false]
    obtain ⟨H6, hH6⟩ : ∃ y, y = h5.push (.cells (celE cel0) 36 none) := ⟨_, rfl⟩
    have k6 : Keep h5 H6 none_ := by rw [hH6]; exact Keep.push _ _ _
    have n5 := k5.n
    have n6 : H6.n = h5.n + 1 := by rw [hH6]; rfl
    have k46 := k5.trans' k6
    have k26 := k24.trans' k46
    have gC6 := (k26.get X (by omega) (by simp [none_])).trans gC2
    have gO6 := (k26.get (X + 1) (by omega) (by simp [none_])).trans gO2
    have gD6 := (k46.get h3.n (by omega) (by simp [none_])).trans gD
    have a6 : Acc H1 H6 39 1 s ((rowsF c Q i).flatMap rowE) := a2.on k26
    have hbb : (b == decide ((i : Int) < 2 * (Q : Int))) = true := by
      rw [← hb]
      by_cases hh : (i : Int) / 2 + 1 ≤ (Q : Int)
      · rw [decide_eq_true hh, decide_eq_true (by omega)]; rfl
      · rw [decide_eq_false hh, decide_eq_false (by omega)]; rfl
    simp only [wpA_region, wpA_seq, seqQ_normal, goI_out, goI_ops, opsA_nil, opsA_cons, opsA_guardS, gvI_same, slotAt_zero, slotAt_succ, stepA_move, stepA_assign, stepA_pick, stepA_alloc, stepA_store, stepA_binOp, stepA_extract, thenV_some, thenH_some, thenS_some, pickV_true, extV_zero, extV_succ, eval_tmp, eval_const, put_some, put_none, aBin_mul, aBin_gtr, aBin_bool_eql, absV_int, absV_bool, aStore_eq, storeGo_ptr, aAlloc_eq, get_push_new, set_push, Nat.reduceEqDiff, Option.map_some, if_true, if_false, bt_4, zc_36, zt_36, f9, f10, f11, cc, st]
    rw [← hH6]
    clear hH6
    simp only [goI_ops, opsA_guardS, gvI_same, slotAt_zero, slotAt_succ, stepA_move, stepA_unOp, thenV_some, eval_tmp, put_some, put_none, aUn_not, Nat.reduceEqDiff, if_true, if_false, w5, hbb]
    have hmin : min Q 1 = (min (Q : Int) 1).toNat := by omega
    by_cases hat : o.at_ = c.at_
    · have e1 : (o.at_ == c.at_) = true := by simpa using hat
      cases b with
      | true =>
        simp only [if_true] at hd
        subst hd
        simp only [goI_ops, opsA_guardS, gvI_same, slotAt_zero, slotAt_succ, stepA_load, stepA_call, thenV_some, eval_tmp, put_some, put_none, aLoad_eq, loadGo_row, aPlace_ptr, dropC_cells, Nat.reduceEqDiff, List.map_cons, List.map_nil, Nat.zero_le, List.drop_zero, if_true, if_false, Bool.not_true, lt_36, f6, gC6, gD6, ldc]
        refine callI_pure cal18 (pSameC c H6) ?_
        simp only [wpA_ret, seqQ_normal, endI_mk, goI_out, goI_ops, opsA_nil, opsA_cons, opsA_guardS, gvI_same, gvI_tf, slotAt_zero, slotAt_succ, stepA_move, stepA_assign, stepA_pick, stepA_load, stepA_binOp, stepA_unOp, stepA_fieldAddr, thenV_some, pickV_true, pickV_false, eval_tmp, eval_const, put_some, put_none, aBin_eql, aUn_not, absV_bool, aField_eq, fieldGo_ptr, aLoad_eq, aPlace_ptr, dropC_cells, Nat.reduceEqDiff, Nat.add_zero, Nat.zero_le, List.drop_zero, if_true, if_false, Bool.not_false, ft_36_0, lt_3, f6, f7, gC6, gO6, l0, e1, retA_ret, Try.results9, resultsA_1]
        exact hid_mk rfl
      | false =>
        simp only [wpA_ret, seqQ_normal, endI_mk, goI_out, goI_ops, opsA_nil, opsA_cons, opsA_guardS, gvI_same, gvI_tf, slotAt_zero, slotAt_succ, stepA_move, stepA_assign, stepA_pick, stepA_load, stepA_binOp, stepA_unOp, stepA_fieldAddr, thenV_some, pickV_true, eval_tmp, eval_const, put_some, put_none, aBin_eql, aUn_not, absV_bool, aField_eq, fieldGo_ptr, aLoad_eq, aPlace_ptr, dropC_cells, Nat.reduceEqDiff, Nat.add_zero, Nat.zero_le, List.drop_zero, if_true, if_false, Bool.not_false, ft_36_0, lt_3, f6, f7, gC6, gO6, l0, e1, retA_ret, Try.results9, resultsA_1]
        exact hid_mk rfl
    · have e1 : (o.at_ == c.at_) = false := by simpa using hat
      have a4 := accOne H6 o
      obtain ⟨s', h7, h8, ea, c8, a8⟩ := addNode a6 a4 (by rw [rowsF_len]; omega)
      have hl := litQ1 (H6.push (.cells (celE o) 36 none)) H6.n
      simp only [push_n] at ea hl
      obtain ⟨h9, c9, _⟩ := a8.cast (n := (rowsF c Q i ++ [[o]]).length) (rows_len (sz := 1) rowE_len _) (by decide)
      have hfl : (rowsF c Q i ++ [[o]]).flatten = List.replicate Q c ++ [o] := by rw [List.flatten_append, rowsF_flat, show min i Q = Q by omega]; rfl
      have hmg := SCalls.args (CastL.cons (Cast.topThen c8 c9) (CastL.refl _ _)) (mergeI (rowsF c Q i ++ [[o]]) (by
        rw [hfl]
        refine ⟨by simp; omega, fun x hx => ?_⟩
        rcases List.mem_append.1 hx with hx | hx
        · rw [List.eq_of_mem_replicate hx]; exact hc
        · rw [List.mem_singleton.1 hx]; exact ho) (by rw [List.length_append, rowsF_len]; simp; omega) h9)
      have lastF : ∀ out : List Cel, IsMerge (rowsF c Q i ++ [[o]]).flatten out → (((out.length : Nat) : Int) == 1 + min (Q : Int) 1) = true := fun out w => by
        rw [hfl] at w
        have := merge_len hat w
        simp; omega
      cases b with
      | true =>
        simp only [if_true] at hd
        subst hd
        simp only [goI_ops, opsA_guardS, gvI_same, slotAt_zero, slotAt_succ, stepA_load, stepA_call, thenV_some, eval_tmp, put_some, put_none, aLoad_eq, loadGo_row, aPlace_ptr, dropC_cells, Nat.reduceEqDiff, List.map_cons, List.map_nil, Nat.zero_le, List.drop_zero, if_true, if_false, Bool.not_true, lt_36, f6, gC6, gD6, ldc]
        refine callI_pure cal18 (pSameC c H6) ?_
        simp only [goI_ops, opsA_cons, opsA_guardS, gvI_same, slotAt_zero, slotAt_succ, stepA_move, stepA_pick, stepA_buildSlice, stepA_load, stepA_binOp, stepA_unOp, stepA_fieldAddr, stepA_append, stepA_call, thenV_some, thenH_some, pickV_true, pickV_false, eval_tmp, eval_const, put_some, put_none, aBin_eql, aUn_not, absV_bool, aField_eq, fieldGo_ptr, aLoad_eq, loadGo_row, aPlace_ptr, dropC_cells, Nat.reduceEqDiff, List.map_cons, List.map_nil, Nat.add_zero, Nat.zero_le, List.drop_zero, if_true, if_false, Bool.not_false, ft_36_0, lt_3, lt_36, f6, f7, f12, gC6, gO6, l0, e1, ldc, lit1q, hl, ea]
        refine callI_of cal17 hmg fun r hz ⟨out, im, _, er⟩ => ?_
        subst er
        have lf := lastF out im
        simp only [wpA_ret, seqQ_normal, endI_mk, goI_out, goI_ops, opsA_nil, opsA_cons, opsA_guardS, gvI_same, slotAt_zero, slotAt_succ, stepA_move, stepA_assign, stepA_pick, stepA_binOp, stepA_len, stepA_min, thenV_some, pickV_true, pickV_false, eval_tmp, eval_const, put_some, put_none, aBin_add, aBin_eql, mmV_min, absV_int, absV_bool, aLen_imm, Nat.reduceEqDiff, if_true, if_false, kt_39, f11, w6, lf, retA_ret, Try.results9, resultsA_1]
        exact hid_mk rfl
      | false =>
        simp only [goI_ops, opsA_cons, opsA_guardS, gvI_same, gvI_tf, slotAt_zero, slotAt_succ, stepA_move, stepA_pick, stepA_buildSlice, stepA_load, stepA_binOp, stepA_unOp, stepA_fieldAddr, stepA_append, stepA_call, thenV_some, thenH_some, pickV_true, eval_tmp, eval_const, put_some, put_none, aBin_eql, aUn_not, absV_bool, aField_eq, fieldGo_ptr, aLoad_eq, loadGo_row, aPlace_ptr, dropC_cells, Nat.reduceEqDiff, List.map_cons, List.map_nil, Nat.add_zero, Nat.zero_le, List.drop_zero, if_true, if_false, Bool.not_false, ft_36_0, lt_3, lt_36, f6, f7, f12, gC6, gO6, l0, e1, ldc, lit1q, hl, ea]
        refine callI_of cal17 hmg fun r hz ⟨out, im, _, er⟩ => ?_
        subst er
        have lf := lastF out im
        simp only [wpA_ret, seqQ_normal, endI_mk, goI_out, goI_ops, opsA_nil, opsA_cons, opsA_guardS, gvI_same, slotAt_zero, slotAt_succ, stepA_move, stepA_assign, stepA_pick, stepA_binOp, stepA_len, stepA_min, thenV_some, pickV_true, pickV_false, eval_tmp, eval_const, put_some, put_none, aBin_add, aBin_eql, mmV_min, absV_int, absV_bool, aLen_imm, Nat.reduceEqDiff, if_true, if_false, kt_39, f11, w6, lf, retA_ret, Try.results9, resultsA_1]
        exact hid_mk rfl
end Go.Proofs.Ytmgjjhpkhjebbaa.Pk
