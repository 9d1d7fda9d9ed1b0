/-
  What functions of the program do, told of abstract states. Conditions: as each theorem says.
-/
import Derived.Test.YtpmmbcifhallbaaDoorCuP
import Derived.Test.YtpmmbcifhallbaaDoorCuKs
namespace Go.Proofs.YtpmmbcifhallbaaDoor.Pk
open Go Go.Proofs Go.Proofs.YtpmmbcifhallbaaDoor.Ab
set_option linter.unusedVariables false
set_option linter.unusedSimpArgs false

theorem ptN_snoc {l : List Vx} {R : List Nat} (hR : Lst l R) {i : Nat} (hi : i < l.length) : (ptN R (i + 1)).1 = (ptN R i).1 ++ [((cntR R (R.getD i 0) : Nat) : Int)] := by
  show (if R.getD i 0 = i then _ else _ : List Int × Nat).1 = _
  by_cases hr : R.getD i 0 = i
  · rw [if_pos hr, hr]; rfl
  · have hlt : R.getD i 0 < i := by have := hR.le i; omega
    rw [if_neg hr]
    simp only
    rw [pt_get hR (by omega) _ hlt, hR.root hi]

set_option maxHeartbeats 2000000 in
set_option maxRecDepth 10000 in
theorem pPartsR (l : List Vx) (p : Int) (hok : OkT l) (h : AHeap) : Pure Tryd.prog 28 [.agg (topE l p)] h (.tuple [.imm (partsX p l).length (i64V (partsX p l)), .int .i64 (chkT p l).2]) := by
  refine Pure.of (Clo.tuple (CloL.cons (Clo.imm (i64V_clo _)) (CloL.cons (Clo.int _ _) CloL.nil))) ?_
  have hc : (V.agg (topE l p)).cells = some [.imm l.length (l.flatMap encX), .int .i64 p] := rfl
  obtain ⟨H, hH⟩ : ∃ x, x = h.push (.cells [.imm l.length (l.flatMap encX), .int .i64 p] 24 none) := ⟨_, rfl⟩
  have gt : H.get h.n = .cells [.imm l.length (l.flatMap encX), .int .i64 p] 24 none := by rw [hH]; exact get_push_new
  have kH : Keep h H none_ := by rw [hH]; exact Keep.push _ _ _
  have nH : H.n = h.n + 1 := by rw [hH]; rfl
  refine SCalls.enterI (c := _) Tryd.func28 rfl (by kernel_rfl) (by simp) ?_
  simp only [wpA_region, wpA_seq, seqQ_normal, goI_out, goI_ops, opsA_nil, opsA_cons, stepA_assign, stepA_box, stepA_load, stepA_call, thenV_some, thenH_some, eval_tmp, eval_const, put_some, enterF_zero, enterF_succ, absV_int, absV_snil, aLoad_eq, loadGo_row, aPlace_ptr, dropC_cells, aBox_eq, Int.reduceNeg, Nat.reduceEqDiff, Nat.reduceAdd, List.map_cons, List.map_nil, Option.map_some, Nat.zero_add, Nat.zero_le, List.length_cons, List.length_nil, List.drop_zero, List.take_succ_cons, List.take_nil, if_true, if_false, Nat.le_refl, lt_24, hc, ← hH, gt]
  refine callI_pure cal17 (pCheckR l p hok H) ?_
  by_cases h0 : (chkT p l).2 = 0
  rotate_left
  · have c2 : ((chkT p l).2 != 0) = true := by simp [h0]
    have hG : partsX p l = [] := if_neg h0
    simp only [wpA_region, wpA_seq, wpA_cond, wpA_ret, condI_true, seqQ_normal, seqQ_ret, endI_mk, goI_out, goI_ops, opsA_nil, opsA_cons, stepA_move, stepA_assign, stepA_binOp, stepA_extract, thenV_some, extV_zero, extV_succ, eval_tmp, eval_const, put_some, enterF_succ, aBin_neq, absV_int, absV_snil, Int.reduceNeg, Nat.reduceEqDiff, if_true, if_false, chkA, c2, retA_ret, Tryd.results28, resultsA_2]
    exact hid_mk ⟨_, by rw [hG]; exact Cast.tuple (CastL.cons (Cast.snil0 _) (CastL.refl _ _)), kH⟩
  have c2 : ((chkT p l).2 != 0) = false := by simp [h0]
  obtain ⟨_, _, l1, l24, _, hall⟩ := chk_ok h0
  have hG : partsX p l = (ptN (mgX l) l.length).1 := if_pos h0
  have hu := up_of h0
  have hR := mgX_lst hu l24
  generalize mgX l = R at hG hR
  simp only [wpA_skip, wpA_region, wpA_seq, wpA_cond, wpA_block, wpA_loop, condI_false, seqQ_normal, goI_out, goI_ops, opsA_nil, opsA_cons, stepA_move, stepA_assign, stepA_binOp, stepA_extract, thenV_some, extV_zero, extV_succ, eval_tmp, eval_const, put_some, enterF_succ, aBin_neq, absV_int, absV_snil, Int.reduceNeg, Nat.reduceEqDiff, if_true, if_false, chkA, c2]
  refine SWp.loopG (α := V × Nat) (fun x f h' => f 1 = .ptr h.n 0 ∧ f 6 = x.1 ∧ f 7 = .int .i64 (cntR R x.2 : Nat) ∧ f 8 = .int .i64 (x.2 : Nat) ∧ x.2 ≤ l.length ∧ Acc H h' 3 1 x.1 (i64V (ptN R x.2).1)) (fun x => l.length - x.2) (.snil, 0) ⟨rfl, rfl, rfl, rfl, Nat.zero_le _, Acc.nil (Keep.refl _ _)⟩ ?_
  rintro ⟨u, i⟩ f h1 ⟨f1, f6, f7, f8, hi, a1⟩
  simp only at f6 f7 f8 hi a1
  have gt1 := (a1.keep.get h.n (by omega) (by simp [none_])).trans gt
  refine wpI_sound (by kernel_rfl) ?_
  by_cases hlt : i < l.length
  rotate_left
  · have c3 : decide ((i : Int) < ((l.length : Nat) : Int)) = false := by simp only [decide_eq_false_iff_not]; omega
    obtain rfl : i = l.length := by omega
    obtain ⟨h4, c4, k4⟩ := a1.cast (n := l.length) (by rw [i64V_length, ptN_len, Nat.mul_one]) (by decide)
    simp only [wpA_region, wpA_seq, wpA_cond, wpA_exit, wpA_ret, condI_false, seqQ_normal, seqQ_exit, blkQ_exit, endI_mk, goE, andThen_exit, goI_out, goI_ops, opsA_nil, opsA_cons, stepA_move, stepA_assign, stepA_load, stepA_binOp, stepA_fieldAddr, stepA_len, thenV_some, eval_tmp, eval_const, put_some, aBin_lss, absV_int, aField_eq, fieldGo_ptr, aLoad_eq, loadGo_one, aPlace_ptr, dropC_cells, aLen_imm, Int.reduceNeg, Nat.reduceEqDiff, Nat.reduceAdd, Nat.add_zero, Nat.zero_add, Nat.zero_le, List.length_cons, List.length_nil, List.drop_zero, if_true, if_false, ft_24_0, kt_22, lt_22, f1, f6, f8, gt1, c3, retA_ret, Tryd.results28, resultsA_2]
    refine hid_mk ⟨h4, ?_, kH.trans' k4⟩
    rw [hG, ptN_len, h0]
    exact Cast.tuple (CastL.cons c4 (CastL.refl _ _))
  have c3 : decide ((i : Int) < ((l.length : Nat) : Int)) = true := by simp only [decide_eq_true_eq]; omega
  have w2 : IntKind.i64.wrap (((i : Nat) : Int) + 1) = ((i + 1 : Nat) : Int) := by rw [Go.IntWalk.i64_in _ (by omega)]; omega
  have hcl := cntR_le R i
  have w4 : IntKind.i64.wrap (((cntR R i : Nat) : Int) + 1) = ((cntR R i + 1 : Nat) : Int) := by rw [Go.IntWalk.i64_in _ (by omega)]; omega
  have hsn := ptN_snoc hR hlt
  have hcs := cnt_succ R i
  have hrt := hR.root hlt
  have hle := hR.le i
  have hcr := cntR_le R (R.getD i 0)
  simp only [wpA_skip, wpA_region, wpA_seq, wpA_cond, wpA_block, condI_true, seqQ_normal, goI_out, goI_ops, opsA_nil, opsA_cons, stepA_move, stepA_load, stepA_binOp, stepA_fieldAddr, stepA_len, stepA_call, thenV_some, eval_tmp, put_some, aBin_lss, aField_eq, fieldGo_ptr, aLoad_eq, loadGo_one, loadGo_row, aPlace_ptr, dropC_cells, aLen_imm, Int.reduceNeg, Nat.reduceEqDiff, Nat.reduceAdd, List.map_cons, List.map_nil, Nat.add_zero, Nat.zero_add, Nat.zero_le, List.length_cons, List.length_nil, List.drop_zero, List.take_succ_cons, List.take_nil, if_true, if_false, Nat.le_refl, ft_24_0, kt_22, lt_22, lt_24, f1, f8, gt1, c3]
  refine callI_pure cal53 (pWith l p R hR hu l24 i hlt hok h1) ?_
  obtain ⟨W, hW⟩ : ∃ W, W = (List.range l.length).map fun u => decide (R.getD u 0 = R.getD i 0) := ⟨_, rfl⟩
  have hWl : W.length = l.length := by rw [hW]; simp
  have hWg : ∀ k (hk : k < W.length), W[k] = decide (R.getD k 0 = R.getD i 0) := fun k hk => by subst hW; rw [List.getElem_map, List.getElem_range]
  rw [← hW]
  clear hW
  simp only [wpA_region, wpA_seq, wpA_block, wpA_loop, seqQ_normal, goI_out, goI_ops, opsA_nil, opsA_cons, stepA_assign, eval_tmp, eval_const, put_some, absV_int, Int.reduceNeg, Nat.reduceEqDiff, if_true, if_false]
  have fin : ∀ (x : Int) (cc : Nat), x = ((cntR R (R.getD i 0) : Nat) : Int) → ∃ v2 h3, aAppend Tryd.prog 33 33 u (.sl h1.n 0 1 1) (h1.push (.cells [.int .i64 x] 3 none)) = some (v2, h3) ∧ Acc H h3 3 1 v2 (i64V (ptN R (i + 1)).1) := fun x cc hx => by
    subst hx
    obtain ⟨v2, h3, q1, a2⟩ := a1.elem (P := Tryd.prog) sl_33 (by decide) (xs := [.int .i64 ((cntR R (R.getD i 0) : Nat) : Int)]) rfl rfl (by simp [i64V_length, lim, ptN_len]; omega) (by simp [i64V_length, lim, ptN_len]; omega)
    exact ⟨v2, h3, q1, by rw [hsn, i64V_append]; exact a2⟩
  refine SWp.loopG (α := Nat × Int) (fun x f h' => f 1 = .ptr h.n 0 ∧ f 6 = u ∧ f 7 = .int .i64 (cntR R i : Nat) ∧ f 8 = .int .i64 (i : Nat) ∧ f 9 = .imm l.length (boolsV W) ∧ f 10 = .int .i64 x.2 ∧ f 11 = .int .i64 (x.1 : Nat) ∧ x.1 ≤ i ∧ h' = h1 ∧ ((x.2 = -1 ∧ ∀ k, k < x.1 → R.getD k 0 ≠ R.getD i 0) ∨ (x.2 = ((cntR R (R.getD i 0) : Nat) : Int) ∧ R.getD i 0 ≠ i))) (fun x => i - x.1) (0, -1) ⟨f1, f6, f7, f8, rfl, rfl, rfl, Nat.zero_le _, rfl, .inl ⟨rfl, fun k hk => by omega⟩⟩ ?_
  rintro ⟨k, q⟩ g h2 ⟨g1, g6, g7, g8, g9, g10, g11, hk, rfl, hq⟩
  simp only at g10 g11 hk hq
  refine wpI_sound (by kernel_rfl) ?_
  rcases hq with ⟨rfl, hno⟩ | ⟨rfl, hne⟩
  · by_cases hkl : k < i
    · have c4 : decide ((k : Int) < ((i : Nat) : Int)) = true := by simp only [decide_eq_true_eq]; omega
      have w3 : IntKind.i64.wrap (((k : Nat) : Int) + 1) = ((k + 1 : Nat) : Int) := by rw [Go.IntWalk.i64_in _ (by omega)]; omega
      have xk := boolsV_ix (P := Tryd.prog) (l := W) (k := k) (by omega) (kk := .i64) ss_83
      rw [hWg k (by omega), hWl] at xk
      by_cases he : R.getD k 0 = R.getD i 0
      · rw [decide_eq_true he] at xk
        obtain ⟨j, q1, q2, ⟨r, q3⟩, _⟩ := own_elem (P := Tryd.prog) (kk := .i64) ss_33 a1.own (k := k) (by rw [i64V_length, ptN_len]; exact hkl)
        have hgk : (i64V (ptN R i).1)[k]'(by rw [i64V_length, ptN_len]; exact hkl) = .int .i64 ((cntR R (R.getD i 0) : Nat) : Int) := by
          simp only [i64V, List.getElem_map]
          have := pt_get hR (i := i) (by omega) k hkl
          rw [List.getD, List.getElem?_eq_getElem (by rw [ptN_len]; exact hkl), he] at this
          exact congrArg _ this
        rw [hgk] at q3
        simp only [wpA_skip, wpA_region, wpA_seq, wpA_cond, wpA_block, condI_true, seqQ_normal, blkQ_normal, endI_mk, andThen_normal, goI_out, goI_ops, opsA_nil, opsA_cons, opsA_guardS, gvI_same, slotAt_zero, slotAt_succ, stepA_move, stepA_assign, stepA_pick, stepA_load, stepA_binOp, stepA_indexAddr, thenV_some, pickV_true, eval_tmp, eval_const, put_some, aBin_add, aBin_lss, absV_int, absV_bool, aLoad_eq, loadGo_one, aPlace_ptr, aPlace_at, Int.reduceLT, Int.reduceNeg, decide_true, Nat.reduceEqDiff, if_true, if_false, lt_3, lt_4, g6, g8, g9, g10, g11, c4, xk, q1, q3, w3]
        exact hid_mk ⟨(k + 1, _), ⟨g1, g6, g7, g8, g9, rfl, rfl, by simp only; omega, rfl, .inr ⟨rfl, fun e => by have := hR.le k; omega⟩⟩, by simp only; omega⟩
      · rw [decide_eq_false he] at xk
        simp only [wpA_skip, wpA_region, wpA_seq, wpA_cond, wpA_block, condI_true, condI_false, seqQ_normal, blkQ_normal, endI_mk, andThen_normal, goI_out, goI_ops, opsA_nil, opsA_cons, opsA_guardS, gvI_same, slotAt_zero, slotAt_succ, stepA_move, stepA_assign, stepA_pick, stepA_load, stepA_binOp, stepA_indexAddr, thenV_some, pickV_true, eval_tmp, eval_const, put_some, aBin_add, aBin_lss, absV_int, absV_bool, aLoad_eq, loadGo_one, aPlace_at, Int.reduceLT, Int.reduceNeg, decide_true, Nat.reduceEqDiff, if_true, if_false, lt_4, g8, g9, g10, g11, c4, xk, w3]
        exact hid_mk ⟨(k + 1, -1), ⟨g1, g6, g7, g8, g9, g10, rfl, by simp only; omega, rfl, .inl ⟨rfl, fun k' hk' => by
          rcases Nat.lt_or_ge k' k with hh | hh
          · exact hno k' hh
          · obtain rfl : k' = k := by omega
            exact he⟩⟩, by simp only; omega⟩
    · have c4 : decide ((k : Int) < ((i : Nat) : Int)) = false := by simp only [decide_eq_false_iff_not]; omega
      obtain rfl : k = i := by omega
      have hr : R.getD k 0 = k := Classical.byContradiction fun hn => hno (R.getD k 0) (by omega) hrt
      rw [if_pos hr] at hcs
      obtain ⟨v2, h3, q1, a2⟩ := fin ((cntR R k : Nat) : Int) 0 (by rw [hr])
      simp only [wpA_region, wpA_seq, wpA_cond, wpA_exit, wpA_ret, condI_true, condI_false, seqQ_normal, seqQ_exit, blkQ_normal, blkQ_exit, endI_mk, goE, andThen_normal, andThen_exit, goI_out, goI_ops, opsA_nil, opsA_cons, opsA_guardS, gvI_ft, slotAt_zero, slotAt_succ, stepA_move, stepA_assign, stepA_pick, stepA_buildSlice, stepA_binOp, stepA_append, thenV_some, thenH_some, pickV_false, eval_tmp, eval_const, put_some, aBin_add, aBin_lss, absV_int, absV_bool, Int.reduceLT, Int.reduceNeg, decide_true, Nat.reduceEqDiff, reduceCtorEq, List.map_cons, List.map_nil, if_true, if_false, g6, g7, g8, g10, g11, c4, litI1, q1, w2, w4]
      exact hid_mk ⟨(v2, k + 1), ⟨g1, rfl, by simp only [hcs]; rfl, rfl, by simp only; omega, a2⟩, by simp only; omega⟩
  · have c5 : decide (((cntR R (R.getD i 0) : Nat) : Int) < 0) = false := by simp only [decide_eq_false_iff_not]; omega
    rw [if_neg hne] at hcs
    obtain ⟨v2, h3, q1, a2⟩ := fin _ 0 rfl
    cases c4 : decide ((k : Int) < ((i : Nat) : Int)) <;>
      (simp only [wpA_skip, wpA_region, wpA_seq, wpA_cond, wpA_exit, wpA_ret, condI_false, seqQ_normal, seqQ_exit, blkQ_normal, blkQ_exit, endI_mk, goE, andThen_normal, andThen_exit, goI_out, goI_ops, opsA_nil, opsA_cons, opsA_guardS, gvI_same, gvI_ft, slotAt_zero, slotAt_succ, stepA_move, stepA_assign, stepA_pick, stepA_buildSlice, stepA_binOp, stepA_append, thenV_some, thenH_some, pickV_true, pickV_false, eval_tmp, eval_const, put_some, aBin_add, aBin_lss, absV_int, absV_bool, Nat.reduceEqDiff, reduceCtorEq, List.map_cons, List.map_nil, if_true, if_false, g6, g8, g10, g11, c4, c5, litI1, q1, w2]
       exact hid_mk ⟨(v2, i + 1), ⟨g1, rfl, by simp only [hcs]; exact g7, rfl, by simp only; omega, a2⟩, by simp only; omega⟩)

theorem parts_24 {p : Int} {l : List Vx} : (partsX p l).length ≤ 24 := by
  by_cases h0 : (chkT p l).2 = 0
  · rw [partsX_len h0]
    obtain ⟨_, _, _, l24, _⟩ := chk_ok h0
    exact l24
  · rw [partsX, if_neg h0]; simp
def manyX (p : Int) (l : List Vx) : Nat := if (chkT p l).2 = 0 then cntR (mgX l) l.length else 0
set_option maxRecDepth 10000 in
theorem pManyR (l : List Vx) (p : Int) (hok : OkT l) (h : AHeap) : Pure Tryd.prog 55 [.agg (topE l p)] h (.int .i64 (manyX p l : Nat)) := by
  refine Pure.val (Clo.int _ _) ?_
  have hc : (V.agg (topE l p)).cells = some [.imm l.length (l.flatMap encX), .int .i64 p] := rfl
  obtain ⟨H, hH⟩ : ∃ x, x = h.push (.cells [.imm l.length (l.flatMap encX), .int .i64 p] 24 none) := ⟨_, rfl⟩
  have gt : H.get h.n = .cells [.imm l.length (l.flatMap encX), .int .i64 p] 24 none := by rw [hH]; exact get_push_new
  have kH : Keep h H none_ := by rw [hH]; exact Keep.push _ _ _
  refine SCalls.enterI (c := _) Tryd.func55 rfl (by kernel_rfl) (by simp) ?_
  simp only [wpA_region, wpA_seq, seqQ_normal, goI_out, goI_ops, opsA_nil, opsA_cons, stepA_assign, stepA_box, stepA_load, stepA_call, thenV_some, thenH_some, eval_tmp, eval_const, put_some, enterF_zero, enterF_succ, absV_int, aLoad_eq, loadGo_row, aPlace_ptr, dropC_cells, aBox_eq, Nat.reduceEqDiff, Nat.reduceAdd, List.map_cons, List.map_nil, Option.map_some, Nat.zero_add, Nat.zero_le, List.length_cons, List.length_nil, List.drop_zero, List.take_succ_cons, List.take_nil, if_true, if_false, Nat.le_refl, lt_24, hc, ← hH, gt]
  refine callI_pure cal28 (pPartsR l p hok H) ?_
  obtain ⟨C, hC0, hCl, hCs⟩ : ∃ C : Nat → Nat, C 0 = 0 ∧ C (partsX p l).length = manyX p l ∧ ∀ i, i < (partsX p l).length → C i ≤ 24 ∧ 0 ≤ (partsX p l).getD i 0 ∧ (((C (i + 1) : Nat) : Int) = if ((C i : Nat) : Int) ≤ (partsX p l).getD i 0 then (partsX p l).getD i 0 + 1 else (C i : Nat)) ∧ (partsX p l).getD i 0 ≤ 24 := by
    by_cases h0 : (chkT p l).2 = 0
    · have hA := apart_of h0
      obtain ⟨_, _, _, l24, _⟩ := chk_ok h0
      refine ⟨cntR (mgX l), rfl, by rw [partsX_len h0, manyX, if_pos h0], fun i hi => ?_⟩
      obtain ⟨s1, s2, s3⟩ := hA.step i (by rw [← hA.len]; exact hi)
      have := cntR_le (mgX l) i
      have := hA.len
      refine ⟨by omega, s1, ?_, by omega⟩
      rw [s3]
      by_cases he : (partsX p l).getD i 0 = ((cntR (mgX l) i : Nat) : Int)
      · rw [if_pos he, if_pos (by omega), he]
      · rw [if_neg he, if_neg (by omega)]
    · have hG : partsX p l = [] := if_neg h0
      refine ⟨fun _ => 0, rfl, by rw [manyX, if_neg h0], fun i hi => ?_⟩
      rw [hG] at hi; simp at hi
  have hPl : (partsX p l).length ≤ 24 := parts_24
  rw [← hCl]
  generalize partsX p l = P at *
  simp only [wpA_region, wpA_seq, wpA_block, wpA_loop, seqQ_normal, goI_out, goI_ops, opsA_nil, opsA_cons, stepA_move, stepA_assign, stepA_extract, thenV_some, extV_zero, extV_succ, eval_tmp, eval_const, put_some, enterF_succ, absV_int, Nat.reduceEqDiff, if_true, if_false]
  refine SWp.loopG (α := Nat) (fun i f h' => f 3 = .imm P.length (i64V P) ∧ f 5 = .int .i64 (C i : Nat) ∧ f 6 = .int .i64 (i : Nat) ∧ i ≤ P.length ∧ h' = H) (fun i => P.length - i) 0 ⟨rfl, by rw [hC0]; rfl, rfl, Nat.zero_le _, rfl⟩ ?_
  rintro i f h1 ⟨f3, f5, f6, hi, rfl⟩
  refine wpI_sound (by kernel_rfl) ?_
  by_cases hlt : i < P.length
  rotate_left
  · have c3 : decide ((i : Int) < ((P.length : Nat) : Int)) = false := by simp only [decide_eq_false_iff_not]; omega
    obtain rfl : i = P.length := by omega
    simp only [wpA_region, wpA_seq, wpA_cond, wpA_exit, wpA_ret, condI_false, seqQ_normal, seqQ_exit, blkQ_exit, endI_mk, goE, andThen_exit, goI_out, goI_ops, opsA_nil, opsA_cons, stepA_move, stepA_assign, stepA_binOp, stepA_len, thenV_some, eval_tmp, put_some, aBin_lss, aLen_imm, Nat.reduceEqDiff, if_true, if_false, kt_33, f3, f5, f6, c3, retA_ret, Tryd.results55, resultsA_1]
    exact hid_mk ⟨rfl, kH⟩
  have c3 : decide ((i : Int) < ((P.length : Nat) : Int)) = true := by simp only [decide_eq_true_eq]; omega
  have w2 : IntKind.i64.wrap (((i : Nat) : Int) + 1) = ((i + 1 : Nat) : Int) := by rw [Go.IntWalk.i64_in _ (by omega)]; omega
  obtain ⟨s1, s2, s3, s4⟩ := hCs i hlt
  have xP := i64V_ix' (P := Tryd.prog) (kk := .i64) hlt ss_33
  have hgd : P.getD i 0 = P[i] := by rw [List.getD, List.getElem?_eq_getElem hlt]; rfl
  rw [← hgd] at xP
  have w3 : IntKind.i64.wrap (P.getD i 0 + 1) = P.getD i 0 + 1 := Go.IntWalk.i64_in _ (by omega)
  by_cases hq : ((C i : Nat) : Int) ≤ P.getD i 0
  · have c4 : decide (((C i : Nat) : Int) ≤ P.getD i 0) = true := by simpa using hq
    rw [if_pos hq] at s3
    simp only [wpA_skip, wpA_region, wpA_seq, wpA_cond, wpA_block, condI_true, seqQ_normal, blkQ_normal, endI_mk, andThen_normal, goI_out, goI_ops, opsA_nil, opsA_cons, stepA_move, stepA_assign, stepA_load, stepA_binOp, stepA_indexAddr, stepA_len, thenV_some, eval_tmp, eval_const, put_some, aBin_add, aBin_lss, aBin_geq, absV_int, aLoad_eq, loadGo_one, aPlace_at, aLen_imm, Nat.reduceEqDiff, if_true, if_false, kt_33, lt_3, f3, f5, f6, c3, c4, xP, w2, w3]
    exact hid_mk ⟨i + 1, ⟨f3, by rw [s3]; rfl, rfl, by omega, rfl⟩, by omega⟩
  · have c4 : decide (((C i : Nat) : Int) ≤ P.getD i 0) = false := by simp only [decide_eq_false_iff_not]; exact hq
    rw [if_neg hq] at s3
    simp only [wpA_skip, wpA_region, wpA_seq, wpA_cond, wpA_block, condI_true, condI_false, seqQ_normal, blkQ_normal, endI_mk, andThen_normal, goI_out, goI_ops, opsA_nil, opsA_cons, stepA_move, stepA_assign, stepA_load, stepA_binOp, stepA_indexAddr, stepA_len, thenV_some, eval_tmp, eval_const, put_some, aBin_add, aBin_lss, aBin_geq, absV_int, aLoad_eq, loadGo_one, aPlace_at, aLen_imm, Nat.reduceEqDiff, if_true, if_false, kt_33, lt_3, f3, f5, f6, c3, c4, xP, w2]
    exact hid_mk ⟨i + 1, ⟨f3, by rw [s3]; exact f5, rfl, by omega, rfl⟩, by omega⟩
theorem many_tasks {p : Int} {l : List Vx} : IntKind.i64.wrap ((manyX p l : Nat) * p) = tasksX p l := by
  by_cases h0 : (chkT p l).2 = 0
  · obtain ⟨_, hp, _, l24, _⟩ := chk_ok h0
    have hc := cntR_le (mgX l) l.length
    rw [tasks_eq h0, manyX, if_pos h0]
    generalize cntR (mgX l) l.length = C at hc ⊢
    have hP : p = 1 ∨ p = 2 ∨ p = 3 ∨ p = 4 ∨ p = 5 ∨ p = 6 ∨ p = 7 ∨ p = 8 := by omega
    refine Go.IntWalk.i64_in _ ?_
    rcases hP with rfl | rfl | rfl | rfl | rfl | rfl | rfl | rfl <;> omega
  · rw [manyX, if_neg h0, tasksX, if_neg h0]
    rw [show (((0 : Nat) : Int) * p) = 0 by omega]
    exact Go.IntWalk.i64_in _ (by omega)
theorem pTasksR (l : List Vx) (p : Int) (hok : OkT l) (h : AHeap) : Pure Tryd.prog 30 [.agg (topE l p)] h (.int .i64 (tasksX p l)) := by
  refine Pure.val (Clo.int _ _) ?_
  have hc : (V.agg (topE l p)).cells = some [.imm l.length (l.flatMap encX), .int .i64 p] := rfl
  obtain ⟨H, hH⟩ : ∃ x, x = h.push (.cells [.imm l.length (l.flatMap encX), .int .i64 p] 24 none) := ⟨_, rfl⟩
  have gt : H.get h.n = .cells [.imm l.length (l.flatMap encX), .int .i64 p] 24 none := by rw [hH]; exact get_push_new
  have kH : Keep h H none_ := by rw [hH]; exact Keep.push _ _ _
  refine SCalls.enterI (c := _) Tryd.func30 rfl (by kernel_rfl) (by simp) ?_
  simp only [wpA_region, wpA_seq, wpA_draw, seqQ_normal, goI_out, goI_ops, opsA_nil, opsA_cons, stepA_assign, stepA_box, thenH_some, eval_tmp, eval_const, enterF_zero, absV_int, aBox_eq, Option.map_some, hc, ← hH]
  refine SWp.drawnS none_ [] (.q 0 (.c 1 (.q 2 (.q 3 (.q 4 (.q 5 .done)))))) (by kernel_rfl) (by kernel_rfl) (by kernel_rfl) ?_
  simp only [siI_q, sqI_some, mOk_none', implies_true, qI_nil, qI_cons, thenQ_some, q_load, goI_mk, eval_tmp, put_some, enterF_succ, aLoad_eq, loadGo_row, aPlace_ptr, dropC_cells, List.getElem?_cons_zero, Nat.reduceEqDiff, Nat.reduceAdd, Nat.zero_add, Nat.zero_le, List.length_cons, List.length_nil, List.drop_zero, List.take_succ_cons, List.take_nil, true_and, if_true, if_false, Nat.le_refl, lt_24, gt]
  refine siI_c rfl rfl rfl (fun h' hk => pManyR l p hok h') ?_
  simp only [siI_done, siI_q, sqI_some, mOk_none', implies_true, qI_nil, qI_cons, thenQ_some, q_assign, q_load, q_binOp, q_fieldAddr, wpA_ret, seqQ_normal, endI_mk, goI_out, goI_mk, eval_tmp, put_some, enterF_succ, aBin_mul, aField_eq, fieldGo_ptr, aLoad_eq, loadGo_one, aPlace_ptr, dropC_cells, List.getElem?_cons_zero, List.getElem?_cons_succ, Nat.reduceEqDiff, Nat.reduceAdd, Nat.reduceLeDiff, Nat.zero_add, List.length_cons, List.length_nil, List.drop_zero, List.drop_succ_cons, true_and, if_true, if_false, ft_24_1, lt_3, gt, many_tasks, retA_ret, Tryd.results30, resultsA_1]
  exact hid_mk ⟨rfl, kH⟩
set_option maxRecDepth 10000 in
theorem pOfR (l : List Vx) (p task : Int) (hok : OkT l) (h : AHeap) : Pure Tryd.prog 32 [.agg (topE l p), .int .i64 task] h (.tuple [.int .i64 (ofX p l task).1, .int .i64 (ofX p l task).2]) := by
  refine Pure.val (Clo.tuple (CloL.cons (Clo.int _ _) (CloL.cons (Clo.int _ _) CloL.nil))) ?_
  have hc : (V.agg (topE l p)).cells = some [.imm l.length (l.flatMap encX), .int .i64 p] := rfl
  obtain ⟨H, hH⟩ : ∃ x, x = h.push (.cells [.imm l.length (l.flatMap encX), .int .i64 p] 24 none) := ⟨_, rfl⟩
  have gt : H.get h.n = .cells [.imm l.length (l.flatMap encX), .int .i64 p] 24 none := by rw [hH]; exact get_push_new
  have kH : Keep h H none_ := by rw [hH]; exact Keep.push _ _ _
  refine SCalls.enterI (c := _) Tryd.func32 rfl (by kernel_rfl) (by simp) ?_
  simp only [wpA_region, wpA_seq, seqQ_normal, goI_out, goI_ops, opsA_nil, opsA_cons, stepA_assign, stepA_box, stepA_load, stepA_call, thenV_some, thenH_some, eval_tmp, eval_const, put_some, enterF_zero, enterF_succ, absV_int, aLoad_eq, loadGo_row, aPlace_ptr, dropC_cells, aBox_eq, Int.reduceNeg, Nat.reduceEqDiff, Nat.reduceAdd, List.map_cons, List.map_nil, Option.map_some, Nat.zero_add, Nat.zero_le, List.length_cons, List.length_nil, List.drop_zero, List.take_succ_cons, List.take_nil, if_true, if_false, Nat.le_refl, lt_24, hc, ← hH, gt]
  refine callI_pure cal56 (pMay16 l p hok H) ?_
  by_cases h0 : (chkT p l).2 = 0
  rotate_left
  · have c2 : ((chkT p l).2 == 0) = false := by simp [h0]
    have hG : ofX p l task = (-1, -1) := if_neg (by rw [tasksX, if_neg h0]; omega)
    simp only [wpA_region, wpA_seq, wpA_cond, wpA_ret, condI_true, seqQ_normal, seqQ_ret, endI_mk, goI_out, goI_ops, opsA_nil, opsA_cons, opsA_guardS, gvI_tf, slotAt_zero, slotAt_succ, stepA_move, stepA_assign, stepA_pick, stepA_unOp, thenV_some, pickV_true, eval_tmp, eval_const, put_some, enterF_succ, aUn_not, absV_int, absV_bool, Int.reduceNeg, Nat.reduceEqDiff, if_true, if_false, Bool.not_false, c2, retA_ret, Tryd.results32, resultsA_2]
    exact hid_mk ⟨by rw [hG], kH⟩
  have c2 : ((chkT p l).2 == 0) = true := by simp [h0]
  by_cases n0 : task < 0
  · have d0 : decide (task < 0) = true := by simpa using n0
    have hG : ofX p l task = (-1, -1) := if_neg (by omega)
    simp only [wpA_region, wpA_seq, wpA_cond, wpA_ret, condI_true, seqQ_normal, seqQ_ret, endI_mk, goI_out, goI_ops, opsA_nil, opsA_cons, opsA_guardS, gvI_same, gvI_tf, slotAt_zero, slotAt_succ, stepA_move, stepA_assign, stepA_pick, stepA_binOp, stepA_unOp, thenV_some, pickV_true, pickV_false, eval_tmp, eval_const, put_some, enterF_zero, enterF_succ, aBin_lss, aUn_not, absV_int, absV_bool, Int.reduceNeg, Nat.reduceEqDiff, if_true, if_false, Bool.not_true, c2, d0, retA_ret, Tryd.results32, resultsA_2]
    exact hid_mk ⟨by rw [hG], kH⟩
  have d0 : decide (task < 0) = false := by simpa using n0
  simp only [goI_ops, opsA_cons, opsA_guardS, gvI_same, slotAt_zero, slotAt_succ, stepA_move, stepA_pick, stepA_load, stepA_binOp, stepA_unOp, stepA_call, thenV_some, pickV_false, eval_tmp, eval_const, put_some, enterF_zero, enterF_succ, aBin_lss, aUn_not, absV_int, absV_bool, aLoad_eq, loadGo_row, aPlace_ptr, dropC_cells, Nat.reduceEqDiff, Nat.reduceAdd, List.map_cons, List.map_nil, Nat.zero_add, Nat.zero_le, List.length_cons, List.length_nil, List.drop_zero, List.take_succ_cons, List.take_nil, if_true, if_false, Bool.not_true, Nat.le_refl, lt_24, c2, d0, gt]
  refine callI_pure cal30 (pTasksR l p hok H) ?_
  by_cases n1 : tasksX p l ≤ task
  · have d1 : decide (tasksX p l ≤ task) = true := by simpa using n1
    have hG : ofX p l task = (-1, -1) := if_neg (by omega)
    simp only [wpA_region, wpA_seq, wpA_cond, wpA_ret, condI_true, seqQ_normal, seqQ_ret, endI_mk, goI_out, goI_ops, opsA_nil, opsA_cons, opsA_guardS, gvI_same, slotAt_zero, slotAt_succ, stepA_assign, stepA_pick, stepA_binOp, thenV_some, pickV_false, eval_tmp, eval_const, put_some, enterF_succ, aBin_geq, absV_int, absV_bool, Int.reduceNeg, Nat.reduceEqDiff, if_true, if_false, d1, retA_ret, Tryd.results32, resultsA_2]
    exact hid_mk ⟨by rw [hG], kH⟩
  have d1 : decide (tasksX p l ≤ task) = false := by simpa using n1
  obtain ⟨_, hp, h192⟩ := tasks_pos (p := p) (l := l) (task := task) (by omega) (by omega)
  have hG : ofX p l task = (task.tdiv p, task.tmod p) := if_pos (by omega)
  have w1 : IntKind.i64.wrap (task.tdiv p) = task.tdiv p := by
    rw [Int.tdiv_eq_ediv_of_nonneg (by omega)]
    have a := Int.ediv_nonneg (a := task) (b := p) (by omega) (by omega)
    have b := Int.ediv_le_self (a := task) p (by omega)
    exact Go.IntWalk.i64_in _ (by omega)
  simp only [wpA_skip, wpA_seq, wpA_cond, wpA_draw, condI_false, seqQ_normal, goI_out, goI_ops, opsA_nil, opsA_cons, opsA_guardS, gvI_same, slotAt_zero, slotAt_succ, stepA_pick, stepA_binOp, thenV_some, pickV_false, eval_tmp, eval_const, put_some, enterF_succ, aBin_geq, absV_bool, Int.reduceNeg, Nat.reduceEqDiff, if_true, if_false, d1]
  refine SWp.drawnS none_ [] (.q 0 (.q 1 (.q 2 (.q 3 (.q 4 (.q 5 (.q 6 (.q 7 (.q 8 (.q 9 .done)))))))))) (by kernel_rfl) (by kernel_rfl) (by kernel_rfl) ?_
  simp only [siI_done, siI_q, sqI_some, mOk_none', implies_true, qI_nil, qI_cons, thenQ_some, q_move, q_assign, q_load, q_binOp, q_fieldAddr, wpA_ret, seqQ_normal, endI_mk, goI_out, goI_mk, eval_tmp, put_some, enterF_zero, enterF_succ, aField_eq, fieldGo_ptr, aLoad_eq, loadGo_one, aPlace_ptr, dropC_cells, List.getElem?_cons_zero, List.getElem?_cons_succ, Nat.reduceEqDiff, Nat.reduceAdd, Nat.reduceLeDiff, Nat.zero_add, List.length_cons, List.length_nil, List.drop_zero, List.drop_succ_cons, true_and, if_true, if_false, ft_24_1, lt_3, gt, aBin_quo (show p ≠ 0 by omega), aBin_rem (show p ≠ 0 by omega), w1, retA_ret, Tryd.results32, resultsA_2]
  exact hid_mk ⟨by rw [hG], kH⟩
end Go.Proofs.YtpmmbcifhallbaaDoor.Pk
