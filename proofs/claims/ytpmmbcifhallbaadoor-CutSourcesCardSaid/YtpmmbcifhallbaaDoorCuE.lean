/-
  What functions of the program do, told of abstract states. Conditions: as each theorem says.
-/
import Derived.Test.YtpmmbcifhallbaaDoorCuD
namespace Go.Proofs.YtpmmbcifhallbaaDoor.Pk
open Go Go.Proofs Go.Proofs.YtpmmbcifhallbaaDoor.Ab
set_option linter.unusedVariables false
set_option linter.unusedSimpArgs false

theorem pIn1 (u : Nat) (a b : Nat) (P : List Int) (part : Int) (hu : u < P.length) (h : AHeap) (ga : h.get a = .cells [.imm P.length (i64V P)] 33 none) (gb : h.get b = .cells [.int .i64 part] 3 none) :
    Pure Tryd.prog 58 [.int .i64 (u : Int), .ptr a 0, .ptr b 0] h (.bool (P.getD u 0 == part)) := by
  refine Pure.val (Clo.bool _) ?_
  have x0 := i64V_ix' (P := Tryd.prog) (kk := .i64) hu ss_33
  have hg : P.getD u 0 = P[u] := by rw [List.getD, List.getElem?_eq_getElem hu]; rfl
  refine SCalls.enterI (c := _) Tryd.func58 rfl (by kernel_rfl) (by simp) ?_
  simp only [wpA_region, wpA_seq, wpA_draw, seqQ_normal, goI_out, goI_ops, opsA_nil, opsA_cons, stepA_assign, eval_const, absV_bool]
  refine SWp.drawnS none_ [] (.q 0 (.q 1 (.q 2 (.q 3 (.q 4 (.q 5 (.q 6 .done))))))) (by kernel_rfl) (by kernel_rfl) (by kernel_rfl) ?_
  simp only [siI_done, siI_q, sqI_some, mOk_none', implies_true, qI_nil, qI_cons, thenQ_some, q_move, q_assign, q_load, q_binOp, q_indexAddr, wpA_ret, seqQ_normal, endI_mk, goI_out, goI_mk, eval_tmp, put_some, enterF_zero, enterF_succ, aBin_eql, aLoad_eq, loadGo_one, aPlace_ptr, aPlace_at, dropC_cells, List.getElem?_cons_zero, List.getElem?_cons_succ, Nat.reduceEqDiff, reduceCtorEq, Nat.zero_add, Nat.zero_le, List.length_cons, List.length_nil, List.drop_zero, true_and, if_true, if_false, lt_3, lt_33, ga, gb, x0, retA_ret, Tryd.results58, resultsA_1]
  exact hid_mk ⟨by rw [hg], Keep.refl _ _⟩
set_option maxRecDepth 10000 in
theorem pContF (U : List Int) (a b : Nat) (P : List Int) (part : Int) (hU : ∀ u ∈ U, 0 ≤ u ∧ u < P.length) (hl : U.length < 2 ^ 40) (h : AHeap) (ga : h.get a = .cells [.imm P.length (i64V P)] 33 none) (gb : h.get b = .cells [.int .i64 part] 3 none) :
    Pure Tryd.prog 57 [.imm U.length (i64V U), .func (.func 58) [] [.ptr a 0, .ptr b 0]] h (.bool (U.any fun u => P.getD u.toNat 0 == part)) := by
  have hix : SCalls Tryd.prog 73 [.imm U.length (i64V U), .func (.func 58) [] [.ptr a 0, .ptr b 0]] h (fun r h' => (∃ k : Int, r = .int .i64 k ∧ (decide (0 ≤ k)) = U.any fun u => P.getD u.toNat 0 == part) ∧ h' = h) := by
    refine SCalls.enterI (c := _) Tryd.func73 rfl (by kernel_rfl) (by simp) ?_
    simp only [wpA_region, wpA_seq, wpA_block, wpA_loop, seqQ_normal, goI_out, goI_ops, opsA_nil, opsA_cons, stepA_move, stepA_assign, stepA_len, thenV_some, eval_tmp, eval_const, put_some, enterF_zero, enterF_succ, absV_int, aLen_imm, Int.reduceNeg, Nat.reduceEqDiff, reduceCtorEq, if_true, if_false, kt_33]
    refine SWp.loopG (α := Nat) (fun j f h' => f 0 = .imm U.length (i64V U) ∧ f 1 = .func (.func 58) [] [.ptr a 0, .ptr b 0] ∧ f 7 = .int .i64 ((U.length : Nat) : Int) ∧ f 8 = .int .i64 (j : Nat) ∧ j ≤ U.length ∧ h' = h ∧ (U.any fun u => P.getD u.toNat 0 == part) = ((U.drop j).any fun u => P.getD u.toNat 0 == part)) (fun j => U.length - j) 0 ⟨rfl, rfl, rfl, rfl, Nat.zero_le _, rfl, rfl⟩ ?_
    rintro j f h1 ⟨f0, f1, f7, f8, hj, rfl, hE⟩
    refine wpI_sound (by kernel_rfl) ?_
    by_cases hlt : j < U.length
    · have c5 : decide ((j : Int) < ((U.length : Nat) : Int)) = true := by simp only [decide_eq_true_eq]; omega
      rw [List.drop_eq_getElem_cons hlt, List.any_cons] at hE
      have x1 := i64V_ix' (P := Tryd.prog) (kk := .i64) hlt ss_33
      have hin := hU _ (List.getElem_mem hlt)
      generalize U[j] = A at *
      obtain ⟨q, rfl⟩ : ∃ q : Nat, A = (q : Int) := ⟨A.toNat, by omega⟩
      have w2 : IntKind.i64.wrap (((j : Nat) : Int) + 1) = ((j + 1 : Nat) : Int) := by rw [Go.IntWalk.i64_in _ (by omega)]; omega
      simp only [wpA_skip, wpA_region, wpA_seq, wpA_cond, wpA_block, condI_true, seqQ_normal, goI_out, goI_ops, opsA_nil, opsA_cons, stepA_move, stepA_assign, stepA_load, stepA_binOp, stepA_indexAddr, stepA_callv, callvI_func, thenV_some, eval_tmp, put_some, aBin_lss, aLoad_eq, loadGo_one, aPlace_at, Nat.reduceEqDiff, reduceCtorEq, List.map_cons, List.map_nil, List.nil_append, List.cons_append, if_true, if_false, lt_3, f0, f1, f7, f8, c5, x1]
      refine callI_pure cal58 (pIn1 q a b P part (by omega) h1 ga gb) ?_
      rw [Int.toNat_natCast] at hE
      cases c6 : (P.getD q 0 == part)
      · simp only [wpA_skip, wpA_region, wpA_cond, condI_false, seqQ_normal, blkQ_normal, endI_mk, andThen_normal, goI_out, goI_ops, opsA_nil, opsA_cons, stepA_move, stepA_binOp, thenV_some, eval_tmp, eval_const, put_some, aBin_add, absV_int, Int.reduceNeg, Nat.reduceEqDiff, if_true, if_false, f8, w2]
        rw [c6, Bool.false_or] at hE
        exact hid_mk ⟨j + 1, ⟨f0, f1, f7, rfl, by omega, rfl, hE⟩, by omega⟩
      · simp only [wpA_region, wpA_seq, wpA_cond, wpA_ret, condI_true, seqQ_normal, seqQ_ret, blkQ_ret, endI_mk, goE, andThen_ret, goI_out, goI_ops, opsA_nil, opsA_cons, stepA_move, stepA_assign, eval_tmp, put_some, Int.reduceNeg, Nat.reduceEqDiff, if_true, if_false, retA_ret, Tryd.results73, resultsA_1]
        rw [c6, Bool.true_or] at hE
        exact hid_mk ⟨⟨_, rfl, by rw [hE]; simp⟩, rfl⟩
    · have c5 : decide ((j : Int) < ((U.length : Nat) : Int)) = false := by simp only [decide_eq_false_iff_not]; omega
      rw [List.drop_of_length_le (by omega)] at hE
      simp only [wpA_region, wpA_seq, wpA_cond, wpA_exit, wpA_ret, condI_false, seqQ_normal, seqQ_exit, blkQ_exit, endI_mk, goE, andThen_exit, goI_out, goI_ops, opsA_nil, opsA_cons, stepA_assign, stepA_binOp, thenV_some, eval_tmp, eval_const, put_some, aBin_lss, absV_int, Int.reduceNeg, Nat.reduceEqDiff, if_true, if_false, f7, f8, c5, retA_ret, Tryd.results73, resultsA_1]
      exact hid_mk ⟨⟨_, rfl, by rw [hE]; rfl⟩, rfl⟩
  refine SCalls.enterI (c := _) Tryd.func57 rfl (by kernel_rfl) (by simp) ?_
  simp only [wpA_region, wpA_seq, seqQ_normal, goI_out, goI_ops, opsA_nil, opsA_cons, stepA_move, stepA_assign, stepA_call, eval_tmp, eval_const, put_some, enterF_zero, enterF_succ, absV_bool, Nat.reduceEqDiff, reduceCtorEq, List.map_cons, List.map_nil, if_true, if_false]
  refine callI_of cal73 hix fun r h1 ⟨⟨k, e1, e2⟩, e3⟩ => ?_
  subst e1 e3
  simp only [wpA_ret, seqQ_normal, endI_mk, goI_out, goI_ops, opsA_nil, opsA_cons, stepA_assign, stepA_binOp, thenV_some, eval_tmp, eval_const, put_some, enterF_succ, aBin_geq, absV_int, Nat.reduceEqDiff, if_true, if_false, retA_ret, Tryd.results57, resultsA_1]
  exact hid_mk ⟨by rw [e2], rfl⟩

def isIn (l : List Vx) (P : List Int) (part : Int) (v : Nat) : Bool := (kindAt l (v : Int) == 1 && P.getD v 0 == part) || (kindAt l (v : Int) == 5 && (usF (v : Int) 0 l).any fun u => P.getD u.toNat 0 == part)
def inN (l : List Vx) (P : List Int) (part : Int) : Nat → List Int
  | 0 => []
  | i + 1 => inN l P part i ++ (if isIn l P part i then [(i : Int)] else [])
theorem inN_len (l : List Vx) (P : List Int) (part : Int) : ∀ i, (inN l P part i).length ≤ i
  | 0 => Nat.le_refl _
  | i + 1 => by
    have := inN_len l P part i
    unfold inN
    rw [List.length_append]
    split <;> simp <;> omega
def inputsX (p : Int) (l : List Vx) (part : Int) : List Int := inN l (partsX p l) part (partsX p l).length
set_option maxHeartbeats 2000000 in
set_option maxRecDepth 10000 in
theorem pInputs (l : List Vx) (p part : Int) (hok : OkT l) (h : AHeap) (hg : TG h) : Pure Tryd.prog 33 [.agg (topE l p), .int .i64 part] h (.imm (inputsX p l part).length (i64V (inputsX p l part))) := by
  have hP24 : (partsX p l).length ≤ 24 ∧ ((partsX p l).length = 0 ∨ ((partsX p l).length = l.length ∧ l.length ≤ 24)) := by
    by_cases h0 : (chkT p l).2 = 0
    · obtain ⟨_, _, _, l24, _⟩ := chk_ok h0
      rw [partsX_len h0]
      exact ⟨l24, .inr ⟨rfl, l24⟩⟩
    · unfold partsX
      rw [if_neg h0]
      exact ⟨by simp, .inl rfl⟩
  have hil := inN_len l (partsX p l) part (partsX p l).length
  refine Pure.acc (e := 3) (sz := 1) (i64V_clo _) (by rw [i64V_length, Nat.mul_one]) (by decide) ?_
  have hc : (V.agg (topE l p)).cells = some [.imm l.length (l.flatMap encX), .int .i64 p] := rfl
  obtain ⟨H, hH⟩ : ∃ x, x = (h.push (.cells [.imm l.length (l.flatMap encX), .int .i64 p] 24 none)).push (.cells [.int .i64 part] 3 none) := ⟨_, rfl⟩
  have gt : H.get h.n = .cells [.imm l.length (l.flatMap encX), .int .i64 p] 24 none := by rw [hH]; exact get_push2'
  have gp : H.get (h.n + 1) = .cells [.int .i64 part] 3 none := by rw [hH]; exact get_push2
  have kH : Keep h H none_ := by rw [hH]; exact (Keep.push _ _ _).then_push _
  have nH : H.n = h.n + 2 := by rw [hH]; rfl
  have hci : ∀ x : Int, (V.int .i64 x).cells = some [.int .i64 x] := fun _ => rfl
  have hcm : ∀ (n : Nat) (x : List V), (V.imm n x).cells = some [.imm n x] := fun _ _ => rfl
  refine SCalls.enterI (c := _) Tryd.func33 rfl (by kernel_rfl) (by simp) ?_
  simp only [wpA_region, wpA_seq, seqQ_normal, goI_out, goI_ops, opsA_nil, opsA_cons, stepA_assign, stepA_box, stepA_load, stepA_call, thenV_some, thenH_some, eval_tmp, eval_const, put_some, enterF_zero, enterF_succ, absV_snil, aLoad_eq, loadGo_row, aPlace_ptr, dropC_cells, aBox_eq, push_n, Nat.reduceEqDiff, Nat.reduceAdd, List.map_cons, List.map_nil, Option.map_some, Nat.zero_add, Nat.zero_le, List.length_cons, List.length_nil, List.drop_zero, List.take_succ_cons, List.take_nil, if_true, if_false, Nat.le_refl, lt_24, hc, hci, ← hH, gt]
  refine callI_pure cal27 (pParts l p hok H (hg.keep kH)) ?_
  unfold inputsX
  generalize partsX p l = P at hP24 hil
  obtain ⟨H2, hH2⟩ : ∃ x, x = H.push (.cells [.imm P.length (i64V P)] 33 none) := ⟨_, rfl⟩
  have gP : H2.get H.n = .cells [.imm P.length (i64V P)] 33 none := by rw [hH2]; exact get_push_new
  have k2 : Keep H H2 none_ := by rw [hH2]; exact Keep.push _ _ _
  have n2 : H2.n = H.n + 1 := by rw [hH2]; rfl
  have gt2 := (k2.get h.n (by omega) (by simp [none_])).trans gt
  have gp2 := (k2.get (h.n + 1) (by omega) (by simp [none_])).trans gp
  simp only [wpA_region, wpA_seq, wpA_block, wpA_loop, seqQ_normal, goI_out, goI_ops, opsA_nil, opsA_cons, stepA_move, stepA_assign, stepA_alloc, stepA_load, stepA_store, stepA_extract, stepA_len, thenV_some, thenH_some, thenS_some, extV_zero, extV_succ, eval_tmp, eval_const, put_some, put_none, enterF_succ, absV_int, absV_snil, one_imm, all_nil, all_cons, aLoad_eq, loadGo_one, aPlace_ptr, dropC_cells, aStore_eq, storeGo_ptr, setC_row, setAll_nil, setAll_cons, aAlloc_eq, aLen_imm, get_push_new, set_push, Nat.reduceEqDiff, Option.map_some, Nat.zero_add, Nat.zero_le, List.length_cons, List.length_nil, List.drop_zero, List.set_cons_zero, if_true, if_false, Bool.and_self, Nat.le_refl, kt_33, lt_33, zc_33, zt_33, hcm, ← hH2, gP]
  refine SWp.loopG (α := V × Nat) (fun x f h' => f 2 = .ptr h.n 0 ∧ f 3 = .ptr (h.n + 1) 0 ∧ f 5 = .ptr H.n 0 ∧ f 7 = x.1 ∧ f 15 = .imm P.length (i64V P) ∧ f 16 = .int .i64 ((P.length : Nat) : Int) ∧ f 17 = .int .i64 (x.2 : Nat) ∧ x.2 ≤ P.length ∧ Acc H2 h' 3 1 x.1 (i64V (inN l P part x.2))) (fun x => P.length - x.2) (.snil, 0) ⟨rfl, rfl, rfl, rfl, rfl, rfl, rfl, Nat.zero_le _, Acc.nil (Keep.refl _ _)⟩ ?_
  rintro ⟨u, i⟩ f h1 ⟨f2, f3, f5, f7, f15, f16, f17, hi, a1⟩
  simp only at f7 f17 hi a1
  have gt3 := (a1.keep.get h.n (by omega) (by simp [none_])).trans gt2
  have gp3 := (a1.keep.get (h.n + 1) (by omega) (by simp [none_])).trans gp2
  have gP3 := (a1.keep.get H.n (by omega) (by simp [none_])).trans gP
  refine wpI_sound (by kernel_rfl) ?_
  by_cases hlt : i < P.length
  rotate_left
  · have c5 : decide ((i : Int) < ((P.length : Nat) : Int)) = false := by simp only [decide_eq_false_iff_not]; omega
    have hiP : i = P.length := by omega
    rw [hiP] at a1
    simp only [wpA_region, wpA_seq, wpA_cond, wpA_exit, wpA_ret, condI_false, seqQ_normal, seqQ_exit, blkQ_exit, endI_mk, goE, andThen_exit, goI_out, goI_ops, opsA_nil, opsA_cons, stepA_move, stepA_assign, stepA_binOp, thenV_some, eval_tmp, put_some, aBin_lss, Nat.reduceEqDiff, if_true, if_false, f7, f16, f17, c5, retA_ret, Tryd.results33, resultsA_1]
    exact hid_mk ⟨a1.own, (kH.trans' k2).trans' a1.keep, fun k hk => by have := a1.new k hk; omega⟩
  have c5 : decide ((i : Int) < ((P.length : Nat) : Int)) = true := by simp only [decide_eq_true_eq]; omega
  have hil2 : i < l.length := by omega
  have x1 := i64V_ix' (P := Tryd.prog) (kk := .i64) hlt ss_33
  have hgd : P.getD i 0 = P[i] := by rw [List.getD, List.getElem?_eq_getElem hlt]; rfl
  rw [← hgd] at x1
  obtain ⟨x2, lu0, lk⟩ := kind_ix hil2
  have w2 : IntKind.i64.wrap (((i : Nat) : Int) + 1) = ((i + 1 : Nat) : Int) := by rw [Go.IntWalk.i64_in _ (by omega)]; omega
  have hlen := inN_len l P part i
  have hnx : inN l P part (i + 1) = inN l P part i ++ (if isIn l P part i then [(i : Int)] else []) := rfl
  obtain ⟨v2, h3, q1, a2⟩ := a1.elem (P := Tryd.prog) sl_33 (by decide) (xs := [.int .i64 (i : Nat)]) rfl rfl (by simp [i64V_length, lim]; omega) (by simp [i64V_length, lim]; omega)
  have yes : isIn l P part i = true → Acc H2 h3 3 1 v2 (i64V (inN l P part (i + 1))) := fun hh => by rw [hnx, hh, if_pos rfl, i64V_append]; exact a2
  have no : isIn l P part i = false → Acc H2 h1 3 1 u (i64V (inN l P part (i + 1))) := fun hh => by rw [hnx, hh, if_neg (by simp), List.append_nil]; exact a1
  have hdef : isIn l P part i = ((kindAt l (i : Int) == 1 && P.getD i 0 == part) || (kindAt l (i : Int) == 5 && (usF (i : Int) 0 l).any fun u => P.getD u.toNat 0 == part)) := rfl
  cases k1 : (kindAt l (i : Int) == 1)
  · cases k5 : (kindAt l (i : Int) == 5)
    · rw [k1, k5] at hdef
      simp only [wpA_skip, wpA_region, wpA_seq, wpA_cond, wpA_block, condI_true, condI_false, seqQ_normal, blkQ_normal, endI_mk, andThen_normal, goI_out, goI_ops, opsA_nil, opsA_cons, stepA_move, stepA_assign, stepA_load, stepA_binOp, stepA_fieldAddr, stepA_indexAddr, thenV_some, eval_tmp, eval_const, put_some, aBin_add, aBin_eql, aBin_lss, absV_int, aField_eq, fieldGo_ptr, fieldGo_at, aLoad_eq, loadGo_one, aPlace_ptr, aPlace_at, dropC_cells, Nat.reduceEqDiff, Nat.reduceAdd, Nat.add_zero, Nat.zero_add, Nat.zero_le, List.length_cons, List.length_nil, List.drop_zero, if_true, if_false, ft_24_0, ft_47_0, lt_22, lt_3, f2, f15, f16, f17, c5, x1, gt3, x2, lu0, k1, k5, w2]
      exact hid_mk ⟨(u, i + 1), ⟨f2, f3, f5, f7, f15, f16, rfl, by simp only; omega, no hdef⟩, by simp only; omega⟩
    · rw [k1, k5] at hdef
      simp only [wpA_skip, wpA_region, wpA_seq, wpA_cond, wpA_block, condI_true, condI_false, seqQ_normal, goI_out, goI_ops, opsA_nil, opsA_cons, stepA_move, stepA_assign, stepA_load, stepA_binOp, stepA_fieldAddr, stepA_indexAddr, stepA_call, thenV_some, eval_tmp, eval_const, put_some, aBin_eql, aBin_lss, absV_int, aField_eq, fieldGo_ptr, fieldGo_at, aLoad_eq, loadGo_one, loadGo_row, aPlace_ptr, aPlace_at, dropC_cells, Nat.reduceEqDiff, Nat.reduceAdd, List.map_cons, List.map_nil, Nat.add_zero, Nat.zero_add, Nat.zero_le, List.length_cons, List.length_nil, List.drop_zero, List.take_succ_cons, List.take_nil, if_true, if_false, Nat.le_refl, ft_24_0, ft_47_0, lt_22, lt_24, lt_3, f2, f15, f16, f17, c5, x1, gt3, x2, lu0, k1, k5]
      refine callI_pure cal19 (pUsers l p (i : Int) hok (by omega) h1) ?_
      simp only [goI_ops, opsA_cons, stepA_makeFunc, stepA_call, eval_tmp, put_some, Nat.reduceEqDiff, List.map_cons, List.map_nil, if_true, if_false, f3, f5]
      refine callI_pure cal57 (pContF (usF (i : Int) 0 l) H.n (h.n + 1) P part (fun u hu => by
        obtain ⟨m, x, e1, e2, _⟩ := usF_mem.1 hu
        have := (List.getElem?_eq_some_iff.1 e2).1
        omega) (by have := usF_len (v := (i : Int)) (l := l) (j := 0); omega) h1 gP3 gp3) ?_
      cases cc : (usF (i : Int) 0 l).any fun u => P.getD u.toNat 0 == part
      · rw [cc] at hdef
        simp only [wpA_skip, wpA_region, wpA_cond, condI_false, seqQ_normal, blkQ_normal, endI_mk, andThen_normal, goI_out, goI_ops, opsA_nil, opsA_cons, stepA_move, stepA_binOp, thenV_some, eval_tmp, eval_const, put_some, aBin_add, absV_int, Nat.reduceEqDiff, if_true, if_false, f17, w2]
        exact hid_mk ⟨(u, i + 1), ⟨f2, f3, f5, f7, f15, f16, rfl, by simp only; omega, no hdef⟩, by simp only; omega⟩
      · rw [cc] at hdef
        simp only [wpA_region, wpA_cond, condI_true, seqQ_normal, blkQ_normal, endI_mk, andThen_normal, goI_out, goI_ops, opsA_nil, opsA_cons, stepA_move, stepA_assign, stepA_buildSlice, stepA_binOp, stepA_append, thenV_some, thenH_some, eval_tmp, eval_const, put_some, aBin_add, absV_int, Nat.reduceEqDiff, List.map_cons, List.map_nil, if_true, if_false, f7, f17, litI1, q1, w2]
        exact hid_mk ⟨(v2, i + 1), ⟨f2, f3, f5, rfl, f15, f16, rfl, by simp only; omega, yes hdef⟩, by simp only; omega⟩
  · have k5 : (kindAt l (i : Int) == 5) = false := by
      rw [beq_iff_eq] at k1
      rw [k1]
      rfl
    rw [k1, k5] at hdef
    cases kp : (P.getD i 0 == part)
    · rw [kp] at hdef
      simp only [wpA_skip, wpA_region, wpA_seq, wpA_cond, wpA_block, condI_true, condI_false, seqQ_normal, blkQ_normal, endI_mk, andThen_normal, goI_out, goI_ops, opsA_nil, opsA_cons, stepA_move, stepA_assign, stepA_load, stepA_binOp, stepA_fieldAddr, stepA_indexAddr, thenV_some, eval_tmp, eval_const, put_some, aBin_add, aBin_eql, aBin_lss, absV_int, aField_eq, fieldGo_ptr, fieldGo_at, aLoad_eq, loadGo_one, aPlace_ptr, aPlace_at, dropC_cells, Nat.reduceEqDiff, Nat.reduceAdd, Nat.add_zero, Nat.zero_add, Nat.zero_le, List.length_cons, List.length_nil, List.drop_zero, if_true, if_false, ft_24_0, ft_47_0, lt_22, lt_3, f2, f3, f15, f16, f17, c5, x1, gt3, gp3, x2, lu0, k1, kp, w2]
      exact hid_mk ⟨(u, i + 1), ⟨f2, f3, f5, f7, f15, f16, rfl, by simp only; omega, no hdef⟩, by simp only; omega⟩
    · rw [kp] at hdef
      simp only [wpA_skip, wpA_region, wpA_seq, wpA_cond, wpA_block, condI_true, seqQ_normal, blkQ_normal, endI_mk, andThen_normal, goI_out, goI_ops, opsA_nil, opsA_cons, stepA_move, stepA_assign, stepA_buildSlice, stepA_load, stepA_binOp, stepA_fieldAddr, stepA_indexAddr, stepA_append, thenV_some, thenH_some, eval_tmp, eval_const, put_some, aBin_add, aBin_eql, aBin_lss, absV_int, aField_eq, fieldGo_ptr, fieldGo_at, aLoad_eq, loadGo_one, aPlace_ptr, aPlace_at, dropC_cells, Nat.reduceEqDiff, Nat.reduceAdd, List.map_cons, List.map_nil, Nat.add_zero, Nat.zero_add, Nat.zero_le, List.length_cons, List.length_nil, List.drop_zero, if_true, if_false, ft_24_0, ft_47_0, lt_22, lt_3, f2, f3, f7, f15, f16, f17, c5, x1, gt3, gp3, x2, lu0, k1, kp, litI1, q1, w2]
      exact hid_mk ⟨(v2, i + 1), ⟨f2, f3, f5, rfl, f15, f16, rfl, by simp only; omega, yes hdef⟩, by simp only; omega⟩
end Go.Proofs.YtpmmbcifhallbaaDoor.Pk
