/-
  What functions of the program do, told of abstract states. Conditions: as each theorem says.
-/
import Derived.Test.YtpmmbcifhallbaaDoorCuQ
namespace Go.Proofs.YtpmmbcifhallbaaDoor.Pk
open Go Go.Proofs Go.Proofs.YtpmmbcifhallbaaDoor.Ab
set_option linter.unusedVariables false
set_option linter.unusedSimpArgs false

set_option maxHeartbeats 2000000 in
set_option maxRecDepth 10000 in
theorem pInputsR (l : List Vx) (p part : Int) (hok : OkT l) (h : AHeap) : Pure Tryd.prog 34 [.agg (topE l p), .int .i64 part] h (.imm (inputsX p l part).length (i64V (inputsX p l part))) := by
  have h24 := parts_24 (p := p) (l := l)
  refine Pure.acc (e := 3) (sz := 1) (i64V_clo _) (by rw [i64V_length, Nat.mul_one]) (by decide) ?_
  have hc : (V.agg (topE l p)).cells = some [.imm l.length (l.flatMap encX), .int .i64 p] := rfl
  obtain ⟨H, hH⟩ : ∃ x, x = h.push (.cells [.imm l.length (l.flatMap encX), .int .i64 p] 24 none) := ⟨_, rfl⟩
  have gt : H.get h.n = .cells [.imm l.length (l.flatMap encX), .int .i64 p] 24 none := by rw [hH]; exact get_push_new
  have kH : Keep h H none_ := by rw [hH]; exact Keep.push _ _ _
  have nH : H.n = h.n + 1 := by rw [hH]; rfl
  have hPl : 0 < (partsX p l).length → (partsX p l).length = l.length ∧ l.length ≤ 24 := fun hh => by
    by_cases h0 : (chkT p l).2 = 0
    · exact ⟨partsX_len h0, by rw [partsX_len h0] at h24; exact h24⟩
    · rw [partsX, if_neg h0] at hh; simp at hh
  refine SCalls.enterI (c := _) Tryd.func34 rfl (by kernel_rfl) (by simp) ?_
  simp only [wpA_region, wpA_seq, seqQ_normal, goI_out, goI_ops, opsA_nil, opsA_cons, stepA_assign, stepA_box, stepA_load, stepA_call, thenV_some, thenH_some, eval_tmp, eval_const, put_some, enterF_zero, enterF_succ, absV_snil, aLoad_eq, loadGo_row, aPlace_ptr, dropC_cells, aBox_eq, Nat.reduceEqDiff, Nat.reduceAdd, List.map_cons, List.map_nil, Option.map_some, Nat.zero_add, Nat.zero_le, List.length_cons, List.length_nil, List.drop_zero, List.take_succ_cons, List.take_nil, if_true, if_false, Nat.le_refl, lt_24, hc, ← hH, gt]
  refine callI_pure cal28 (pPartsR l p hok H) ?_
  have hI : inputsX p l part = inN l (partsX p l) part (partsX p l).length := rfl
  rw [hI]
  clear hI
  generalize partsX p l = P at *
  simp only [wpA_region, wpA_seq, wpA_block, wpA_loop, seqQ_normal, goI_out, goI_ops, opsA_nil, opsA_cons, stepA_move, stepA_assign, stepA_extract, thenV_some, extV_zero, extV_succ, eval_tmp, eval_const, put_some, enterF_succ, absV_int, absV_snil, Nat.reduceEqDiff, if_true, if_false]
  refine SWp.loopG (α := V × Nat) (fun x f h' => f 1 = .int .i64 part ∧ f 2 = .ptr h.n 0 ∧ f 5 = .imm P.length (i64V P) ∧ f 7 = x.1 ∧ f 8 = .int .i64 (x.2 : Nat) ∧ x.2 ≤ P.length ∧ Acc H h' 3 1 x.1 (i64V (inN l P part x.2))) (fun x => P.length - x.2) (.snil, 0) ⟨rfl, rfl, rfl, rfl, rfl, Nat.zero_le _, Acc.nil (Keep.refl _ _)⟩ ?_
  rintro ⟨u, i⟩ f h1 ⟨f1, f2, f5, f7, f8, hi, a1⟩
  simp only at f7 f8 hi a1
  have gt1 := (a1.keep.get h.n (by omega) (by simp [none_])).trans gt
  refine wpI_sound (by kernel_rfl) ?_
  by_cases hlt : i < P.length
  rotate_left
  · have c3 : decide ((i : Int) < ((P.length : Nat) : Int)) = false := by simp only [decide_eq_false_iff_not]; omega
    obtain rfl : i = P.length := by omega
    simp only [wpA_region, wpA_seq, wpA_cond, wpA_exit, wpA_ret, condI_false, seqQ_normal, seqQ_exit, blkQ_exit, endI_mk, goE, andThen_exit, goI_out, goI_ops, opsA_nil, opsA_cons, stepA_move, stepA_assign, stepA_binOp, stepA_len, thenV_some, eval_tmp, put_some, aBin_lss, aLen_imm, Nat.reduceEqDiff, if_true, if_false, kt_33, f5, f7, f8, c3, retA_ret, Tryd.results34, resultsA_1]
    exact hid_mk ⟨a1.own, kH.trans' a1.keep, fun k hk => by have := a1.new k hk; omega⟩
  have c3 : decide ((i : Int) < ((P.length : Nat) : Int)) = true := by simp only [decide_eq_true_eq]; omega
  obtain ⟨hPL, l24⟩ := hPl (by omega)
  have w2 : IntKind.i64.wrap (((i : Nat) : Int) + 1) = ((i + 1 : Nat) : Int) := by rw [Go.IntWalk.i64_in _ (by omega)]; omega
  have xi := i64V_ix' (P := Tryd.prog) (kk := .i64) hlt ss_33
  have hgi : P.getD i 0 = P[i] := by rw [List.getD, List.getElem?_eq_getElem hlt]; rfl
  rw [← hgi] at xi
  obtain ⟨x2, lu2, _⟩ := kind_ix (l := l) (q := i) (by omega)
  have bU := pUsersR l p (i : Int) hok (by omega) h1
  have hul : (usF (i : Int) 0 l).length ≤ 24 := by have := usF_len (v := (i : Int)) (l := l) (j := 0); omega
  have hus : ∀ u ∈ usF (i : Int) 0 l, ∃ m : Nat, u = (m : Int) ∧ m < l.length := fun u hu => by
    obtain ⟨m, _, a, b, _⟩ := us_lt hu
    exact ⟨m, a, b⟩
  have hnx : inN l P part (i + 1) = inN l P part i ++ (if isIn l P part i then [(i : Int)] else []) := rfl
  have hin : isIn l P part i = ((P.getD i 0 == part && kindAt l (i : Int) == 1) || (kindAt l (i : Int) == 5 && (usF (i : Int) 0 l).any fun u => P.getD u.toNat 0 == part)) := by
    unfold isIn; rw [Bool.and_comm (P.getD i 0 == part)]
  have hlen := inN_len l P part i
  obtain ⟨v2, h3, q1, a2⟩ := a1.elem (P := Tryd.prog) sl_33 (by decide) (xs := [.int .i64 (i : Nat)]) rfl rfl (by simp [i64V_length, lim]; omega) (by simp [i64V_length, lim]; omega)
  have yes : isIn l P part i = true → Acc H h3 3 1 v2 (i64V (inN l P part (i + 1))) := fun hh => by rw [hnx, hh, if_pos rfl, i64V_append]; exact a2
  have no : isIn l P part i = false → Acc H h1 3 1 u (i64V (inN l P part (i + 1))) := fun hh => by rw [hnx, hh, if_neg (by simp), List.append_nil]; exact a1
  generalize isIn l P part i = Z at hin yes no
  clear hnx a2
  generalize usF (i : Int) 0 l = U at *
  obtain ⟨G, hGd⟩ : ∃ G : Bool → Nat → Bool, G = fun b j => b || (kindAt l (i : Int) == 5 && (U.take j).any fun u => P.getD u.toNat 0 == part) := ⟨_, rfl⟩
  have hG0 : ∀ b, G b 0 = b := fun b => by rw [hGd]; simp
  have hGs : ∀ b j (hj : j < U.length), G b (j + 1) = (G b j || (kindAt l (i : Int) == 5 && P.getD (U[j]).toNat 0 == part)) := fun b j hj => by
    rw [hGd]
    simp only [List.take_succ_eq_append_getElem hj, List.any_append, List.any_cons, List.any_nil, Bool.or_false]
    cases b <;> cases (kindAt l (i : Int) == 5) <;> simp
  have hGe : G (P.getD i 0 == part && kindAt l (i : Int) == 1) U.length = Z := by
    rw [hGd]
    simp only [List.take_length]
    exact hin.symm
  clear hGd hin
  have inner : ∀ BB : Bool, (P.getD i 0 == part && kindAt l (i : Int) == 1) = BB → G BB U.length = Z := fun BB e => by rw [← e]; exact hGe
  cases kp : (P.getD i 0 == part)
  · cases k1 : (kindAt l (i : Int) == 1)
    · have hGe := inner false (by rw [k1, kp]; rfl)
      simp only [wpA_skip, wpA_region, wpA_seq, wpA_cond, wpA_block, condI_true, seqQ_normal, goI_out, goI_ops, opsA_nil, opsA_cons, opsA_guardS, gvI_ft, slotAt_zero, slotAt_succ, stepA_move, stepA_assign, stepA_pick, stepA_load, stepA_binOp, stepA_indexAddr, stepA_len, stepA_call, thenV_some, pickV_false, eval_tmp, eval_const, put_some, aBin_eql, aBin_lss, absV_bool, aLoad_eq, loadGo_one, loadGo_row, aPlace_ptr, aPlace_at, dropC_cells, aLen_imm, Nat.reduceEqDiff, Nat.reduceAdd, List.map_cons, List.map_nil, Nat.zero_add, Nat.zero_le, List.length_cons, List.length_nil, List.drop_zero, List.take_succ_cons, List.take_nil, if_true, if_false, Nat.le_refl, kt_33, lt_24, lt_3, f1, f2, f5, f8, c3, gt1, xi, kp]
      refine callI_pure cal20 bU ?_
      simp only [wpA_region, wpA_seq, wpA_block, wpA_loop, seqQ_normal, goI_out, goI_ops, opsA_nil, opsA_cons, stepA_assign, eval_tmp, eval_const, put_some, absV_int, Nat.reduceEqDiff, if_true, if_false]
      refine SWp.loopG (α := Nat) (fun j f h' => f 1 = .int .i64 part ∧ f 2 = .ptr h.n 0 ∧ f 5 = .imm P.length (i64V P) ∧ f 7 = u ∧ f 8 = .int .i64 (i : Nat) ∧ f 9 = .bool (G false j) ∧ f 10 = .imm U.length (i64V U) ∧ f 11 = .int .i64 (j : Nat) ∧ j ≤ U.length ∧ h' = h1) (fun j => U.length - j) 0 ⟨f1, f2, f5, f7, f8, by rw [hG0]; rfl, rfl, rfl, Nat.zero_le _, rfl⟩ ?_
      rintro j d h4 ⟨d1, d2, d5, d7, d8, d9, d10, d11, hj, rfl⟩
      refine wpI_sound (by kernel_rfl) ?_
      by_cases hjl : j < U.length
      · have c8 : decide ((j : Int) < ((U.length : Nat) : Int)) = true := by simp only [decide_eq_true_eq]; omega
        have xU := i64V_ix' (P := Tryd.prog) (kk := .i64) (l := U) (k := j) hjl ss_33
        obtain ⟨m, m1, m2⟩ := hus U[j] (List.getElem_mem hjl)
        have hS := hGs false j hjl
        rw [m1] at xU hS
        rw [Int.toNat_natCast] at hS
        have xm := i64V_ix' (P := Tryd.prog) (kk := .i64) (l := P) (k := m) (by omega) ss_33
        have hgm : P.getD m 0 = P[m] := by rw [List.getD, List.getElem?_eq_getElem (by omega)]; rfl
        rw [← hgm] at xm
        have w7 : IntKind.i64.wrap (((j : Nat) : Int) + 1) = ((j + 1 : Nat) : Int) := by rw [Go.IntWalk.i64_in _ (by omega)]; omega
        cases gj : G false j
        · cases k5 : (kindAt l (i : Int) == 5)
          · rw [gj, k5] at hS
            simp only [wpA_skip, wpA_region, wpA_seq, wpA_cond, wpA_block, condI_true, seqQ_normal, blkQ_normal, endI_mk, andThen_normal, goI_out, goI_ops, opsA_nil, opsA_cons, opsA_guardS, gvI_same, gvI_ft, slotAt_zero, slotAt_succ, stepA_move, stepA_assign, stepA_pick, stepA_load, stepA_binOp, stepA_fieldAddr, stepA_indexAddr, stepA_len, thenV_some, pickV_false, eval_tmp, eval_const, put_some, aBin_add, aBin_eql, aBin_lss, absV_int, absV_bool, aField_eq, fieldGo_ptr, fieldGo_at, aLoad_eq, loadGo_one, aPlace_ptr, aPlace_at, dropC_cells, aLen_imm, Nat.reduceEqDiff, Nat.reduceAdd, Nat.add_zero, Nat.zero_add, Nat.zero_le, List.length_cons, List.length_nil, List.drop_zero, if_true, if_false, ft_24_0, ft_47_0, kt_33, lt_22, lt_3, d2, d8, d9, d10, d11, c8, gj, gt1, x2, lu2, k5, w7]
            exact hid_mk ⟨j + 1, ⟨d1, d2, d5, d7, d8, by rw [hS]; rfl, d10, rfl, by omega, rfl⟩, by omega⟩
          · cases kx : (P.getD m 0 == part) <;>
              (rw [gj, k5, kx] at hS
               simp only [wpA_skip, wpA_region, wpA_seq, wpA_cond, wpA_block, condI_true, seqQ_normal, blkQ_normal, endI_mk, andThen_normal, goI_out, goI_ops, opsA_nil, opsA_cons, opsA_guardS, gvI_same, slotAt_zero, slotAt_succ, stepA_move, stepA_assign, stepA_pick, stepA_load, stepA_binOp, stepA_fieldAddr, stepA_indexAddr, stepA_len, thenV_some, pickV_true, pickV_false, eval_tmp, eval_const, put_some, aBin_add, aBin_eql, aBin_lss, absV_int, absV_bool, aField_eq, fieldGo_ptr, fieldGo_at, aLoad_eq, loadGo_one, aPlace_ptr, aPlace_at, dropC_cells, aLen_imm, Nat.reduceEqDiff, Nat.reduceAdd, Nat.add_zero, Nat.zero_add, Nat.zero_le, List.length_cons, List.length_nil, List.drop_zero, if_true, if_false, ft_24_0, ft_47_0, kt_33, lt_22, lt_3, d1, d2, d5, d8, d9, d10, d11, c8, gj, gt1, x2, lu2, k5, xU, xm, kx, w7]
               exact hid_mk ⟨j + 1, ⟨d1, d2, d5, d7, d8, by rw [hS]; rfl, d10, rfl, by omega, rfl⟩, by omega⟩)
        · rw [gj] at hS
          simp only [wpA_skip, wpA_region, wpA_seq, wpA_cond, wpA_block, condI_true, seqQ_normal, blkQ_normal, endI_mk, andThen_normal, goI_out, goI_ops, opsA_nil, opsA_cons, opsA_guardS, gvI_tf, gvI_u, slotAt_zero, slotAt_succ, stepA_move, stepA_assign, stepA_pick, stepA_binOp, stepA_len, thenV_some, pickV_true, eval_tmp, eval_const, put_some, aBin_add, aBin_lss, absV_int, absV_bool, aLen_imm, Nat.reduceEqDiff, if_true, if_false, kt_33, d9, d10, d11, c8, gj, w7]
          exact hid_mk ⟨j + 1, ⟨d1, d2, d5, d7, d8, by rw [hS]; rfl, d10, rfl, by omega, rfl⟩, by omega⟩
      · have c8 : decide ((j : Int) < ((U.length : Nat) : Int)) = false := by simp only [decide_eq_false_iff_not]; omega
        obtain rfl : j = U.length := by omega
        rw [hGe] at d9
        cases Z
        · simp only [wpA_skip, wpA_region, wpA_seq, wpA_cond, wpA_exit, wpA_ret, condI_false, seqQ_normal, seqQ_exit, blkQ_normal, blkQ_exit, endI_mk, goE, andThen_normal, andThen_exit, goI_out, goI_ops, opsA_nil, opsA_cons, stepA_move, stepA_assign, stepA_binOp, stepA_len, thenV_some, eval_tmp, eval_const, put_some, aBin_add, aBin_lss, absV_int, aLen_imm, Nat.reduceEqDiff, reduceCtorEq, if_true, if_false, kt_33, d7, d8, d9, d10, d11, c8, w2]
          exact hid_mk ⟨(u, i + 1), ⟨d1, d2, d5, d7, rfl, by simp only; omega, no rfl⟩, by simp only; omega⟩
        · simp only [wpA_region, wpA_seq, wpA_cond, wpA_exit, wpA_ret, condI_true, condI_false, seqQ_normal, seqQ_exit, blkQ_normal, blkQ_exit, endI_mk, goE, andThen_normal, andThen_exit, goI_out, goI_ops, opsA_nil, opsA_cons, stepA_move, stepA_assign, stepA_buildSlice, stepA_binOp, stepA_len, stepA_append, thenV_some, thenH_some, eval_tmp, eval_const, put_some, aBin_add, aBin_lss, absV_int, aLen_imm, Nat.reduceEqDiff, reduceCtorEq, List.map_cons, List.map_nil, if_true, if_false, kt_33, d7, d8, d9, d10, d11, c8, litI1, q1, w2]
          exact hid_mk ⟨(v2, i + 1), ⟨d1, d2, d5, rfl, rfl, by simp only; omega, yes rfl⟩, by simp only; omega⟩
    · have hGe := inner false (by rw [k1, kp]; rfl)
      simp only [wpA_skip, wpA_region, wpA_seq, wpA_cond, wpA_block, condI_true, seqQ_normal, goI_out, goI_ops, opsA_nil, opsA_cons, opsA_guardS, gvI_ft, slotAt_zero, slotAt_succ, stepA_move, stepA_assign, stepA_pick, stepA_load, stepA_binOp, stepA_indexAddr, stepA_len, stepA_call, thenV_some, pickV_false, eval_tmp, eval_const, put_some, aBin_eql, aBin_lss, absV_bool, aLoad_eq, loadGo_one, loadGo_row, aPlace_ptr, aPlace_at, dropC_cells, aLen_imm, Nat.reduceEqDiff, Nat.reduceAdd, List.map_cons, List.map_nil, Nat.zero_add, Nat.zero_le, List.length_cons, List.length_nil, List.drop_zero, List.take_succ_cons, List.take_nil, if_true, if_false, Nat.le_refl, kt_33, lt_24, lt_3, f1, f2, f5, f8, c3, gt1, xi, kp]
      refine callI_pure cal20 bU ?_
      simp only [wpA_region, wpA_seq, wpA_block, wpA_loop, seqQ_normal, goI_out, goI_ops, opsA_nil, opsA_cons, stepA_assign, eval_tmp, eval_const, put_some, absV_int, Nat.reduceEqDiff, if_true, if_false]
      refine SWp.loopG (α := Nat) (fun j f h' => f 1 = .int .i64 part ∧ f 2 = .ptr h.n 0 ∧ f 5 = .imm P.length (i64V P) ∧ f 7 = u ∧ f 8 = .int .i64 (i : Nat) ∧ f 9 = .bool (G false j) ∧ f 10 = .imm U.length (i64V U) ∧ f 11 = .int .i64 (j : Nat) ∧ j ≤ U.length ∧ h' = h1) (fun j => U.length - j) 0 ⟨f1, f2, f5, f7, f8, by rw [hG0]; rfl, rfl, rfl, Nat.zero_le _, rfl⟩ ?_
      rintro j d h4 ⟨d1, d2, d5, d7, d8, d9, d10, d11, hj, rfl⟩
      refine wpI_sound (by kernel_rfl) ?_
      by_cases hjl : j < U.length
      · have c8 : decide ((j : Int) < ((U.length : Nat) : Int)) = true := by simp only [decide_eq_true_eq]; omega
        have xU := i64V_ix' (P := Tryd.prog) (kk := .i64) (l := U) (k := j) hjl ss_33
        obtain ⟨m, m1, m2⟩ := hus U[j] (List.getElem_mem hjl)
        have hS := hGs false j hjl
        rw [m1] at xU hS
        rw [Int.toNat_natCast] at hS
        have xm := i64V_ix' (P := Tryd.prog) (kk := .i64) (l := P) (k := m) (by omega) ss_33
        have hgm : P.getD m 0 = P[m] := by rw [List.getD, List.getElem?_eq_getElem (by omega)]; rfl
        rw [← hgm] at xm
        have w7 : IntKind.i64.wrap (((j : Nat) : Int) + 1) = ((j + 1 : Nat) : Int) := by rw [Go.IntWalk.i64_in _ (by omega)]; omega
        cases gj : G false j
        · cases k5 : (kindAt l (i : Int) == 5)
          · rw [gj, k5] at hS
            simp only [wpA_skip, wpA_region, wpA_seq, wpA_cond, wpA_block, condI_true, seqQ_normal, blkQ_normal, endI_mk, andThen_normal, goI_out, goI_ops, opsA_nil, opsA_cons, opsA_guardS, gvI_same, gvI_ft, slotAt_zero, slotAt_succ, stepA_move, stepA_assign, stepA_pick, stepA_load, stepA_binOp, stepA_fieldAddr, stepA_indexAddr, stepA_len, thenV_some, pickV_false, eval_tmp, eval_const, put_some, aBin_add, aBin_eql, aBin_lss, absV_int, absV_bool, aField_eq, fieldGo_ptr, fieldGo_at, aLoad_eq, loadGo_one, aPlace_ptr, aPlace_at, dropC_cells, aLen_imm, Nat.reduceEqDiff, Nat.reduceAdd, Nat.add_zero, Nat.zero_add, Nat.zero_le, List.length_cons, List.length_nil, List.drop_zero, if_true, if_false, ft_24_0, ft_47_0, kt_33, lt_22, lt_3, d2, d8, d9, d10, d11, c8, gj, gt1, x2, lu2, k5, w7]
            exact hid_mk ⟨j + 1, ⟨d1, d2, d5, d7, d8, by rw [hS]; rfl, d10, rfl, by omega, rfl⟩, by omega⟩
          · cases kx : (P.getD m 0 == part) <;>
              (rw [gj, k5, kx] at hS
               simp only [wpA_skip, wpA_region, wpA_seq, wpA_cond, wpA_block, condI_true, seqQ_normal, blkQ_normal, endI_mk, andThen_normal, goI_out, goI_ops, opsA_nil, opsA_cons, opsA_guardS, gvI_same, slotAt_zero, slotAt_succ, stepA_move, stepA_assign, stepA_pick, stepA_load, stepA_binOp, stepA_fieldAddr, stepA_indexAddr, stepA_len, thenV_some, pickV_true, pickV_false, eval_tmp, eval_const, put_some, aBin_add, aBin_eql, aBin_lss, absV_int, absV_bool, aField_eq, fieldGo_ptr, fieldGo_at, aLoad_eq, loadGo_one, aPlace_ptr, aPlace_at, dropC_cells, aLen_imm, Nat.reduceEqDiff, Nat.reduceAdd, Nat.add_zero, Nat.zero_add, Nat.zero_le, List.length_cons, List.length_nil, List.drop_zero, if_true, if_false, ft_24_0, ft_47_0, kt_33, lt_22, lt_3, d1, d2, d5, d8, d9, d10, d11, c8, gj, gt1, x2, lu2, k5, xU, xm, kx, w7]
               exact hid_mk ⟨j + 1, ⟨d1, d2, d5, d7, d8, by rw [hS]; rfl, d10, rfl, by omega, rfl⟩, by omega⟩)
        · rw [gj] at hS
          simp only [wpA_skip, wpA_region, wpA_seq, wpA_cond, wpA_block, condI_true, seqQ_normal, blkQ_normal, endI_mk, andThen_normal, goI_out, goI_ops, opsA_nil, opsA_cons, opsA_guardS, gvI_tf, gvI_u, slotAt_zero, slotAt_succ, stepA_move, stepA_assign, stepA_pick, stepA_binOp, stepA_len, thenV_some, pickV_true, eval_tmp, eval_const, put_some, aBin_add, aBin_lss, absV_int, absV_bool, aLen_imm, Nat.reduceEqDiff, if_true, if_false, kt_33, d9, d10, d11, c8, gj, w7]
          exact hid_mk ⟨j + 1, ⟨d1, d2, d5, d7, d8, by rw [hS]; rfl, d10, rfl, by omega, rfl⟩, by omega⟩
      · have c8 : decide ((j : Int) < ((U.length : Nat) : Int)) = false := by simp only [decide_eq_false_iff_not]; omega
        obtain rfl : j = U.length := by omega
        rw [hGe] at d9
        cases Z
        · simp only [wpA_skip, wpA_region, wpA_seq, wpA_cond, wpA_exit, wpA_ret, condI_false, seqQ_normal, seqQ_exit, blkQ_normal, blkQ_exit, endI_mk, goE, andThen_normal, andThen_exit, goI_out, goI_ops, opsA_nil, opsA_cons, stepA_move, stepA_assign, stepA_binOp, stepA_len, thenV_some, eval_tmp, eval_const, put_some, aBin_add, aBin_lss, absV_int, aLen_imm, Nat.reduceEqDiff, reduceCtorEq, if_true, if_false, kt_33, d7, d8, d9, d10, d11, c8, w2]
          exact hid_mk ⟨(u, i + 1), ⟨d1, d2, d5, d7, rfl, by simp only; omega, no rfl⟩, by simp only; omega⟩
        · simp only [wpA_region, wpA_seq, wpA_cond, wpA_exit, wpA_ret, condI_true, condI_false, seqQ_normal, seqQ_exit, blkQ_normal, blkQ_exit, endI_mk, goE, andThen_normal, andThen_exit, goI_out, goI_ops, opsA_nil, opsA_cons, stepA_move, stepA_assign, stepA_buildSlice, stepA_binOp, stepA_len, stepA_append, thenV_some, thenH_some, eval_tmp, eval_const, put_some, aBin_add, aBin_lss, absV_int, aLen_imm, Nat.reduceEqDiff, reduceCtorEq, List.map_cons, List.map_nil, if_true, if_false, kt_33, d7, d8, d9, d10, d11, c8, litI1, q1, w2]
          exact hid_mk ⟨(v2, i + 1), ⟨d1, d2, d5, rfl, rfl, by simp only; omega, yes rfl⟩, by simp only; omega⟩
  · cases k1 : (kindAt l (i : Int) == 1)
    · have hGe := inner false (by rw [k1, kp]; rfl)
      simp only [wpA_skip, wpA_region, wpA_seq, wpA_cond, wpA_block, condI_true, seqQ_normal, goI_out, goI_ops, opsA_nil, opsA_cons, opsA_guardS, gvI_same, slotAt_zero, slotAt_succ, stepA_move, stepA_assign, stepA_pick, stepA_load, stepA_binOp, stepA_fieldAddr, stepA_indexAddr, stepA_len, stepA_call, thenV_some, pickV_true, eval_tmp, eval_const, put_some, aBin_eql, aBin_lss, absV_int, absV_bool, aField_eq, fieldGo_ptr, fieldGo_at, aLoad_eq, loadGo_one, loadGo_row, aPlace_ptr, aPlace_at, dropC_cells, aLen_imm, Nat.reduceEqDiff, Nat.reduceAdd, List.map_cons, List.map_nil, Nat.add_zero, Nat.zero_add, Nat.zero_le, List.length_cons, List.length_nil, List.drop_zero, List.take_succ_cons, List.take_nil, if_true, if_false, Nat.le_refl, ft_24_0, ft_47_0, kt_33, lt_22, lt_24, lt_3, f1, f2, f5, f8, c3, gt1, xi, x2, lu2, k1, kp]
      refine callI_pure cal20 bU ?_
      simp only [wpA_region, wpA_seq, wpA_block, wpA_loop, seqQ_normal, goI_out, goI_ops, opsA_nil, opsA_cons, stepA_assign, eval_tmp, eval_const, put_some, absV_int, Nat.reduceEqDiff, if_true, if_false]
      refine SWp.loopG (α := Nat) (fun j f h' => f 1 = .int .i64 part ∧ f 2 = .ptr h.n 0 ∧ f 5 = .imm P.length (i64V P) ∧ f 7 = u ∧ f 8 = .int .i64 (i : Nat) ∧ f 9 = .bool (G false j) ∧ f 10 = .imm U.length (i64V U) ∧ f 11 = .int .i64 (j : Nat) ∧ j ≤ U.length ∧ h' = h1) (fun j => U.length - j) 0 ⟨f1, f2, f5, f7, f8, by rw [hG0]; rfl, rfl, rfl, Nat.zero_le _, rfl⟩ ?_
      rintro j d h4 ⟨d1, d2, d5, d7, d8, d9, d10, d11, hj, rfl⟩
      refine wpI_sound (by kernel_rfl) ?_
      by_cases hjl : j < U.length
      · have c8 : decide ((j : Int) < ((U.length : Nat) : Int)) = true := by simp only [decide_eq_true_eq]; omega
        have xU := i64V_ix' (P := Tryd.prog) (kk := .i64) (l := U) (k := j) hjl ss_33
        obtain ⟨m, m1, m2⟩ := hus U[j] (List.getElem_mem hjl)
        have hS := hGs false j hjl
        rw [m1] at xU hS
        rw [Int.toNat_natCast] at hS
        have xm := i64V_ix' (P := Tryd.prog) (kk := .i64) (l := P) (k := m) (by omega) ss_33
        have hgm : P.getD m 0 = P[m] := by rw [List.getD, List.getElem?_eq_getElem (by omega)]; rfl
        rw [← hgm] at xm
        have w7 : IntKind.i64.wrap (((j : Nat) : Int) + 1) = ((j + 1 : Nat) : Int) := by rw [Go.IntWalk.i64_in _ (by omega)]; omega
        cases gj : G false j
        · cases k5 : (kindAt l (i : Int) == 5)
          · rw [gj, k5] at hS
            simp only [wpA_skip, wpA_region, wpA_seq, wpA_cond, wpA_block, condI_true, seqQ_normal, blkQ_normal, endI_mk, andThen_normal, goI_out, goI_ops, opsA_nil, opsA_cons, opsA_guardS, gvI_same, gvI_ft, slotAt_zero, slotAt_succ, stepA_move, stepA_assign, stepA_pick, stepA_load, stepA_binOp, stepA_fieldAddr, stepA_indexAddr, stepA_len, thenV_some, pickV_false, eval_tmp, eval_const, put_some, aBin_add, aBin_eql, aBin_lss, absV_int, absV_bool, aField_eq, fieldGo_ptr, fieldGo_at, aLoad_eq, loadGo_one, aPlace_ptr, aPlace_at, dropC_cells, aLen_imm, Nat.reduceEqDiff, Nat.reduceAdd, Nat.add_zero, Nat.zero_add, Nat.zero_le, List.length_cons, List.length_nil, List.drop_zero, if_true, if_false, ft_24_0, ft_47_0, kt_33, lt_22, lt_3, d2, d8, d9, d10, d11, c8, gj, gt1, x2, lu2, k5, w7]
            exact hid_mk ⟨j + 1, ⟨d1, d2, d5, d7, d8, by rw [hS]; rfl, d10, rfl, by omega, rfl⟩, by omega⟩
          · cases kx : (P.getD m 0 == part) <;>
              (rw [gj, k5, kx] at hS
               simp only [wpA_skip, wpA_region, wpA_seq, wpA_cond, wpA_block, condI_true, seqQ_normal, blkQ_normal, endI_mk, andThen_normal, goI_out, goI_ops, opsA_nil, opsA_cons, opsA_guardS, gvI_same, slotAt_zero, slotAt_succ, stepA_move, stepA_assign, stepA_pick, stepA_load, stepA_binOp, stepA_fieldAddr, stepA_indexAddr, stepA_len, thenV_some, pickV_true, pickV_false, eval_tmp, eval_const, put_some, aBin_add, aBin_eql, aBin_lss, absV_int, absV_bool, aField_eq, fieldGo_ptr, fieldGo_at, aLoad_eq, loadGo_one, aPlace_ptr, aPlace_at, dropC_cells, aLen_imm, Nat.reduceEqDiff, Nat.reduceAdd, Nat.add_zero, Nat.zero_add, Nat.zero_le, List.length_cons, List.length_nil, List.drop_zero, if_true, if_false, ft_24_0, ft_47_0, kt_33, lt_22, lt_3, d1, d2, d5, d8, d9, d10, d11, c8, gj, gt1, x2, lu2, k5, xU, xm, kx, w7]
               exact hid_mk ⟨j + 1, ⟨d1, d2, d5, d7, d8, by rw [hS]; rfl, d10, rfl, by omega, rfl⟩, by omega⟩)
        · rw [gj] at hS
          simp only [wpA_skip, wpA_region, wpA_seq, wpA_cond, wpA_block, condI_true, seqQ_normal, blkQ_normal, endI_mk, andThen_normal, goI_out, goI_ops, opsA_nil, opsA_cons, opsA_guardS, gvI_tf, gvI_u, slotAt_zero, slotAt_succ, stepA_move, stepA_assign, stepA_pick, stepA_binOp, stepA_len, thenV_some, pickV_true, eval_tmp, eval_const, put_some, aBin_add, aBin_lss, absV_int, absV_bool, aLen_imm, Nat.reduceEqDiff, if_true, if_false, kt_33, d9, d10, d11, c8, gj, w7]
          exact hid_mk ⟨j + 1, ⟨d1, d2, d5, d7, d8, by rw [hS]; rfl, d10, rfl, by omega, rfl⟩, by omega⟩
      · have c8 : decide ((j : Int) < ((U.length : Nat) : Int)) = false := by simp only [decide_eq_false_iff_not]; omega
        obtain rfl : j = U.length := by omega
        rw [hGe] at d9
        cases Z
        · simp only [wpA_skip, wpA_region, wpA_seq, wpA_cond, wpA_exit, wpA_ret, condI_false, seqQ_normal, seqQ_exit, blkQ_normal, blkQ_exit, endI_mk, goE, andThen_normal, andThen_exit, goI_out, goI_ops, opsA_nil, opsA_cons, stepA_move, stepA_assign, stepA_binOp, stepA_len, thenV_some, eval_tmp, eval_const, put_some, aBin_add, aBin_lss, absV_int, aLen_imm, Nat.reduceEqDiff, reduceCtorEq, if_true, if_false, kt_33, d7, d8, d9, d10, d11, c8, w2]
          exact hid_mk ⟨(u, i + 1), ⟨d1, d2, d5, d7, rfl, by simp only; omega, no rfl⟩, by simp only; omega⟩
        · simp only [wpA_region, wpA_seq, wpA_cond, wpA_exit, wpA_ret, condI_true, condI_false, seqQ_normal, seqQ_exit, blkQ_normal, blkQ_exit, endI_mk, goE, andThen_normal, andThen_exit, goI_out, goI_ops, opsA_nil, opsA_cons, stepA_move, stepA_assign, stepA_buildSlice, stepA_binOp, stepA_len, stepA_append, thenV_some, thenH_some, eval_tmp, eval_const, put_some, aBin_add, aBin_lss, absV_int, aLen_imm, Nat.reduceEqDiff, reduceCtorEq, List.map_cons, List.map_nil, if_true, if_false, kt_33, d7, d8, d9, d10, d11, c8, litI1, q1, w2]
          exact hid_mk ⟨(v2, i + 1), ⟨d1, d2, d5, rfl, rfl, by simp only; omega, yes rfl⟩, by simp only; omega⟩
    · have hGe := inner true (by rw [k1, kp]; rfl)
      simp only [wpA_skip, wpA_region, wpA_seq, wpA_cond, wpA_block, condI_true, seqQ_normal, goI_out, goI_ops, opsA_nil, opsA_cons, opsA_guardS, gvI_same, slotAt_zero, slotAt_succ, stepA_move, stepA_assign, stepA_pick, stepA_load, stepA_binOp, stepA_fieldAddr, stepA_indexAddr, stepA_len, stepA_call, thenV_some, pickV_true, eval_tmp, eval_const, put_some, aBin_eql, aBin_lss, absV_int, absV_bool, aField_eq, fieldGo_ptr, fieldGo_at, aLoad_eq, loadGo_one, loadGo_row, aPlace_ptr, aPlace_at, dropC_cells, aLen_imm, Nat.reduceEqDiff, Nat.reduceAdd, List.map_cons, List.map_nil, Nat.add_zero, Nat.zero_add, Nat.zero_le, List.length_cons, List.length_nil, List.drop_zero, List.take_succ_cons, List.take_nil, if_true, if_false, Nat.le_refl, ft_24_0, ft_47_0, kt_33, lt_22, lt_24, lt_3, f1, f2, f5, f8, c3, gt1, xi, x2, lu2, k1, kp]
      refine callI_pure cal20 bU ?_
      simp only [wpA_region, wpA_seq, wpA_block, wpA_loop, seqQ_normal, goI_out, goI_ops, opsA_nil, opsA_cons, stepA_assign, eval_tmp, eval_const, put_some, absV_int, Nat.reduceEqDiff, if_true, if_false]
      refine SWp.loopG (α := Nat) (fun j f h' => f 1 = .int .i64 part ∧ f 2 = .ptr h.n 0 ∧ f 5 = .imm P.length (i64V P) ∧ f 7 = u ∧ f 8 = .int .i64 (i : Nat) ∧ f 9 = .bool (G true j) ∧ f 10 = .imm U.length (i64V U) ∧ f 11 = .int .i64 (j : Nat) ∧ j ≤ U.length ∧ h' = h1) (fun j => U.length - j) 0 ⟨f1, f2, f5, f7, f8, by rw [hG0]; rfl, rfl, rfl, Nat.zero_le _, rfl⟩ ?_
      rintro j d h4 ⟨d1, d2, d5, d7, d8, d9, d10, d11, hj, rfl⟩
      refine wpI_sound (by kernel_rfl) ?_
      by_cases hjl : j < U.length
      · have c8 : decide ((j : Int) < ((U.length : Nat) : Int)) = true := by simp only [decide_eq_true_eq]; omega
        have xU := i64V_ix' (P := Tryd.prog) (kk := .i64) (l := U) (k := j) hjl ss_33
        obtain ⟨m, m1, m2⟩ := hus U[j] (List.getElem_mem hjl)
        have hS := hGs true j hjl
        rw [m1] at xU hS
        rw [Int.toNat_natCast] at hS
        have xm := i64V_ix' (P := Tryd.prog) (kk := .i64) (l := P) (k := m) (by omega) ss_33
        have hgm : P.getD m 0 = P[m] := by rw [List.getD, List.getElem?_eq_getElem (by omega)]; rfl
        rw [← hgm] at xm
        have w7 : IntKind.i64.wrap (((j : Nat) : Int) + 1) = ((j + 1 : Nat) : Int) := by rw [Go.IntWalk.i64_in _ (by omega)]; omega
        cases gj : G true j
        · cases k5 : (kindAt l (i : Int) == 5)
          · rw [gj, k5] at hS
            simp only [wpA_skip, wpA_region, wpA_seq, wpA_cond, wpA_block, condI_true, seqQ_normal, blkQ_normal, endI_mk, andThen_normal, goI_out, goI_ops, opsA_nil, opsA_cons, opsA_guardS, gvI_same, gvI_ft, slotAt_zero, slotAt_succ, stepA_move, stepA_assign, stepA_pick, stepA_load, stepA_binOp, stepA_fieldAddr, stepA_indexAddr, stepA_len, thenV_some, pickV_false, eval_tmp, eval_const, put_some, aBin_add, aBin_eql, aBin_lss, absV_int, absV_bool, aField_eq, fieldGo_ptr, fieldGo_at, aLoad_eq, loadGo_one, aPlace_ptr, aPlace_at, dropC_cells, aLen_imm, Nat.reduceEqDiff, Nat.reduceAdd, Nat.add_zero, Nat.zero_add, Nat.zero_le, List.length_cons, List.length_nil, List.drop_zero, if_true, if_false, ft_24_0, ft_47_0, kt_33, lt_22, lt_3, d2, d8, d9, d10, d11, c8, gj, gt1, x2, lu2, k5, w7]
            exact hid_mk ⟨j + 1, ⟨d1, d2, d5, d7, d8, by rw [hS]; rfl, d10, rfl, by omega, rfl⟩, by omega⟩
          · cases kx : (P.getD m 0 == part) <;>
              (rw [gj, k5, kx] at hS
               simp only [wpA_skip, wpA_region, wpA_seq, wpA_cond, wpA_block, condI_true, seqQ_normal, blkQ_normal, endI_mk, andThen_normal, goI_out, goI_ops, opsA_nil, opsA_cons, opsA_guardS, gvI_same, slotAt_zero, slotAt_succ, stepA_move, stepA_assign, stepA_pick, stepA_load, stepA_binOp, stepA_fieldAddr, stepA_indexAddr, stepA_len, thenV_some, pickV_true, pickV_false, eval_tmp, eval_const, put_some, aBin_add, aBin_eql, aBin_lss, absV_int, absV_bool, aField_eq, fieldGo_ptr, fieldGo_at, aLoad_eq, loadGo_one, aPlace_ptr, aPlace_at, dropC_cells, aLen_imm, Nat.reduceEqDiff, Nat.reduceAdd, Nat.add_zero, Nat.zero_add, Nat.zero_le, List.length_cons, List.length_nil, List.drop_zero, if_true, if_false, ft_24_0, ft_47_0, kt_33, lt_22, lt_3, d1, d2, d5, d8, d9, d10, d11, c8, gj, gt1, x2, lu2, k5, xU, xm, kx, w7]
               exact hid_mk ⟨j + 1, ⟨d1, d2, d5, d7, d8, by rw [hS]; rfl, d10, rfl, by omega, rfl⟩, by omega⟩)
        · rw [gj] at hS
          simp only [wpA_skip, wpA_region, wpA_seq, wpA_cond, wpA_block, condI_true, seqQ_normal, blkQ_normal, endI_mk, andThen_normal, goI_out, goI_ops, opsA_nil, opsA_cons, opsA_guardS, gvI_tf, gvI_u, slotAt_zero, slotAt_succ, stepA_move, stepA_assign, stepA_pick, stepA_binOp, stepA_len, thenV_some, pickV_true, eval_tmp, eval_const, put_some, aBin_add, aBin_lss, absV_int, absV_bool, aLen_imm, Nat.reduceEqDiff, if_true, if_false, kt_33, d9, d10, d11, c8, gj, w7]
          exact hid_mk ⟨j + 1, ⟨d1, d2, d5, d7, d8, by rw [hS]; rfl, d10, rfl, by omega, rfl⟩, by omega⟩
      · have c8 : decide ((j : Int) < ((U.length : Nat) : Int)) = false := by simp only [decide_eq_false_iff_not]; omega
        obtain rfl : j = U.length := by omega
        rw [hGe] at d9
        cases Z
        · simp only [wpA_skip, wpA_region, wpA_seq, wpA_cond, wpA_exit, wpA_ret, condI_false, seqQ_normal, seqQ_exit, blkQ_normal, blkQ_exit, endI_mk, goE, andThen_normal, andThen_exit, goI_out, goI_ops, opsA_nil, opsA_cons, stepA_move, stepA_assign, stepA_binOp, stepA_len, thenV_some, eval_tmp, eval_const, put_some, aBin_add, aBin_lss, absV_int, aLen_imm, Nat.reduceEqDiff, reduceCtorEq, if_true, if_false, kt_33, d7, d8, d9, d10, d11, c8, w2]
          exact hid_mk ⟨(u, i + 1), ⟨d1, d2, d5, d7, rfl, by simp only; omega, no rfl⟩, by simp only; omega⟩
        · simp only [wpA_region, wpA_seq, wpA_cond, wpA_exit, wpA_ret, condI_true, condI_false, seqQ_normal, seqQ_exit, blkQ_normal, blkQ_exit, endI_mk, goE, andThen_normal, andThen_exit, goI_out, goI_ops, opsA_nil, opsA_cons, stepA_move, stepA_assign, stepA_buildSlice, stepA_binOp, stepA_len, stepA_append, thenV_some, thenH_some, eval_tmp, eval_const, put_some, aBin_add, aBin_lss, absV_int, aLen_imm, Nat.reduceEqDiff, reduceCtorEq, List.map_cons, List.map_nil, if_true, if_false, kt_33, d7, d8, d9, d10, d11, c8, litI1, q1, w2]
          exact hid_mk ⟨(v2, i + 1), ⟨d1, d2, d5, rfl, rfl, by simp only; omega, yes rfl⟩, by simp only; omega⟩

set_option maxHeartbeats 4000000 in
set_option maxRecDepth 10000 in
theorem cutParts (l : List Vx) (p part task : Int) (hok : OkT l) (h : AHeap) (hg : TG h) : SCalls Tryd.prog 8 [.agg (topE l p), .int .i64 part, .int .i64 task] h (fun r h' => r = .bool true) := by
  have hc : (V.agg (topE l p)).cells = some [.imm l.length (l.flatMap encX), .int .i64 p] := rfl
  obtain ⟨H, hH⟩ : ∃ x, x = h.push (.cells [.imm l.length (l.flatMap encX), .int .i64 p] 24 none) := ⟨_, rfl⟩
  have gt : H.get h.n = .cells [.imm l.length (l.flatMap encX), .int .i64 p] 24 none := by rw [hH]; exact get_push_new
  have kH : Keep h H none_ := by rw [hH]; exact Keep.push _ _ _
  have tH := hg.keep kH
  refine SCalls.enterI (c := _) Tryd.func8 rfl (by kernel_rfl) (by simp) ?_
  simp only [wpA_region, wpA_seq, seqQ_normal, goI_out, goI_ops, opsA_nil, opsA_cons, stepA_assign, stepA_box, stepA_call, thenH_some, eval_tmp, eval_const, enterF_zero, absV_bool, aBox_eq, List.map_nil, Option.map_some, hc, ← hH]
  refine callI_pure cal25 (pShown16 H tH) ?_
  simp only [wpA_region, wpA_seq, seqQ_normal, goI_out, goI_ops, opsA_nil, opsA_cons, stepA_assign, stepA_load, stepA_call, thenV_some, eval_tmp, put_some, enterF_succ, aLoad_eq, loadGo_row, aPlace_ptr, dropC_cells, Nat.reduceEqDiff, Nat.reduceAdd, List.map_cons, List.map_nil, Nat.zero_add, Nat.zero_le, List.length_cons, List.length_nil, List.drop_zero, List.take_succ_cons, List.take_nil, if_true, if_false, Nat.le_refl, lt_24, gt]
  refine callI_pure cal26 (pSmall16 l p hok H) ?_
  cases c1 : decide (smF 0 l ≤ 5000)
  · simp only [wpA_region, wpA_seq, wpA_cond, wpA_ret, condI_true, seqQ_normal, seqQ_ret, endI_mk, goI_out, goI_ops, opsA_nil, opsA_cons, stepA_move, stepA_assign, stepA_unOp, thenV_some, eval_tmp, put_some, enterF_succ, aUn_not, Nat.reduceEqDiff, if_true, if_false, Bool.not_false, retA_ret, Tryd.results8, resultsA_1]
    exact hid_mk rfl
  have h24 := parts_24 (p := p) (l := l)
  have hIl := inN_len l (partsX p l) part (partsX p l).length
  have hIl' : (inputsX p l part).length ≤ (partsX p l).length := hIl
  have b1 := pParts l p hok H tH
  have b2 := pPartsR l p hok H
  have b3 := fun h' hg' => pTasks l p hok h' hg'
  have b4 := fun h' => pTasksR l p hok h'
  have b5 := fun h' hg' => pOf l p task hok h' hg'
  have b6 := fun h' => pOfR l p task hok h'
  have b7 := fun h' hg' => pInputs l p part hok h' hg'
  have b8 := fun h' => pInputsR l p part hok h'
  generalize partsX p l = P at *
  generalize inputsX p l part = I at *
  generalize tasksX p l = T at *
  generalize ofX p l task = O at *
  generalize (chkT p l).2 = E at *
  clear hIl
  have e1 : (E != E) = false := by simp
  have e2 : (T != T) = false := by simp
  have e3 : (O.1 == O.1) = true := by simp
  have e4 : (O.2 == O.2) = true := by simp
  simp only [wpA_skip, wpA_region, wpA_seq, wpA_cond, condI_false, seqQ_normal, goI_out, goI_ops, opsA_nil, opsA_cons, stepA_load, stepA_unOp, stepA_call, thenV_some, eval_tmp, put_some, enterF_succ, aUn_not, aLoad_eq, loadGo_row, aPlace_ptr, dropC_cells, Nat.reduceEqDiff, Nat.reduceAdd, List.map_cons, List.map_nil, Nat.zero_add, Nat.zero_le, List.length_cons, List.length_nil, List.drop_zero, List.take_succ_cons, List.take_nil, if_true, if_false, Bool.not_true, Nat.le_refl, lt_24, gt]
  refine callI_pure cal27 b1 ?_
  simp only [wpA_region, wpA_seq, seqQ_normal, goI_out, goI_ops, opsA_nil, opsA_cons, stepA_move, stepA_assign, stepA_load, stepA_extract, stepA_call, thenV_some, extV_zero, extV_succ, eval_tmp, put_some, enterF_succ, aLoad_eq, loadGo_row, aPlace_ptr, dropC_cells, Nat.reduceEqDiff, Nat.reduceAdd, List.map_cons, List.map_nil, Nat.zero_add, Nat.zero_le, List.length_cons, List.length_nil, List.drop_zero, List.take_succ_cons, List.take_nil, if_true, if_false, Nat.le_refl, lt_24, gt]
  refine callI_pure cal28 b2 ?_
  simp only [wpA_seq, wpA_draw, seqQ_normal, goI_out, goI_ops, opsA_nil, opsA_cons, stepA_move, stepA_assign, stepA_extract, thenV_some, extV_zero, extV_succ, eval_tmp, put_some, enterF_succ, Nat.reduceEqDiff, if_true, if_false]
  refine SWp.drawnS none_ [] (.q 0 (.q 1 (.c 2 (.q 3 (.q 4 (.q 5 (.q 6 (.q 7 (.q 8 (.q 9 (.q 10 (.c 11 (.q 12 (.c 13 (.q 14 (.q 15 .done)))))))))))))))) (by kernel_rfl) (by kernel_rfl) (by kernel_rfl) ?_
  simp only [siI_q, sqI_some, mOk_none', implies_true, qI_nil, qI_cons, q_move, goI_mk, eval_tmp, put_some, enterF_succ, List.getElem?_cons_zero, List.getElem?_cons_succ, Nat.reduceEqDiff, true_and, if_true, if_false]
  refine siI_c rfl rfl rfl (fun h' hk => pSameI P P h' (by omega)) ?_
  simp only [siI_q, sqI_some, mOk_none', implies_true, qI_nil, qI_cons, qI_guard, qgI_same, thenQ_some, q_move, q_pick, q_load, q_binOp, q_unOp, goI_mk, slotAt_zero, slotAt_succ, pickV_false, eval_tmp, eval_const, put_some, enterF_succ, aBin_neq, aUn_not, absV_bool, aLoad_eq, loadGo_row, aPlace_ptr, dropC_cells, List.getElem?_cons_zero, List.getElem?_cons_succ, bne_self_eq_false, decide_true, Nat.reduceEqDiff, Nat.reduceAdd, Nat.zero_add, Nat.zero_le, List.length_cons, List.length_nil, List.drop_zero, List.take_succ_cons, List.take_nil, true_and, if_true, if_false, Bool.not_true, Nat.le_refl, lt_24, gt, decide_true]
  refine siI_c rfl rfl rfl (fun h' hk => b3 h' (tH.or tH hk)) ?_
  simp only [siI_q, sqI_some, mOk_none', implies_true, qI_nil, qI_guard, qgI_same, thenQ_some, q_load, goI_mk, slotAt_zero, slotAt_succ, eval_tmp, put_some, enterF_succ, aLoad_eq, loadGo_row, aPlace_ptr, dropC_cells, List.getElem?_cons_zero, List.getElem?_cons_succ, Nat.reduceEqDiff, Nat.reduceAdd, Nat.zero_add, Nat.zero_le, List.length_cons, List.length_nil, List.drop_zero, List.take_succ_cons, List.take_nil, true_and, if_true, if_false, Nat.le_refl, lt_24, gt]
  refine siI_c rfl rfl rfl (fun h' hk => b4 h') ?_
  simp only [siI_done, siI_q, sqI_some, mOk_none', implies_true, qI_nil, qI_cons, qI_guard, qgI_same, thenQ_some, q_pick, q_binOp, wpA_skip, wpA_region, wpA_seq, wpA_cond, condI_false, seqQ_normal, goI_out, goI_ops, goI_mk, opsA_cons, slotAt_zero, slotAt_succ, stepA_move, stepA_load, stepA_call, thenV_some, pickV_false, eval_tmp, eval_const, put_some, enterF_zero, enterF_succ, aBin_neq, absV_bool, aLoad_eq, loadGo_row, aPlace_ptr, dropC_cells, List.getElem?_cons_zero, List.getElem?_cons_succ, bne_self_eq_false, Nat.reduceEqDiff, Nat.reduceAdd, List.map_cons, List.map_nil, Nat.zero_add, Nat.zero_le, List.length_cons, List.length_nil, List.drop_zero, List.take_succ_cons, List.take_nil, true_and, if_true, if_false, Nat.le_refl, lt_24, gt]
  refine callI_pure cal31 (b5 H tH) ?_
  simp only [wpA_region, wpA_seq, seqQ_normal, goI_out, goI_ops, opsA_nil, opsA_cons, stepA_move, stepA_assign, stepA_load, stepA_extract, stepA_call, thenV_some, extV_zero, extV_succ, eval_tmp, put_some, enterF_zero, enterF_succ, aLoad_eq, loadGo_row, aPlace_ptr, dropC_cells, Nat.reduceEqDiff, Nat.reduceAdd, List.map_cons, List.map_nil, Nat.zero_add, Nat.zero_le, List.length_cons, List.length_nil, List.drop_zero, List.take_succ_cons, List.take_nil, if_true, if_false, Nat.le_refl, lt_24, gt]
  refine callI_pure cal32 (b6 H) ?_
  simp only [wpA_seq, wpA_draw, seqQ_normal, goI_out, goI_ops, opsA_nil, opsA_cons, stepA_move, stepA_assign, stepA_extract, thenV_some, extV_zero, extV_succ, eval_tmp, put_some, enterF_succ, Nat.reduceEqDiff, if_true, if_false]
  refine SWp.drawnS none_ [] (.q 0 (.q 1 (.q 2 (.q 3 (.q 4 (.q 5 (.q 6 (.q 7 (.q 8 (.q 9 (.q 10 (.q 11 (.q 12 (.q 13 (.c 14 (.q 15 (.q 16 (.c 17 (.c 18 (.q 19 (.q 20 .done))))))))))))))))))))) (by kernel_rfl) (by kernel_rfl) (by kernel_rfl) ?_
  simp only [siI_q, sqI_some, mOk_none', implies_true, qI_nil, qI_cons, qI_guard, qgI_same, thenQ_some, q_move, q_pick, q_load, q_binOp, goI_mk, slotAt_zero, slotAt_succ, pickV_true, eval_tmp, eval_const, put_some, enterF_zero, enterF_succ, aBin_eql, absV_bool, aLoad_eq, loadGo_row, aPlace_ptr, dropC_cells, List.getElem?_cons_zero, List.getElem?_cons_succ, beq_self_eq_true, Nat.reduceEqDiff, Nat.reduceAdd, Nat.zero_add, Nat.zero_le, List.length_cons, List.length_nil, List.drop_zero, List.take_succ_cons, List.take_nil, true_and, if_true, if_false, Nat.le_refl, lt_24, gt]
  refine siI_c rfl rfl rfl (fun h' hk => b7 h' (tH.or tH hk)) ?_
  simp only [siI_q, sqI_some, mOk_none', implies_true, qI_nil, qI_guard, qgI_same, thenQ_some, q_move, q_load, goI_mk, slotAt_zero, slotAt_succ, eval_tmp, put_some, enterF_zero, enterF_succ, aLoad_eq, loadGo_row, aPlace_ptr, dropC_cells, List.getElem?_cons_zero, List.getElem?_cons_succ, Nat.reduceEqDiff, Nat.reduceAdd, Nat.zero_add, Nat.zero_le, List.length_cons, List.length_nil, List.drop_zero, List.take_succ_cons, List.take_nil, true_and, if_true, if_false, Nat.le_refl, lt_24, gt]
  refine siI_c rfl rfl rfl (fun h' hk => b8 h') ?_
  simp only [false_implies]
  refine siI_c rfl rfl rfl (fun h' hk => pSameI I I h' (by omega)) ?_
  simp only [siI_done, siI_q, sqI_some, mOk_none', implies_true, qI_nil, qI_cons, thenQ_some, q_assign, q_pick, wpA_ret, seqQ_normal, endI_mk, goI_out, goI_mk, pickV_true, eval_tmp, eval_const, put_some, enterF_succ, absV_bool, List.getElem?_cons_zero, List.getElem?_cons_succ, decide_true, Nat.reduceEqDiff, true_and, if_true, if_false, decide_true, retA_ret, Tryd.results8, resultsA_1]
  exact hid_mk rfl
end Go.Proofs.YtpmmbcifhallbaaDoor.Pk
