/-
  What functions of the program do, told of abstract states. Conditions: as each theorem says.
-/
import Derived.Test.YtihgdbelfjdajaaWiT
namespace Go.Proofs.Ytihgdbelfjdajaa.Pk
open Go Go.Proofs Go.Proofs.Ytihgdbelfjdajaa.Ab
set_option linter.unusedVariables false
set_option linter.unusedSimpArgs false
theorem inc64w {t n : Nat} (h : t < n) (hn : n ≤ 2 ^ 60) : IntKind.i64.wrap ((t : Int) + 1) = ((t + 1 : Nat) : Int) := by rw [Go.IntWalk.i64_in _ (by omega)]; omega
theorem ldC0 (c : Chg) (r : List V) : loadGo (some none) (some (chgE c ++ r)) = some (.int .i64 c.key) := rfl
theorem fdC1 (c : Chg) (r : List V) : (if 1 ≤ (chgE c ++ r).length then some (V.at (List.drop 1 (chgE c ++ r))) else none) = some (.at (.int .i64 c.fr :: .int .i64 c.to :: .int .i64 c.val :: .bool c.del :: r)) := by rw [if_pos (by rw [List.length_append, chgE_len]; omega)]; rfl
theorem fdC2 (c : Chg) (r : List V) : (if 2 ≤ (chgE c ++ r).length then some (V.at (List.drop 2 (chgE c ++ r))) else none) = some (.at (.int .i64 c.to :: .int .i64 c.val :: .bool c.del :: r)) := by rw [if_pos (by rw [List.length_append, chgE_len]; omega)]; rfl
theorem fdC4 (c : Chg) (r : List V) : (if 4 ≤ (chgE c ++ r).length then some (V.at (List.drop 4 (chgE c ++ r))) else none) = some (.at (.bool c.del :: r)) := by rw [if_pos (by rw [List.length_append, chgE_len]; omega)]; rfl
theorem ldC (c : Chg) (r : List V) : (if 5 ≤ (chgE c ++ r).length then some (V.agg (List.take 5 (chgE c ++ r))) else none) = some (.agg (chgE c)) := by rw [if_pos (by rw [List.length_append, chgE_len]; omega)]; rfl
set_option maxHeartbeats 4000000 in
set_option maxRecDepth 20000 in
theorem winEnds (SC : SortC byW) (size before : Int) (ds : List Deed) (hd : ds.length < 2 ^ 47) (s0 : 0 ≤ size) (s1 : size < 256) (h : AHeap) :
    SCalls Try.prog 4 [.int .u8 size, .imm ds.length (ds.flatMap dE), .int .i64 before] h (fun r h' => r = .bool true) := by
  refine SCalls.enterI (c := _) Try.func4 rfl (by kernel_rfl) (by simp) ?_
  simp only [wpA_region, wpA_seq, seqQ_normal, goI_out, goI_ops, opsA_nil, opsA_cons, stepA_assign, stepA_call, eval_const, absV_bool, List.map_nil]
  refine callI_of cal6 (shown13 h) fun r h1 ⟨e1, p1⟩ => ?_
  subst e1
  have w1 : IntKind.i64.wrap size = size := Go.IntWalk.i64_in _ (by omega)
  have w2 : IntKind.i64.wrap (1 + size) = 1 + size := Go.IntWalk.i64_in _ (by omega)
  simp only [wpA_region, wpA_seq, seqQ_normal, goI_out, goI_ops, opsA_nil, opsA_cons, stepA_move, stepA_assign, stepA_binOp, stepA_convert, stepA_call, thenV_some, eval_tmp, eval_const, put_some, enterF_zero, enterF_succ, aBin_add, aConv_int, absV_int, Option.some.injEq, Nat.reduceEqDiff, reduceCtorEq, List.map_cons, List.map_nil, if_true, if_false, it_2, it_5, w1, w2]
  refine callI_of cal7 (winNew h1 1024 (1 + size) (by decide) (by decide) (by omega) (by omega)) fun r h2 ⟨e2, k2, p2⟩ => ?_
  subst e2
  generalize 1 + size = n at k2
  generalize h1.n + 1 = i at k2
  generalize h1.n = m at k2
  have w0 : WinSt h2 i m n [] 0 := ⟨k2, Stamps.nil 0, KNodup.nil, by simp⟩
  clear k2 p2
  simp only [wpA_skip, wpA_region, wpA_seq, wpA_cond, wpA_block, wpA_loop, condI_false, seqQ_normal, goI_out, goI_ops, opsA_nil, opsA_cons, opsA_guardS, gvI_same, slotAt_zero, slotAt_succ, stepA_move, stepA_assign, stepA_pick, stepA_binOp, stepA_extract, thenV_some, pickV_false, extV_zero, extV_succ, eval_tmp, eval_const, put_some, enterF_succ, aBin_neq, ptr_nil_eql, absV_int, absV_bool, absV_pnil, bne_self_eq_false, Nat.reduceEqDiff, if_true, if_false, kt_25]
  refine SWp.loopG (α := Nat × Ent × Nat) (fun x f h' => f 1 = .imm ds.length (ds.flatMap dE) ∧ f 2 = .int .i64 before ∧ f 7 = .bool true ∧ f 8 = .ptr i 0 ∧ f 10 = .int .i64 (x.1 : Nat) ∧ x.1 ≤ 100 ∧ WinSt h' i m n x.2.1 x.2.2 ∧ x.2.1.length ≤ x.1) (fun x => 100 - x.1) (0, [], 0)
    ⟨rfl, rfl, rfl, rfl, rfl, Nat.zero_le _, w0, Nat.zero_le _⟩ ?_
  clear w0
  rintro ⟨t, l, cl⟩ f h' ⟨f1, f2, f7, f8, f10, ht, w, hl⟩
  simp only at f10 ht w hl
  refine wpI_sound (by kernel_rfl) ?_
  by_cases hlt : t < ds.length ∧ t < 100
  · have d1 : decide ((t : Int) < ((ds.length : Nat) : Int)) = true := decide_eq_true (by omega)
    have d2 : decide ((t : Int) < 100) = true := decide_eq_true (by omega)
    have hw := inc64w hlt.2 (by omega)
    obtain ⟨rr, x1⟩ := deed_ix hlt.1
    generalize ds[t] = d at x1
    simp only [wpA_skip, wpA_region, wpA_seq, wpA_cond, wpA_block, wpA_draw, condI_true, seqQ_normal, goI_out, goI_ops, opsA_nil, opsA_cons, opsA_guardS, gvI_same, slotAt_zero, slotAt_succ, stepA_move, stepA_pick, stepA_binOp, stepA_len, thenV_some, pickV_true, eval_tmp, eval_const, put_some, aBin_lss, absV_int, absV_bool, aLen_imm, Nat.reduceEqDiff, if_true, if_false, kt_23, f1, f10, d1, d2]
    refine SWp.drawnS none_ [16] (.q 0 (.q 1 (.q 2 (.q 3 (.q 4 (.q 5 (.q 6 (.q 7 (.q 8 (.q 9 (.q 10 (.q 11 (.q 12 (.q 13 (.q 14 (.q 15 (.a 16 .done))))))))))))))))) (by kernel_rfl) (by kernel_rfl) (by kernel_rfl) ?_
    simp only [siI_q, siI_a, sqI_some, saI_some, mOk_none', implies_true, qI_nil, qI_cons, thenQ_some, q_move, q_load, q_fieldAddr, q_indexAddr, goI_mk, opsA_cons, stepA_call, eval_tmp, put_some, aField_eq, fieldGo_at, aLoad_eq, loadGo_one, aPlace_at, List.getElem?_cons_zero, List.getElem?_cons_succ, Nat.reduceEqDiff, List.map_cons, List.map_nil, true_and, if_true, if_false, ft_32_1, ft_32_2, ft_32_3, lt_2, f1, f8, f10, x1, fdE1, fdE2, fdE3]
    refine callI_of cal10 (winPutAny h' i m cl n d.key d.time d.val l w (by omega)) fun r h3 ⟨l2, cl2, c2, e2, er, w3, hl3⟩ => ?_
    subst er
    simp only [siI_done, wpA_region, seqQ_normal, blkQ_normal, endI_mk, andThen_normal, goI_out, goI_ops, goI_mk, opsA_nil, opsA_cons, stepA_move, stepA_assign, stepA_binOp, thenV_some, eval_tmp, eval_const, put_some, aBin_add, absV_int, Nat.reduceEqDiff, if_true, if_false, f10, hw]
    exact hid_mk ⟨(t + 1, l2, cl2), ⟨f1, f2, f7, f8, rfl, by simp only; omega, w3, by simp only; omega⟩, by simp only; omega⟩
  have hend : ∀ b1 b2 : Bool, decide ((t : Int) < ((ds.length : Nat) : Int)) = b1 → decide ((t : Int) < 100) = b2 → (b1 && b2) = false := fun b1 b2 h1 h2 => by
    rw [← h1, ← h2, Bool.and_eq_false_iff]
    simp only [decide_eq_false_iff_not]
    omega
  generalize hb1 : decide ((t : Int) < ((ds.length : Nat) : Int)) = b1 at hend
  generalize hb2 : decide ((t : Int) < 100) = b2 at hend
  have hbb := hend b1 b2 rfl rfl
  have hor : b1 = false ∨ (b1 = true ∧ b2 = false) := by
    cases b1
    · exact .inl rfl
    · exact .inr ⟨rfl, by simpa using hbb⟩
  clear hend hbb
  rcases hor with rfl | ⟨rfl, rfl⟩
  all_goals
    simp only [wpA_region, wpA_seq, wpA_cond, wpA_exit, condI_false, seqQ_normal, seqQ_exit, blkQ_exit, endI_mk, goE, andThen_exit, goI_out, goI_ops, opsA_nil, opsA_cons, opsA_guardS, gvI_same, gvI_ft, slotAt_zero, slotAt_succ, stepA_move, stepA_pick, stepA_binOp, stepA_len, stepA_call, thenV_some, pickV_true, pickV_false, eval_tmp, eval_const, put_some, aBin_lss, absV_int, absV_bool, aLen_imm, Nat.reduceEqDiff, List.map_cons, List.map_nil, if_true, if_false, kt_23, f1, f8, f10, hb1, hb2]
    refine callI_of cal12 (winListI SC h' i m cl 1024 n l w.k w.st (by omega) w.fr) fun r h3 ⟨k3, lw, pw, sw, er⟩ => ?_
    subst er
    simp only [wpA_region, wpA_seq, seqQ_normal, goI_out, goI_ops, opsA_nil, opsA_cons, stepA_move, stepA_assign, stepA_call, eval_tmp, put_some, Nat.reduceEqDiff, List.map_cons, List.map_nil, if_true, if_false, f2, f8]
    refine callI_of cal8 (winExpI SC h3 i m cl 1024 n before l (w.k.keepN k3) w.st w.nd (by omega) w.fr) fun r h4 ⟨k4, w4, lo, po, so, er⟩ => ?_
    subst er
    have hsub : (l.filter fun e => !gnW n before e).Sublist l := List.filter_sublist
    have st4 : Stamps (wE (l.filter fun e => !gnW n before e)) cl := ⟨fun e he => by
      obtain ⟨x, hx, rfl⟩ := mem_wE he
      exact w.st.1 _ (List.mem_map.2 ⟨x, hsub.subset hx, rfl⟩), by
      rw [wE_stamps]
      have := w.st.2
      rw [wE_stamps] at this
      exact this.sublist (hsub.map _)⟩
    have nd4 : KNodup (l.filter fun e => !gnW n before e) := List.Nodup.sublist (hsub.map _) w.nd
    have hl4 := hsub.length_le
    have fr4 : ∀ e ∈ (l.filter fun e => !gnW n before e), 0 ≤ e.2.1.2 ∧ e.2.1.2 ≤ 2 ^ 41 := fun e he => w.fr e (hsub.subset he)
    simp only [wpA_region, wpA_seq, seqQ_normal, goI_out, goI_ops, opsA_nil, opsA_cons, stepA_move, stepA_assign, stepA_call, eval_tmp, put_some, Nat.reduceEqDiff, List.map_cons, List.map_nil, if_true, if_false, f8]
    refine callI_of cal12 (winListI SC h4 i m cl 1024 n _ w4 st4 (by omega) fr4) fun r h5 ⟨k5, li, pi, si, er⟩ => ?_
    subst er
    simp only [wpA_region, wpA_seq, seqQ_normal, goI_out, goI_ops, opsA_nil, opsA_cons, stepA_move, stepA_assign, stepA_call, eval_tmp, put_some, Nat.reduceEqDiff, List.map_cons, List.map_nil, if_true, if_false, f2, f8]
    refine callI_of cal8 (winExpI SC h5 i m cl 1024 n before _ (w4.keepN k5) st4 nd4 (by omega) fr4) fun r h6 ⟨k6, w6, lx, px, sx, er⟩ => ?_
    subst er
    obtain ⟨A, eA, eo, hA, hI⟩ := ends_split (size := n) w.nd pw sw po so pi si
    have hx0 : lx = [] := by
      have : (l.filter fun e => !gnW n before e).filter (gnW n before) = [] := by
        rw [List.filter_filter, List.filter_eq_nil_iff]
        intro e _
        simp
      rw [this] at px
      exact List.perm_nil.1 px
    subst hx0
    have lA : lo.length = A.length := by rw [eo, List.length_map]
    have lW : lw.length = A.length + li.length := by rw [eA, List.length_append]
    have lwl := pw.length_eq
    rw [List.length_map] at lwl
    have z0 : ((0 : Int) != 0) = false := rfl
    have hsum : IntKind.i64.wrap (((lo.length : Nat) : Int) + ((li.length : Nat) : Int)) = ((lw.length : Nat) : Int) := by rw [Go.IntWalk.i64_in _ (by omega)]; omega
    have nn : (((lw.length : Nat) : Int) != ((lw.length : Nat) : Int)) = false := by simp
    simp only [wpA_skip, wpA_region, wpA_seq, wpA_cond, wpA_block, wpA_loop, condI_false, seqQ_normal, goI_out, goI_ops, opsA_nil, opsA_cons, opsA_guardS, gvI_same, slotAt_zero, slotAt_succ, stepA_move, stepA_assign, stepA_pick, stepA_binOp, stepA_len, thenV_some, pickV_false, eval_tmp, eval_const, put_some, aBin_add, aBin_neq, absV_int, absV_bool, aLen_imm, bne_self_eq_false, Nat.reduceEqDiff, List.length_nil, if_true, if_false, kt_33, List.length_nil, Int.cast_ofNat_Int, hsum]
    refine SWp.loopG (α := Nat) (fun x f h' => f 2 = .int .i64 before ∧ f 7 = .bool true ∧ f 11 = .imm lw.length (lw.flatMap chgE) ∧ f 12 = .imm lo.length (lo.flatMap chgE) ∧ f 13 = .imm li.length (li.flatMap chgE) ∧ f 15 = .int .i64 (x : Nat)) (fun x => lw.length - x) 0
      ⟨f2, f7, rfl, rfl, rfl, rfl⟩ ?_
    clear f1 f2 f7 f8 f10
    rintro t2 f h7 ⟨f2, f7, f11, f12, f13, f15⟩
    refine wpI_sound (by kernel_rfl) ?_
    by_cases q1 : t2 < lw.length
    · have d1 : decide ((t2 : Int) < ((lw.length : Nat) : Int)) = true := decide_eq_true (by omega)
      have hw := inc64w q1 (by omega)
      have x2 := chg_ix (l := lw) (kk := .i64) (k := t2) q1
      by_cases q2 : t2 < lo.length
      · have d2 : decide ((t2 : Int) < ((lo.length : Nat) : Int)) = true := decide_eq_true (by omega)
        have x1 := chg_ix (l := lo) (kk := .i64) (k := t2) q2
        have c1 : lw[t2] = A[t2]'(by omega) := by simp only [eA]; rw [List.getElem_append_left]
        have c2 : lo[t2] = toGone (A[t2]'(by omega)) := by simp only [eo, List.getElem_map]
        have hto := hA (A[t2]'(by omega)) (List.getElem_mem _)
        rw [c1] at x2
        rw [c2] at x1
        generalize A[t2]'(by omega) = c at x1 x2 hto
        have n1 : (c.key != c.key) = false := by simp
        have n2 : (c.fr != c.fr) = false := by simp
        have n3 : decide (before < c.to) = false := decide_eq_false (by omega)
        have g1 : (toGone c).key = c.key := rfl
        have g2 : (toGone c).fr = c.fr := rfl
        have g3 : (toGone c).del = true := rfl
        simp only [wpA_skip, wpA_region, wpA_seq, wpA_cond, wpA_block, wpA_draw, condI_true, seqQ_normal, goI_out, goI_ops, opsA_nil, opsA_cons, stepA_move, stepA_binOp, stepA_len, thenV_some, eval_tmp, put_some, aBin_lss, aLen_imm, Nat.reduceEqDiff, if_true, if_false, kt_33, f11, f12, f15, d1, d2]
        refine SWp.drawnS none_ [] (.q 0 (.q 1 (.q 2 (.q 3 (.q 4 (.q 5 (.q 6 (.q 7 (.q 8 (.q 9 (.q 10 (.q 11 (.q 12 (.q 13 (.q 14 (.q 15 (.q 16 (.q 17 (.q 18 (.q 19 (.q 20 (.q 21 (.q 22 (.q 23 (.q 24 (.q 25 (.q 26 (.q 27 (.q 28 (.q 29 (.q 30 (.q 31 (.q 32 (.q 33 (.q 34 (.q 35 (.q 36 (.q 37 (.q 38 (.q 39 (.q 40 .done))))))))))))))))))))))))))))))))))))))))) (by kernel_rfl) (by kernel_rfl) (by kernel_rfl) ?_
        simp only [siI_done, siI_q, sqI_some, mOk_none', implies_true, qI_nil, qI_cons, qI_guard, qgI_same, thenQ_some, q_move, q_pick, q_load, q_binOp, q_unOp, q_fieldAddr, q_indexAddr, wpA_skip, wpA_region, wpA_cond, condI_false, seqQ_normal, blkQ_normal, endI_mk, andThen_normal, goI_out, goI_ops, goI_mk, opsA_nil, opsA_cons, slotAt_zero, slotAt_succ, stepA_move, stepA_assign, stepA_binOp, thenV_some, pickV_false, eval_tmp, eval_const, put_some, aBin_add, aBin_neq, aBin_gtr, aUn_not, absV_int, absV_bool, aField_eq, fieldGo_at, aLoad_eq, loadGo_one, aPlace_at, List.getElem?_cons_zero, List.getElem?_cons_succ, bne_self_eq_false, Nat.reduceEqDiff, Nat.zero_le, List.drop_zero, true_and, if_true, if_false, Bool.not_true, ft_30_0, ft_30_1, ft_30_2, ft_30_4, lt_2, lt_4, f2, f11, f12, f15, x1, x2, ldC0, fdC1, fdC2, fdC4, g1, g2, g3, n3, hw]
        exact hid_mk ⟨t2 + 1, ⟨f2, f7, f11, f12, f13, rfl⟩, by omega⟩
      · have d2 : decide ((t2 : Int) < ((lo.length : Nat) : Int)) = false := decide_eq_false (by omega)
        have hq : t2 - lo.length < li.length := by omega
        have x1 := chg_ix (l := li) (kk := .i64) (k := t2 - lo.length) hq
        have c1 : lw[t2] = li[t2 - lo.length] := by simp only [eA]; rw [List.getElem_append_right (by omega)]; simp only [lA]
        have hto := hI li[t2 - lo.length] (List.getElem_mem _)
        rw [c1] at x2
        have wq : IntKind.i64.wrap ((t2 : Int) - ((lo.length : Nat) : Int)) = ((t2 - lo.length : Nat) : Int) := by rw [Go.IntWalk.i64_in _ (by omega)]; omega
        generalize li[t2 - lo.length] = c at x1 x2 hto
        have n1 : decide (c ≠ c) = false := by simp
        have n3 : decide (c.to ≤ before) = false := decide_eq_false (by omega)
        simp only [wpA_skip, wpA_region, wpA_seq, wpA_cond, wpA_block, wpA_draw, condI_true, condI_false, seqQ_normal, goI_out, goI_ops, opsA_nil, opsA_cons, stepA_move, stepA_binOp, stepA_len, thenV_some, eval_tmp, put_some, aBin_lss, aLen_imm, Nat.reduceEqDiff, if_true, if_false, kt_33, f11, f12, f15, d1, d2]
        refine SWp.drawnS none_ [] (.q 0 (.q 1 (.q 2 (.q 3 (.q 4 (.q 5 (.q 6 (.q 7 (.q 8 (.q 9 (.q 10 (.q 11 (.q 12 (.q 13 (.q 14 (.q 15 (.q 16 (.q 17 (.q 18 (.q 19 (.q 20 .done))))))))))))))))))))) (by kernel_rfl) (by kernel_rfl) (by kernel_rfl) ?_
        simp only [siI_done, siI_q, sqI_some, mOk_none', implies_true, qI_nil, qI_cons, qI_guard, qgI_same, thenQ_some, q_move, q_pick, q_load, q_binOp, q_fieldAddr, q_indexAddr, q_len, wpA_skip, wpA_region, wpA_cond, condI_false, seqQ_normal, blkQ_normal, endI_mk, andThen_normal, goI_out, goI_ops, goI_mk, opsA_nil, opsA_cons, slotAt_zero, slotAt_succ, stepA_move, stepA_assign, stepA_binOp, thenV_some, pickV_false, eval_tmp, eval_const, put_some, aBin_add, aBin_sub, aBin_leq, absV_int, absV_bool, aField_eq, fieldGo_at, aLoad_eq, loadGo_one, loadGo_row, aPlace_at, aLen_imm, List.getElem?_cons_zero, List.getElem?_cons_succ, Nat.reduceEqDiff, true_and, if_true, if_false, ft_30_2, kt_33, lt_2, lt_30, f2, f11, f12, f13, f15, wq, x1, x2, ldC, fdC2, chg_neq, n1, n3, hw]
        exact hid_mk ⟨t2 + 1, ⟨f2, f7, f11, f12, f13, rfl⟩, by omega⟩
    · have d1 : decide ((t2 : Int) < ((lw.length : Nat) : Int)) = false := decide_eq_false (by omega)
      simp only [wpA_region, wpA_seq, wpA_cond, wpA_exit, wpA_ret, condI_false, seqQ_normal, seqQ_exit, blkQ_exit, endI_mk, goE, andThen_exit, goI_out, goI_ops, opsA_nil, opsA_cons, stepA_move, stepA_assign, stepA_binOp, stepA_len, thenV_some, eval_tmp, put_some, aBin_lss, aLen_imm, Nat.reduceEqDiff, if_true, if_false, kt_33, f7, f11, f15, d1, retA_ret, Try.results4, resultsA_1]
      exact hid_mk rfl
end Go.Proofs.Ytihgdbelfjdajaa.Pk
