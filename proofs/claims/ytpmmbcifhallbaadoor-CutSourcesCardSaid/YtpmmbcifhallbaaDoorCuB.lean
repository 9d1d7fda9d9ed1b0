/-
  What functions of the program do, told of abstract states. Conditions: as each theorem says.
-/
import Derived.Test.YtpmmbcifhallbaaDoorCuA
import Derived.Test.YtpmmbcifhallbaaDoorAbD
namespace Go.Proofs.YtpmmbcifhallbaaDoor.Pk
open Go Go.Proofs Go.Proofs.YtpmmbcifhallbaaDoor.Ab
set_option linter.unusedVariables false
set_option linter.unusedSimpArgs false

theorem sum_set : ∀ {L : List Nat} {k : Nat} (x : Nat), k < L.length → (L.set k x).sum + L.getD k 0 = L.sum + x
  | [], k, x, h => by simp at h
  | a :: r, 0, x, _ => by simp; omega
  | a :: r, k + 1, x, h => by
    have := sum_set (L := r) (k := k) x (by simpa using h)
    simp only [List.set_cons_succ, List.sum_cons, List.getD_cons_succ]
    omega
theorem sum_low {L : List Nat} {v f : Nat} (hv : v < L.length) (hf : f < L.length) (hne : v ≠ f) (hd : L.getD v 0 ≠ L.getD f 0) : ((L.set v (min (L.getD v 0) (L.getD f 0))).set f (min (L.getD v 0) (L.getD f 0))).sum < L.sum := by
  have h1 := sum_set (L := L) (min (L.getD v 0) (L.getD f 0)) hv
  have h2 := sum_set (L := L.set v (min (L.getD v 0) (L.getD f 0))) (k := f) (min (L.getD v 0) (L.getD f 0)) (by simpa using hf)
  have h3 : (L.set v (min (L.getD v 0) (L.getD f 0))).getD f 0 = L.getD f 0 := by
    rw [List.getD, List.getElem?_set, if_neg hne, ← List.getD]
  omega
theorem mgV_at {l : List Vx} {L : List Nat} : ∀ {r : List Vx} {v : Nat} {L' : List Nat}, mgV l L v r = some L' → ∃ k x, r[k]? = some x ∧ mgF l L (v + k) x.frm = some L'
  | [], _, _, h => by cases h
  | x :: r, v, L', h => by
    unfold mgV at h
    split at h
    · rename_i q
      exact ⟨0, x, rfl, by rw [Nat.add_zero, q]; exact h⟩
    · obtain ⟨k, y, h1, h2⟩ := mgV_at h
      exact ⟨k + 1, y, by simpa using h1, by rw [show v + (k + 1) = v + 1 + k by omega]; exact h2⟩

set_option maxHeartbeats 2000000 in
set_option maxRecDepth 10000 in
theorem pMerge (l : List Vx) (h : AHeap) (hl24 : l.length ≤ 24) (hr : ∀ (v : Nat) (x : Vx), l[v]? = some x → ∀ f ∈ x.frm, 0 ≤ f ∧ f < (v : Int)) (hfl : ∀ x ∈ l, x.frm.length < 2 ^ 47) :
    SCalls Tryd.prog 52 [.imm l.length (l.flatMap encX)] h (fun r h' => ∃ m es cl, r = .map m ∧ h.n ≤ m ∧ m < h'.n ∧ h'.get m = .map (wI es) cl ∧ MI es (mgX l) ∧ (mgX l).length = l.length ∧ Keep h h' none_) := by
  refine SCalls.enterI (c := _) Tryd.func52 rfl (by kernel_rfl) (by simp) ?_
  simp only [wpA_region, wpA_seq, wpA_scope, seqQ_normal, goI_out, goI_ops, opsA_nil, opsA_cons, stepA_assign, eval_const, absV_mnil]
  refine SWp.scopeG (α := Unit) (l := 0) rfl (fun _ f h' => f 0 = .imm l.length (l.flatMap encX) ∧ f 3 = .map h.n ∧ Keep h h' none_ ∧ h.n < h'.n ∧ ∃ es cl, h'.get h.n = .map (wI es) cl ∧ MI es (List.range l.length)) (fun _ => 0) ?_ ?_ ?_
  · intro _ f h1 _
    omega
  · rintro _ f h1 ⟨f0, f3, k1, n1, es, cl, gm, hM⟩
    refine wpI_sound (by kernel_rfl) ?_
    simp only [wpA_block, wpA_loop]
    refine SWp.loopG (α := List Nat × List (Nat × Int × Int) × Nat × Nat) (fun x f h' => f 0 = .imm l.length (l.flatMap encX) ∧ f 3 = .map h.n ∧ Keep h h' none_ ∧ h.n < h'.n ∧ h'.get h.n = .map (wI x.2.1) x.2.2.1 ∧ MI x.2.1 x.1 ∧ x.1.length = l.length ∧ x.1.sum < x.2.2.2 ∧ mgN l x.2.2.2 x.1 = mgX l) (fun x => x.1.sum) (List.range l.length, es, cl, 600) ⟨f0, f3, k1, n1, gm, hM, by simp, ?_, rfl⟩ ?_
    · show (List.range l.length).sum < 600
      have : ∀ n : Nat, n ≤ 24 → (List.range n).sum < 600 := by decide
      exact this _ hl24
    rintro ⟨L, es, cl, k⟩ f h2 ⟨f0, f3, k2, n2, gm, hM, hL, hk, hR⟩
    simp only at gm hM hL hk hR
    refine wpI_sound (by kernel_rfl) ?_
    simp only [wpA_region, wpA_seq, wpA_block, wpA_loop, seqQ_normal, goI_out, goI_ops, opsA_nil, opsA_cons, stepA_move, stepA_len, thenV_some, eval_tmp, eval_const, put_some, absV_int, aLen_imm, if_true, kt_22, f0]
    refine SWp.loopG (α := Nat) (fun v f h' => f 0 = .imm l.length (l.flatMap encX) ∧ f 3 = .map h.n ∧ f 20 = .imm l.length (l.flatMap encX) ∧ f 21 = .int .i64 ((l.length : Nat) : Int) ∧ f 22 = .int .i64 (v : Nat) ∧ v ≤ l.length ∧ Keep h h' none_ ∧ h.n < h'.n ∧ h'.get h.n = .map (wI es) cl ∧ mgV l L 0 l = mgV l L v (l.drop v)) (fun v => l.length - v) 0 ⟨f0, f3, rfl, rfl, rfl, Nat.zero_le _, k2, n2, gm, rfl⟩ ?_
    rintro v g h3 ⟨g0, g3, g20, g21, g22, hv, k3, n3, gm3, hE⟩
    refine wpI_sound (by kernel_rfl) ?_
    by_cases hlt : v < l.length
    rotate_left
    · have c1 : decide ((v : Int) < ((l.length : Nat) : Int)) = false := by simp only [decide_eq_false_iff_not]; omega
      rw [List.drop_of_length_le (by omega)] at hE
      have hN : mgN l k L = L := by
        obtain ⟨k', rfl⟩ : ∃ k', k = k' + 1 := ⟨k - 1, by omega⟩
        unfold mgN
        rw [hE]
        rfl
      simp only [wpA_region, wpA_seq, wpA_cond, wpA_exit, wpA_ret, condI_false, seqQ_normal, seqQ_exit, blkQ_exit, blkQ_ret, endI_mk, goE, andThen_normal, andThen_exit, andThen_ret, goI_out, goI_ops, opsA_nil, opsA_cons, stepA_move, stepA_assign, stepA_binOp, thenV_some, eval_tmp, put_some, aBin_lss, Nat.reduceEqDiff, if_true, if_false, g3, g21, g22, c1, jumpA_ret, retA_ret, Tryd.results52, resultsA_1]
      exact hid_mk ⟨h.n, es, cl, rfl, Nat.le_refl _, n3, gm3, by rw [← hR, hN]; exact hM, by rw [← hR, hN]; exact hL, k3⟩
    have c1 : decide ((v : Int) < ((l.length : Nat) : Int)) = true := by simp only [decide_eq_true_eq]; omega
    have x0 := rows_ix (kk := .i64) (P := Tryd.prog) encX_len hlt ss_22
    have hrv := hr v l[v] (List.getElem?_eq_getElem hlt)
    have hfv := hfl l[v] (List.getElem_mem hlt)
    rw [List.drop_eq_getElem_cons hlt] at hE
    replace hE : mgV l L 0 l = match mgF l L v l[v].frm with | some L' => some L' | none => mgV l L (v + 1) (l.drop (v + 1)) := hE
    have w2 : IntKind.i64.wrap (((v : Nat) : Int) + 1) = ((v + 1 : Nat) : Int) := by rw [Go.IntWalk.i64_in _ (by omega)]; omega
    generalize l[v] = A at x0 hrv hfv hE
    have lr : ∀ (q : List V), loadGo (some (some 6)) (some (encX A ++ q)) = some (.agg (encX A)) := fun q => load_row (encX_len A)
    have hone : (V.agg (encX A)).cells = some (encX A) := rfl
    have hset : setC (some 6) (AObj.cells [.int .i64 0, .snil, .int .i64 0, .int .i64 0, .snil, .int .i64 0] 47 none) 0 (encX A) = some (.cells (encX A) 47 none) := by
      rw [setC_row (n := 6) (encX_len A) (encX_one A), if_pos (by decide), encX_eq]; rfl
    have hd1 : dropC (AObj.cells (encX A) 47 none) 1 = some [.imm A.frm.length (i64V A.frm), .int .i64 A.e.op, .int .i64 A.e.num, .imm A.e.ks.length (A.e.ks.flatMap encE), .int .i64 A.n] := by rw [encX_eq]; rfl
    obtain ⟨H4, hH4⟩ : ∃ x, x = h3.push (.cells (encX A) 47 none) := ⟨_, rfl⟩
    have gA : H4.get h3.n = .cells (encX A) 47 none := by rw [hH4]; exact get_push_new
    have gm4 : H4.get h.n = .map (wI es) cl := by rw [hH4]; exact (get_push_lt (by omega)).trans gm3
    have k4 : Keep h H4 none_ := by rw [hH4]; exact k3.then_push _
    have n4 : H4.n = h3.n + 1 := by rw [hH4]; rfl
    simp only [wpA_skip, wpA_region, wpA_seq, wpA_cond, wpA_block, wpA_loop, condI_true, seqQ_normal, goI_out, goI_ops, opsA_nil, opsA_cons, stepA_move, stepA_assign, stepA_alloc, stepA_load, stepA_store, stepA_binOp, stepA_fieldAddr, stepA_indexAddr, stepA_len, thenV_some, thenH_some, thenS_some, eval_tmp, eval_const, put_some, put_none, aBin_lss, absV_int, aField_eq, fieldGo_ptr, aLoad_eq, loadGo_one, aPlace_ptr, aPlace_at, aStore_eq, storeGo_ptr, aAlloc_eq, aLen_imm, get_push_new, set_push, Nat.reduceEqDiff, Option.map_some, Nat.zero_add, if_true, if_false, ft_47_1, kt_33, lt_33, lt_47, zc_47, zt_47, g20, g21, g22, c1, x0, lr, hone, hset, ← hH4, gA, hd1]
    refine SWp.loopG (α := Nat) (fun j f h' => f 0 = .imm l.length (l.flatMap encX) ∧ f 3 = .map h.n ∧ f 20 = .imm l.length (l.flatMap encX) ∧ f 21 = .int .i64 ((l.length : Nat) : Int) ∧ f 22 = .int .i64 (v : Nat) ∧ f 5 = .int .i64 (v : Nat) ∧ f 28 = .imm A.frm.length (i64V A.frm) ∧ f 29 = .int .i64 ((A.frm.length : Nat) : Int) ∧ f 30 = .int .i64 (j : Nat) ∧ j ≤ A.frm.length ∧ h' = H4 ∧ mgF l L v A.frm = mgF l L v (A.frm.drop j)) (fun j => A.frm.length - j) 0 ⟨g0, g3, g20, g21, g22, rfl, rfl, rfl, rfl, Nat.zero_le _, rfl, rfl⟩ ?_
    rintro j p h5 ⟨p0, p3, p20, p21, p22, p5, p28, p29, p30, hj, rfl, hF⟩
    refine wpI_sound (by kernel_rfl) ?_
    by_cases hjl : j < A.frm.length
    rotate_left
    · have c2 : decide ((j : Int) < ((A.frm.length : Nat) : Int)) = false := by simp only [decide_eq_false_iff_not]; omega
      rw [List.drop_of_length_le (by omega)] at hF
      have hF' : mgF l L v A.frm = none := hF
      rw [hF'] at hE
      simp only [wpA_region, wpA_seq, wpA_cond, wpA_exit, wpA_ret, condI_false, seqQ_normal, seqQ_exit, blkQ_normal, blkQ_exit, blkQ_ret, endI_mk, goE, andThen_normal, andThen_exit, andThen_ret, goI_out, goI_ops, opsA_nil, opsA_cons, stepA_move, stepA_assign, stepA_binOp, thenV_some, eval_tmp, eval_const, put_some, aBin_add, aBin_lss, absV_int, Nat.reduceEqDiff, if_true, if_false, p3, p22, p29, p30, c2, w2]
      exact hid_mk ⟨v + 1, ⟨p0, p3, p20, p21, rfl, by omega, k4, by omega, gm4, hE⟩, by omega⟩
    have c2 : decide ((j : Int) < ((A.frm.length : Nat) : Int)) = true := by simp only [decide_eq_true_eq]; omega
    have x1 := i64V_ix' (P := Tryd.prog) (kk := .i64) hjl ss_33
    have w3 : IntKind.i64.wrap (((j : Nat) : Int) + 1) = ((j + 1 : Nat) : Int) := by rw [Go.IntWalk.i64_in _ (by omega)]; omega
    have hin : A.frm[j] ∈ A.frm := List.getElem_mem hjl
    rw [List.drop_eq_getElem_cons hjl] at hF
    generalize A.frm[j] = B at x1 hin hF
    obtain ⟨p1, p2⟩ := hrv B hin
    obtain ⟨q, rfl⟩ : ∃ q : Nat, B = (q : Int) := ⟨B.toNat, by omega⟩
    obtain ⟨x2, lu0, lk⟩ := kind_ix (l := l) (q := q) (by omega)
    have lv := lookI hM (k := v) (by omega) gm4
    have lq := lookI hM (k := q) (by omega) gm4
    replace hF : mgF l L v A.frm = if kindAt l (q : Int) ≠ 5 ∧ L.getD v 0 ≠ L.getD q 0 then some ((L.set v (min (L.getD v 0) (L.getD q 0))).set q (min (L.getD v 0) (L.getD q 0))) else mgF l L v (A.frm.drop (j + 1)) := hF
    by_cases h5k : kindAt l (q : Int) = 5
    · have c3 : (kindAt l (q : Int) != 5) = false := by simp [h5k]
      rw [if_neg (by simp [h5k])] at hF
      simp only [wpA_skip, wpA_region, wpA_seq, wpA_cond, wpA_block, condI_true, condI_false, seqQ_normal, blkQ_normal, endI_mk, andThen_normal, goI_out, goI_ops, opsA_nil, opsA_cons, opsA_guardS, gvI_ft, slotAt_zero, slotAt_succ, stepA_move, stepA_assign, stepA_pick, stepA_load, stepA_binOp, stepA_fieldAddr, stepA_indexAddr, thenV_some, pickV_false, eval_tmp, eval_const, put_some, aBin_add, aBin_neq, aBin_lss, absV_int, absV_bool, aField_eq, fieldGo_at, aLoad_eq, loadGo_one, aPlace_at, Nat.reduceEqDiff, reduceCtorEq, Nat.zero_le, List.drop_zero, if_true, if_false, ft_47_0, lt_3, p0, p28, p29, p30, c2, x1, x2, lu0, c3, w3]
      exact hid_mk ⟨j + 1, ⟨p0, p3, p20, p21, p22, p5, p28, p29, rfl, by omega, rfl, hF⟩, by omega⟩
    have c3 : (kindAt l (q : Int) != 5) = true := by simp [h5k]
    by_cases heq : L.getD v 0 = L.getD q 0
    · have c4 : (((L.getD v 0 : Nat) : Int) != ((L.getD q 0 : Nat) : Int)) = false := by rw [heq]; simp
      rw [if_neg (fun hh => hh.2 heq)] at hF
      simp only [wpA_skip, wpA_region, wpA_seq, wpA_cond, wpA_block, condI_true, condI_false, seqQ_normal, blkQ_normal, endI_mk, andThen_normal, goI_out, goI_ops, opsA_nil, opsA_cons, opsA_guardS, gvI_same, slotAt_zero, slotAt_succ, stepA_move, stepA_assign, stepA_pick, stepA_load, stepA_binOp, stepA_fieldAddr, stepA_indexAddr, stepA_lookup, thenV_some, pickV_true, eval_tmp, eval_const, put_some, aBin_add, aBin_neq, aBin_lss, absV_int, absV_bool, aField_eq, fieldGo_at, aLoad_eq, loadGo_one, aPlace_at, Nat.reduceEqDiff, reduceCtorEq, Nat.zero_le, List.drop_zero, if_true, if_false, ft_47_0, lt_3, p0, p3, p5, p28, p29, p30, c2, x1, x2, lu0, c3, lv, lq, c4, w3]
      exact hid_mk ⟨j + 1, ⟨p0, p3, p20, p21, p22, p5, p28, p29, rfl, by omega, rfl, hF⟩, by omega⟩
    have c4 : (((L.getD v 0 : Nat) : Int) != ((L.getD q 0 : Nat) : Int)) = true := by rw [bne_iff_ne]; omega
    rw [if_pos ⟨h5k, heq⟩] at hF
    rw [hF] at hE
    have hsum := sum_low (L := L) (v := v) (f := q) (by omega) (by omega) (by omega) heq
    generalize hlow : min (L.getD v 0) (L.getD q 0) = low at hF hE hsum
    have hmin : min ((L.getD v 0 : Nat) : Int) ((L.getD q 0 : Nat) : Int) = ((low : Nat) : Int) := by rw [← hlow, Nat.min_def, Int.min_def]; split <;> split <;> omega
    have u1 := updI es (v : Int) (low : Int) gm4
    have u2 := updI (h := h5.set h.n (.map (wI (kset cl es (v : Int) (low : Int))) (kclk cl es (v : Int)))) (kset cl es (v : Int) (low : Int)) (q : Int) (low : Int) get_set_same
    simp only [wpA_skip, wpA_region, wpA_seq, wpA_cond, wpA_block, wpA_exit, wpA_ret, condI_true, seqQ_normal, seqQ_exit, blkQ_normal, blkQ_exit, blkQ_ret, endI_mk, goE, andThen_normal, andThen_exit, andThen_ret, goI_out, goI_ops, opsA_nil, opsA_cons, opsA_guardS, gvI_same, slotAt_zero, slotAt_succ, stepA_move, stepA_assign, stepA_pick, stepA_load, stepA_binOp, stepA_fieldAddr, stepA_indexAddr, stepA_lookup, stepA_mapUpdate, stepA_min, thenV_some, thenS_some, pickV_true, eval_tmp, eval_const, put_some, put_none, aBin_add, aBin_neq, aBin_lss, mmV_min, absV_int, absV_bool, aField_eq, fieldGo_at, aLoad_eq, loadGo_one, aPlace_at, set_set, Nat.reduceEqDiff, reduceCtorEq, Nat.zero_le, List.drop_zero, if_true, if_false, ft_47_0, lt_3, p0, p3, p22, p5, p28, p29, p30, c2, x1, x2, lu0, c3, lv, lq, c4, hmin, u1, u2]
    obtain ⟨k', rfl⟩ : ∃ k', k = k' + 1 := ⟨k - 1, by omega⟩
    have hR' : mgN l k' ((L.set v low).set q low) = mgX l := by
      rw [← hR]
      show _ = match mgV l L 0 l with | some L' => mgN l k' L' | none => L
      rw [hE]
    refine hid_mk ⟨((L.set v low).set q low, kset (kclk cl es (v : Int)) (kset cl es (v : Int) (low : Int)) (q : Int) (low : Int), kclk (kclk cl es (v : Int)) (kset cl es (v : Int) (low : Int)) (q : Int), k'), ⟨p0, p3, k4.setNew (Nat.le_refl _) _, by show h.n < h5.n; omega, get_set_same, (hM.set cl v low).set _ q low, by simp [hL], by simp only; omega, hR'⟩, by simp only; omega⟩
  · intro step
    refine SWp.seq (wpI_sound (by kernel_rfl) ?_)
    simp only [wpA_region, endI_mk, andThen_normal, goI_out, goI_ops, opsA_nil, opsA_cons, stepA_assign, stepA_makeMap, thenH_some, eval_tmp, put_some, enterF_succ, makeMap_nil, Nat.reduceEqDiff, Option.map_none, if_true, if_false]
    refine SWp.seq (wpI_sound (by kernel_rfl) ?_)
    simp only [wpA_region, wpA_seq, wpA_block, wpA_loop, seqQ_normal, goI_out, goI_ops, opsA_nil, opsA_cons, stepA_move, stepA_len, thenV_some, eval_tmp, eval_const, put_some, enterF_zero, enterF_succ, absV_int, aLen_imm, Nat.reduceEqDiff, reduceCtorEq, if_true, if_false, kt_22]
    refine SWp.loopG (α := Nat × List (Nat × Int × Int) × Nat) (fun x f h' => f 0 = .imm l.length (l.flatMap encX) ∧ f 3 = .map h.n ∧ f 12 = .int .i64 ((l.length : Nat) : Int) ∧ f 13 = .int .i64 (x.1 : Nat) ∧ x.1 ≤ l.length ∧ Keep h h' none_ ∧ h.n < h'.n ∧ h'.get h.n = .map (wI x.2.1) x.2.2 ∧ MI x.2.1 (List.range x.1)) (fun x => l.length - x.1) (0, [], 0) ⟨rfl, rfl, rfl, rfl, Nat.zero_le _, Keep.push _ _ _, Nat.lt_succ_self _, get_push_new, fun k hk => by simp at hk⟩ ?_
    rintro ⟨i, es, cl⟩ f h1 ⟨f0, f3, f12, f13, hi, k1, n1, gm, hM⟩
    simp only at f13 hi gm hM
    refine wpI_sound (by kernel_rfl) ?_
    by_cases hlt : i < l.length
    · have c1 : decide ((i : Int) < ((l.length : Nat) : Int)) = true := by simp only [decide_eq_true_eq]; omega
      have w2 : IntKind.i64.wrap (((i : Nat) : Int) + 1) = ((i + 1 : Nat) : Int) := by rw [Go.IntWalk.i64_in _ (by omega)]; omega
      have u1 := updI es (i : Int) (i : Int) gm
      have hM2 : MI (kset cl es (i : Int) (i : Int)) (List.range (i + 1)) := fun k hk => by
        rw [List.length_range] at hk
        rw [kget_kset]
        have hg : (List.range (i + 1)).getD k 0 = k := by rw [List.getD, List.getElem?_range hk]; rfl
        rw [hg]
        by_cases hki : k = i
        · rw [hki, if_pos rfl]
        · rw [if_neg (by omega), hM k (by rw [List.length_range]; omega), List.getD, List.getElem?_range (by omega)]
          rfl
      simp only [wpA_skip, wpA_region, wpA_seq, wpA_cond, wpA_block, condI_true, seqQ_normal, blkQ_normal, endI_mk, andThen_normal, goI_out, goI_ops, opsA_nil, opsA_cons, stepA_move, stepA_assign, stepA_binOp, stepA_mapUpdate, thenV_some, thenS_some, eval_tmp, eval_const, put_some, put_none, aBin_add, aBin_lss, absV_int, Nat.reduceEqDiff, if_true, if_false, f3, f12, f13, c1, u1, w2]
      exact hid_mk ⟨(i + 1, kset cl es (i : Int) (i : Int), kclk cl es (i : Int)), ⟨f0, f3, f12, rfl, by simp only; omega, k1.setNew (Nat.le_refl _) _, n1, get_set_same, hM2⟩, by simp only; omega⟩
    · have c1 : decide ((i : Int) < ((l.length : Nat) : Int)) = false := by simp only [decide_eq_false_iff_not]; omega
      have hil : i = l.length := by omega
      rw [hil] at hM
      simp only [wpA_region, wpA_seq, wpA_cond, wpA_exit, condI_false, seqQ_normal, seqQ_exit, blkQ_exit, endI_mk, goE, andThen_normal, andThen_exit, goI_out, goI_ops, opsA_nil, opsA_cons, stepA_binOp, thenV_some, eval_tmp, put_some, aBin_lss, if_true, f12, f13, c1]
      refine SWp.seq (.label ?_)
      exact step () _ _ ⟨f0, f3, k1, n1, es, cl, gm, hM⟩
end Go.Proofs.YtpmmbcifhallbaaDoor.Pk
