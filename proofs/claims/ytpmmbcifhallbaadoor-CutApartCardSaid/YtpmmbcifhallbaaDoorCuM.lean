/-
  What functions of the program do, told of abstract states. Conditions: as each theorem says.
-/
import Derived.Test.YtpmmbcifhallbaaDoorCuI
import Derived.Test.YtpmmbcifhallbaaDoorCuL
import Derived.Test.YtpmmbcifhallbaaDoorAbD
namespace Go.Proofs.YtpmmbcifhallbaaDoor.Pk
open Go Go.Proofs Go.Proofs.YtpmmbcifhallbaaDoor.Ab
set_option linter.unusedVariables false
set_option linter.unusedSimpArgs false

/-! ### What CutApart asks of the parts -/
theorem inN_mem {l : List Vx} {P : List Int} {part : Int} {m : Int} : ∀ {i : Nat}, m ∈ inN l P part i ↔ ∃ k : Nat, m = (k : Int) ∧ k < i ∧ isIn l P part k = true
  | 0 => by simp [inN]
  | i + 1 => by
    unfold inN
    rw [List.mem_append, inN_mem (i := i)]
    constructor
    · rintro (⟨k, a, b, c⟩ | h)
      · exact ⟨k, a, by omega, c⟩
      · split at h
        · rename_i hc
          exact ⟨i, by simpa using h, by omega, hc⟩
        · simp at h
    · rintro ⟨k, a, b, c⟩
      rcases Nat.lt_or_ge k i with hk | hk
      · exact .inl ⟨k, a, hk, c⟩
      · obtain rfl : k = i := by omega
        exact .inr (by rw [if_pos c, a]; simp)
theorem us_lt {l : List Vx} {v u : Int} (h : u ∈ usF v 0 l) : ∃ (m : Nat) (x : Vx), u = (m : Int) ∧ m < l.length ∧ l[m]? = some x ∧ v ∈ x.frm := by
  obtain ⟨m, x, a, b, c⟩ := usF_mem.1 h
  exact ⟨m, x, by omega, (List.getElem?_eq_some_iff.1 b).1, b, c⟩
theorem root_of {l : List Vx} {R : List Nat} (hR : Lst l R) : ∀ {i : Nat} {n : Nat}, i ≤ l.length → n < cntR R i → ∃ r, r < i ∧ R.getD r 0 = r ∧ cntR R r = n
  | 0, n, _, h => by simp [cntR, ptN] at h
  | i + 1, n, hi, h => by
    rw [cnt_succ] at h
    by_cases hr : R.getD i 0 = i
    · rw [if_pos hr] at h
      rcases Nat.lt_or_ge n (cntR R i) with hn | hn
      · obtain ⟨r, a, b, c⟩ := root_of hR (i := i) (by omega) hn
        exact ⟨r, by omega, b, c⟩
      · exact ⟨i, by omega, hr, by omega⟩
    · rw [if_neg hr] at h
      obtain ⟨r, a, b, c⟩ := root_of hR (i := i) (by omega) h
      exact ⟨r, by omega, b, c⟩
structure Apart (l : List Vx) (p : Int) (P : List Int) (R : List Nat) : Prop where
  len : P.length = l.length
  edge : ∀ (i : Nat) (x : Vx), l[i]? = some x → ∀ f ∈ x.frm, ∃ g : Nat, f = (g : Int) ∧ g < i ∧ (kindAt l f ≠ 5 → P.getD g 0 = P.getD i 0)
  step : ∀ i, i < l.length → 0 ≤ P.getD i 0 ∧ P.getD i 0 ≤ ((cntR R i : Nat) : Int) ∧ ((cntR R (i + 1) : Nat) : Int) = (if P.getD i 0 = ((cntR R i : Nat) : Int) then ((cntR R i : Nat) : Int) + 1 else ((cntR R i : Nat) : Int))
  has : ∀ n : Nat, n < cntR R l.length → inN l P (n : Int) l.length ≠ []
  none : inN l P ((cntR R l.length : Nat) : Int) l.length = []
theorem apart_of {p : Int} {l : List Vx} (h0 : (chkT p l).2 = 0) : Apart l p (partsX p l) (mgX l) := by
  obtain ⟨_, hp, l1, l24, _, hall⟩ := chk_ok h0
  have hu := up_of h0
  have hR := mgX_lst hu l24
  have hP : ∀ v, v < l.length → (partsX p l).getD v 0 = ((cntR (mgX l) ((mgX l).getD v 0) : Nat) : Int) := fun v hv => parts_get h0 hv
  have hlt : ∀ v, v < l.length → (mgX l).getD v 0 < l.length := fun v hv => by have := hR.le v; omega
  have hlen := partsX_len h0
  generalize partsX p l = P at hP hlen
  generalize mgX l = R at *
  refine ⟨hlen, fun i x hx f hf => ?_, fun i hi => ?_, fun n hn => ?_, ?_⟩
  · obtain ⟨a, b⟩ := hu i x hx f hf
    have hi := (List.getElem?_eq_some_iff.1 hx).1
    obtain ⟨g, rfl⟩ : ∃ g : Nat, f = (g : Int) := ⟨f.toNat, by omega⟩
    refine ⟨g, rfl, by omega, fun hk => ?_⟩
    rw [hP g (by omega), hP i hi, hR.ed g i ⟨x, hx, hf, hk⟩]
  · have hr := hR.root hi
    have hl := hR.le i
    rw [hP i hi, cnt_succ]
    rcases Nat.lt_or_ge (R.getD i 0) i with h | h
    · have := cnt_lt hr h
      refine ⟨by omega, by omega, ?_⟩
      rw [if_neg (by omega), if_neg (by omega)]
    · have he : R.getD i 0 = i := by omega
      rw [he]
      refine ⟨by omega, by omega, ?_⟩
      rw [if_pos rfl, if_pos rfl]
      omega
  · obtain ⟨r, r1, r2, r3⟩ := root_of hR (Nat.le_refl _) hn
    have hPr : P.getD r 0 = (n : Int) := by rw [hP r r1, r2, r3]
    have hx := List.getElem?_eq_getElem r1
    obtain ⟨vk, vf, vh, _, _⟩ := chkV_zero (hall r _ hx)
    have hfr := has_frm vk.1 vk.2 vh
    have hkr : kindAt l (r : Int) = l[r].kind := (kind_ix r1).2.2
    suffices ∃ k : Nat, k < l.length ∧ isIn l P (n : Int) k = true by
      obtain ⟨k, a, b⟩ := this
      intro h
      have := (inN_mem (m := (k : Int)) (i := l.length)).2 ⟨k, rfl, a, b⟩
      rw [h] at this
      simp at this
    by_cases h1 : l[r].kind = 1
    · refine ⟨r, r1, ?_⟩
      unfold isIn
      rw [hkr, h1, hPr]
      simp
    · have hne : l[r].frm ≠ [] := fun he => by
        rw [he] at hfr
        simp at hfr
        exact h1 hfr
      obtain ⟨f, fs, hfe⟩ := List.exists_cons_of_ne_nil hne
      have hf : f ∈ l[r].frm := by rw [hfe]; simp
      obtain ⟨a, b⟩ := vf f hf
      obtain ⟨g, rfl⟩ : ∃ g : Nat, f = (g : Int) := ⟨f.toNat, by omega⟩
      have hk5 : kindAt l (g : Int) = 5 := Classical.byContradiction fun hk => by
        have := hR.ed g r ⟨_, hx, hf, hk⟩
        have := hR.le g
        omega
      refine ⟨g, by omega, ?_⟩
      unfold isIn
      rw [hk5]
      have : ((usF (g : Int) 0 l).any fun u => P.getD u.toNat 0 == (n : Int)) = true := by
        rw [List.any_eq_true]
        exact ⟨(r : Int), usF_mem.2 ⟨r, _, by omega, hx, hf⟩, by rw [Int.toNat_natCast, hPr]; simp⟩
      rw [this]
      simp
  · have hno : ∀ v, v < l.length → (P.getD v 0 == ((cntR R l.length : Nat) : Int)) = false := fun v hv => by
      have := cnt_lt (hR.root hv) (hlt v hv)
      rw [hP v hv]
      simp only [beq_eq_false_iff_ne, ne_eq]
      omega
    refine List.eq_nil_iff_forall_not_mem.2 fun m hm => ?_
    obtain ⟨k, e, hk, hin⟩ := inN_mem.1 hm
    unfold isIn at hin
    rw [hno k hk] at hin
    simp only [Bool.and_false, Bool.false_or, Bool.and_eq_true, List.any_eq_true] at hin
    obtain ⟨_, u, hu1, hu2⟩ := hin
    obtain ⟨q, x, rfl, hq, _, _⟩ := us_lt hu1
    rw [Int.toNat_natCast, hno q hq] at hu2
    cases hu2
theorem row_f (X : Vx) (r : List V) : (if 1 ≤ (encX X ++ r).length then some (V.at ((encX X ++ r).drop 1)) else none) = some (.at (.imm X.frm.length (i64V X.frm) :: ([.int .i64 X.e.op, .int .i64 X.e.num, .imm X.e.ks.length (X.e.ks.flatMap encE), .int .i64 X.n] ++ r))) := by
  rw [if_pos (by rw [List.length_append, encX_len]; omega), encX_eq]; rfl
set_option maxHeartbeats 4000000 in
set_option maxRecDepth 10000 in
theorem cutApart (l : List Vx) (p : Int) (hok : OkT l) (h : AHeap) (hg : TG h) : SCalls Tryd.prog 10 [.agg (topE l p)] h (fun r h' => r = .bool true) := by
  have hc : (V.agg (topE l p)).cells = some [.imm l.length (l.flatMap encX), .int .i64 p] := rfl
  obtain ⟨H, hH⟩ : ∃ x, x = h.push (.cells [.imm l.length (l.flatMap encX), .int .i64 p] 24 none) := ⟨_, rfl⟩
  have gt : H.get h.n = .cells [.imm l.length (l.flatMap encX), .int .i64 p] 24 none := by rw [hH]; exact get_push_new
  have kH : Keep h H none_ := by rw [hH]; exact Keep.push _ _ _
  have tH := hg.keep kH
  refine SCalls.enterI (c := _) Tryd.func10 rfl (by kernel_rfl) (by simp) ?_
  simp only [wpA_region, wpA_seq, seqQ_normal, goI_out, goI_ops, opsA_nil, opsA_cons, stepA_assign, stepA_box, stepA_call, thenH_some, eval_tmp, eval_const, enterF_zero, absV_bool, aBox_eq, List.map_nil, Option.map_some, hc, ← hH]
  refine callI_pure cal25 (pShown16 H tH) ?_
  simp only [wpA_region, wpA_seq, seqQ_normal, goI_out, goI_ops, opsA_nil, opsA_cons, stepA_assign, stepA_load, stepA_call, thenV_some, eval_tmp, put_some, enterF_succ, aLoad_eq, loadGo_row, aPlace_ptr, dropC_cells, Nat.reduceEqDiff, Nat.reduceAdd, List.map_cons, List.map_nil, Nat.zero_add, Nat.zero_le, List.length_cons, List.length_nil, List.drop_zero, List.take_succ_cons, List.take_nil, if_true, if_false, Nat.le_refl, lt_24, gt]
  refine callI_pure cal26 (pSmall16 l p hok H) ?_
  cases c1 : decide (smF 0 l ≤ 5000)
  · simp only [wpA_region, wpA_seq, wpA_cond, wpA_ret, condI_true, seqQ_normal, seqQ_ret, endI_mk, goI_out, goI_ops, opsA_nil, opsA_cons, stepA_move, stepA_assign, stepA_unOp, thenV_some, eval_tmp, put_some, enterF_succ, aUn_not, Nat.reduceEqDiff, if_true, if_false, Bool.not_false, retA_ret, Tryd.results10, resultsA_1]
    exact hid_mk rfl
  simp only [wpA_skip, wpA_region, wpA_seq, wpA_cond, condI_false, seqQ_normal, goI_out, goI_ops, opsA_nil, opsA_cons, stepA_load, stepA_unOp, stepA_call, thenV_some, eval_tmp, put_some, enterF_succ, aUn_not, aLoad_eq, loadGo_row, aPlace_ptr, dropC_cells, Nat.reduceEqDiff, Nat.reduceAdd, List.map_cons, List.map_nil, Nat.zero_add, Nat.zero_le, List.length_cons, List.length_nil, List.drop_zero, List.take_succ_cons, List.take_nil, if_true, if_false, Bool.not_true, Nat.le_refl, lt_24, gt]
  refine callI_pure cal27 (pParts l p hok H tH) ?_
  by_cases h0 : (chkT p l).2 = 0
  rotate_left
  · have c2 : ((chkT p l).2 != 0) = true := by simp [h0]
    have hG : partsX p l = [] := if_neg h0
    have hT : tasksX p l = 0 := if_neg h0
    rw [hG]
    have z0 : (((0 : Nat) : Int) == 0) = true := rfl
    simp only [wpA_region, wpA_seq, wpA_cond, condI_true, seqQ_normal, goI_out, goI_ops, opsA_nil, opsA_cons, opsA_guardS, gvI_same, slotAt_zero, slotAt_succ, stepA_move, stepA_assign, stepA_pick, stepA_load, stepA_binOp, stepA_extract, stepA_len, stepA_call, thenV_some, pickV_true, extV_zero, extV_succ, eval_tmp, eval_const, put_some, enterF_succ, aBin_eql, aBin_neq, absV_int, absV_bool, aLoad_eq, loadGo_row, aPlace_ptr, dropC_cells, aLen_imm, Nat.reduceEqDiff, Nat.reduceAdd, List.map_cons, List.map_nil, Nat.zero_add, Nat.zero_le, List.length_cons, List.length_nil, List.drop_zero, List.take_succ_cons, List.take_nil, if_true, if_false, Nat.le_refl, kt_33, lt_24, c2, gt, z0]
    refine callI_pure cal29 (pTasks l p hok H tH) ?_
    rw [hT]
    simp only [wpA_ret, seqQ_normal, seqQ_ret, endI_mk, goI_out, goI_ops, opsA_nil, opsA_cons, opsA_guardS, gvI_same, slotAt_zero, slotAt_succ, stepA_assign, stepA_pick, stepA_binOp, thenV_some, pickV_true, eval_tmp, eval_const, put_some, enterF_succ, aBin_eql, absV_int, absV_bool, beq_self_eq_true, Nat.reduceEqDiff, List.map_nil, if_true, if_false, i64V, retA_ret, Tryd.results10, resultsA_1]
    exact hid_mk rfl
  have c2 : ((chkT p l).2 != 0) = false := by simp [h0]
  obtain ⟨_, hp, l1, l24, _, hall⟩ := chk_ok h0
  have hA := apart_of h0
  have hT := tasks_eq h0
  have hcn := fun i => cntR_le (mgX l) i
  have hIn : ∀ n, inputsX p l n = inN l (partsX p l) n l.length := fun n => by rw [inputsX, partsX_len h0]
  have bIn := pInputs l p
  have bTa := pTasks l p hok
  simp only [hIn] at bIn
  rw [hT] at bTa
  generalize partsX p l = P at *
  generalize mgX l = R at *
  have hPl := hA.len
  have c3 : (((P.length : Nat) : Int) != ((l.length : Nat) : Int)) = false := by rw [hPl]; simp
  simp only [wpA_skip, wpA_region, wpA_seq, wpA_cond, wpA_block, wpA_loop, condI_false, seqQ_normal, goI_out, goI_ops, opsA_nil, opsA_cons, stepA_move, stepA_assign, stepA_load, stepA_binOp, stepA_fieldAddr, stepA_extract, stepA_len, thenV_some, extV_zero, extV_succ, eval_tmp, eval_const, put_some, enterF_succ, aBin_neq, absV_int, aField_eq, fieldGo_ptr, aLoad_eq, loadGo_one, aPlace_ptr, dropC_cells, aLen_imm, Nat.reduceEqDiff, Nat.reduceAdd, Nat.add_zero, Nat.zero_add, Nat.zero_le, List.length_cons, List.length_nil, List.drop_zero, if_true, if_false, ft_24_0, kt_22, kt_33, lt_22, c2, c3, gt]
  refine SWp.loopG (α := Nat) (fun i f h' => f 1 = .ptr h.n 0 ∧ f 3 = .bool true ∧ f 4 = .imm P.length (i64V P) ∧ f 6 = .int .i64 (cntR R i : Nat) ∧ f 7 = .int .i64 (i : Nat) ∧ i ≤ l.length ∧ h' = H) (fun i => l.length - i) 0 ⟨rfl, rfl, rfl, rfl, rfl, Nat.zero_le _, rfl⟩ ?_
  rintro i f h1 ⟨f1, f3, f4, f6, f7, hi, rfl⟩
  refine wpI_sound (by kernel_rfl) ?_
  by_cases hlt : i < l.length
  · have c4 : decide ((i : Int) < ((P.length : Nat) : Int)) = true := by simp only [decide_eq_true_eq]; omega
    obtain ⟨s1, s2, s3⟩ := hA.step i hlt
    have he := hA.edge i l[i] (List.getElem?_eq_getElem hlt)
    obtain ⟨x0, lu0, lk0⟩ := kind_ix hlt
    have xP := i64V_ix' (P := Tryd.prog) (kk := .i64) (l := P) (k := i) (by omega) ss_33
    have hgd : P.getD i 0 = P[i] := by rw [List.getD, List.getElem?_eq_getElem (by omega)]; rfl
    rw [← hgd] at xP
    have hfl := (hok.2 _ (List.getElem_mem hlt)).2.1
    generalize l[i] = A at x0 lu0 lk0 he hfl
    have hrf := row_f A
    have w2 : IntKind.i64.wrap (((i : Nat) : Int) + 1) = ((i + 1 : Nat) : Int) := by rw [Go.IntWalk.i64_in _ (by omega)]; omega
    simp only [wpA_skip, wpA_region, wpA_seq, wpA_cond, wpA_block, wpA_loop, condI_true, seqQ_normal, goI_out, goI_ops, opsA_nil, opsA_cons, stepA_move, stepA_assign, stepA_binOp, stepA_len, thenV_some, eval_tmp, eval_const, put_some, aBin_lss, absV_int, aLen_imm, Nat.reduceEqDiff, if_true, if_false, kt_33, f4, f7, c4]
    refine SWp.loopG (α := Nat) (fun j f h' => f 1 = .ptr h.n 0 ∧ f 3 = .bool true ∧ f 4 = .imm P.length (i64V P) ∧ f 6 = .int .i64 (cntR R i : Nat) ∧ f 7 = .int .i64 (i : Nat) ∧ f 8 = .int .i64 (j : Nat) ∧ j ≤ A.frm.length ∧ h' = h1) (fun j => A.frm.length - j) 0 ⟨f1, f3, f4, f6, f7, rfl, Nat.zero_le _, rfl⟩ ?_
    rintro j g h2 ⟨g1, g3, g4, g6, g7, g8, hj, rfl⟩
    refine wpI_sound (by kernel_rfl) ?_
    by_cases hjl : j < A.frm.length
    · have c5 : decide ((j : Int) < ((A.frm.length : Nat) : Int)) = true := by simp only [decide_eq_true_eq]; omega
      have xf := i64V_ix' (P := Tryd.prog) (kk := .i64) (l := A.frm) (k := j) hjl ss_33
      obtain ⟨q, e1, e2, e3⟩ := he A.frm[j] (List.getElem_mem hjl)
      rw [e1] at xf e3
      have xq := i64V_ix' (P := Tryd.prog) (kk := .i64) (l := P) (k := q) (by omega) ss_33
      have hgq : P.getD q 0 = P[q] := by rw [List.getD, List.getElem?_eq_getElem (by omega)]; rfl
      rw [← hgq] at xq
      obtain ⟨x2, lu2, _⟩ := kind_ix (l := l) (q := q) (by omega)
      have w3 : IntKind.i64.wrap (((j : Nat) : Int) + 1) = ((j + 1 : Nat) : Int) := by rw [Go.IntWalk.i64_in _ (by omega)]; omega
      simp only [wpA_skip, wpA_region, wpA_seq, wpA_cond, wpA_block, wpA_draw, condI_true, seqQ_normal, goI_out, goI_ops, opsA_nil, opsA_cons, stepA_move, stepA_assign, stepA_load, stepA_binOp, stepA_fieldAddr, stepA_indexAddr, stepA_len, thenV_some, eval_tmp, put_some, aBin_lss, aField_eq, fieldGo_ptr, fieldGo_at, aLoad_eq, loadGo_one, aPlace_ptr, aPlace_at, dropC_cells, aLen_imm, Nat.reduceEqDiff, Nat.reduceAdd, Nat.add_zero, Nat.zero_add, Nat.zero_le, List.length_cons, List.length_nil, List.drop_zero, List.nil_append, List.cons_append, if_true, if_false, ft_24_0, ft_47_1, kt_33, lt_22, lt_3, lt_33, g1, g7, g8, gt, x0, hrf, c5, xf]
      refine SWp.drawnS none_ [] (.q 0 (.q 1 (.q 2 (.q 3 (.q 4 (.q 5 (.q 6 (.q 7 (.q 8 (.q 9 (.q 10 (.q 11 (.q 12 (.q 13 (.q 14 (.q 15 (.q 16 (.q 17 .done)))))))))))))))))) (by kernel_rfl) (by kernel_rfl) (by kernel_rfl) ?_
      by_cases hk : kindAt l (q : Int) = 5
      · have c6 : (kindAt l (q : Int) != 5) = false := by simp [hk]
        cases c7 : (P.getD q 0 != P.getD i 0) <;>
          (simp only [siI_done, siI_q, sqI_some, mOk_none', implies_true, qI_nil, qI_cons, qI_guard, qgI_same, qgI_ft, thenQ_some, q_move, q_pick, q_load, q_binOp, q_fieldAddr, q_indexAddr, wpA_skip, wpA_region, wpA_cond, condI_false, seqQ_normal, blkQ_normal, endI_mk, andThen_normal, goI_out, goI_ops, goI_mk, opsA_nil, opsA_cons, slotAt_zero, slotAt_succ, stepA_move, stepA_assign, stepA_binOp, thenV_some, pickV_true, pickV_false, eval_tmp, eval_const, put_some, aBin_add, aBin_neq, absV_int, absV_bool, aField_eq, fieldGo_ptr, fieldGo_at, aLoad_eq, loadGo_one, aPlace_ptr, aPlace_at, dropC_cells, List.getElem?_cons_zero, List.getElem?_cons_succ, Nat.reduceEqDiff, Nat.reduceAdd, Nat.add_zero, Nat.zero_add, Nat.zero_le, List.length_cons, List.length_nil, List.drop_zero, true_and, if_true, if_false, ft_24_0, ft_47_0, lt_22, lt_3, g1, g4, g7, g8, gt, xq, xP, x2, lu2, c6, c7, w3]
           exact hid_mk ⟨j + 1, ⟨g1, g3, g4, g6, g7, rfl, by omega, rfl⟩, by omega⟩)
      · have c7 : (P.getD q 0 != P.getD i 0) = false := by rw [e3 hk]; exact bne_self_eq_false _
        simp only [siI_done, siI_q, sqI_some, mOk_none', implies_true, qI_nil, qI_cons, qI_guard, qgI_ft, thenQ_some, q_move, q_pick, q_load, q_binOp, q_indexAddr, wpA_skip, wpA_region, wpA_cond, condI_false, seqQ_normal, blkQ_normal, endI_mk, andThen_normal, goI_out, goI_ops, goI_mk, opsA_nil, opsA_cons, slotAt_zero, slotAt_succ, stepA_move, stepA_assign, stepA_binOp, thenV_some, pickV_false, eval_tmp, eval_const, put_some, aBin_add, aBin_neq, absV_int, absV_bool, aLoad_eq, loadGo_one, aPlace_at, List.getElem?_cons_zero, List.getElem?_cons_succ, Nat.reduceEqDiff, true_and, if_true, if_false, lt_3, g4, g7, g8, xq, xP, c7, w3]
        exact hid_mk ⟨j + 1, ⟨g1, g3, g4, g6, g7, rfl, by omega, rfl⟩, by omega⟩
    · have c5 : decide ((j : Int) < ((A.frm.length : Nat) : Int)) = false := by simp only [decide_eq_false_iff_not]; omega
      have c6 : decide (((cntR R i : Nat) : Int) < P.getD i 0) = false := by simp only [decide_eq_false_iff_not]; omega
      have c7 : decide (P.getD i 0 < 0) = false := by simp only [decide_eq_false_iff_not]; omega
      have hci := hcn i
      have w4 : IntKind.i64.wrap (((cntR R i : Nat) : Int) + 1) = ((cntR R i : Nat) : Int) + 1 := Go.IntWalk.i64_in _ (by omega)
      by_cases hq : P.getD i 0 = ((cntR R i : Nat) : Int)
      · have c8 : (P.getD i 0 == ((cntR R i : Nat) : Int)) = true := by rw [hq]; exact beq_self_eq_true _
        rw [if_pos hq] at s3
        simp only [wpA_skip, wpA_region, wpA_seq, wpA_cond, wpA_block, wpA_exit, wpA_loop, condI_true, condI_false, seqQ_normal, seqQ_exit, blkQ_normal, blkQ_exit, endI_mk, goE, andThen_normal, andThen_exit, goI_out, goI_ops, opsA_nil, opsA_cons, opsA_guardS, gvI_same, slotAt_zero, slotAt_succ, stepA_move, stepA_assign, stepA_pick, stepA_load, stepA_binOp, stepA_fieldAddr, stepA_indexAddr, stepA_len, thenV_some, pickV_false, eval_tmp, eval_const, put_some, aBin_add, aBin_eql, aBin_lss, aBin_gtr, absV_int, absV_bool, aField_eq, fieldGo_ptr, fieldGo_at, aLoad_eq, loadGo_one, aPlace_ptr, aPlace_at, dropC_cells, aLen_imm, Nat.reduceEqDiff, Nat.reduceAdd, reduceCtorEq, Nat.add_zero, Nat.zero_add, Nat.zero_le, List.length_cons, List.length_nil, List.drop_zero, List.nil_append, List.cons_append, if_true, if_false, ft_24_0, ft_47_1, kt_33, lt_22, lt_3, lt_33, g1, g4, g6, g7, g8, gt, x0, hrf, c5, c6, c7, c8, xP, w2, w4]
        exact hid_mk ⟨i + 1, ⟨g1, g3, g4, by rw [s3]; rfl, rfl, by omega, rfl⟩, by omega⟩
      · have c8 : (P.getD i 0 == ((cntR R i : Nat) : Int)) = false := beq_eq_false_iff_ne.2 hq
        rw [if_neg hq] at s3
        simp only [wpA_skip, wpA_region, wpA_seq, wpA_cond, wpA_block, wpA_exit, wpA_loop, condI_false, seqQ_normal, seqQ_exit, blkQ_normal, blkQ_exit, endI_mk, goE, andThen_normal, andThen_exit, goI_out, goI_ops, opsA_nil, opsA_cons, opsA_guardS, gvI_same, slotAt_zero, slotAt_succ, stepA_move, stepA_assign, stepA_pick, stepA_load, stepA_binOp, stepA_fieldAddr, stepA_indexAddr, stepA_len, thenV_some, pickV_false, eval_tmp, eval_const, put_some, aBin_add, aBin_eql, aBin_lss, aBin_gtr, absV_int, absV_bool, aField_eq, fieldGo_ptr, fieldGo_at, aLoad_eq, loadGo_one, aPlace_ptr, aPlace_at, dropC_cells, aLen_imm, Nat.reduceEqDiff, Nat.reduceAdd, reduceCtorEq, Nat.add_zero, Nat.zero_add, Nat.zero_le, List.length_cons, List.length_nil, List.drop_zero, List.nil_append, List.cons_append, if_true, if_false, ft_24_0, ft_47_1, kt_33, lt_22, lt_3, lt_33, g1, g4, g6, g7, g8, gt, x0, hrf, c5, c6, c7, c8, xP, w2]
        exact hid_mk ⟨i + 1, ⟨g1, g3, g4, by rw [s3]; exact g6, rfl, by omega, rfl⟩, by omega⟩
  have c4 : decide ((i : Int) < ((P.length : Nat) : Int)) = false := by simp only [decide_eq_false_iff_not]; omega
  obtain rfl : i = l.length := by omega
  have hcl := hcn l.length
  simp only [wpA_region, wpA_seq, wpA_cond, wpA_block, wpA_exit, wpA_loop, condI_false, seqQ_normal, seqQ_exit, blkQ_exit, endI_mk, goE, andThen_exit, goI_out, goI_ops, opsA_nil, opsA_cons, stepA_move, stepA_assign, stepA_binOp, stepA_len, thenV_some, eval_tmp, eval_const, put_some, aBin_lss, absV_int, aLen_imm, Nat.reduceEqDiff, if_true, if_false, kt_33, f4, f7, c4]
  have hno := hA.none
  have hhas := hA.has
  generalize cntR R l.length = C at *
  refine SWp.loopG (α := Nat) (fun n f h' => f 1 = .ptr h.n 0 ∧ f 3 = .bool true ∧ f 4 = .imm P.length (i64V P) ∧ f 6 = .int .i64 (C : Nat) ∧ f 10 = .int .i64 (n : Nat) ∧ n ≤ C ∧ h' = h1) (fun n => C - n) 0 ⟨f1, f3, f4, f6, rfl, Nat.zero_le _, rfl⟩ ?_
  rintro n g h2 ⟨g1, g3, g4, g6, g10, hn, rfl⟩
  refine wpI_sound (by kernel_rfl) ?_
  by_cases hnl : n < C
  rotate_left
  · have c5 : decide ((n : Int) < ((C : Nat) : Int)) = false := by simp only [decide_eq_false_iff_not]; omega
    have hw : IntKind.i64.wrap ((C : Int) * p) = (C : Int) * p := by
      have hP : p = 1 ∨ p = 2 ∨ p = 3 ∨ p = 4 ∨ p = 5 ∨ p = 6 ∨ p = 7 ∨ p = 8 := by omega
      refine Go.IntWalk.i64_in _ ?_
      rcases hP with rfl | rfl | rfl | rfl | rfl | rfl | rfl | rfl <;> omega
    have c6 : ((C : Int) * p == (C : Int) * p) = true := by simp
    have bI := bIn (C : Nat) hok
    rw [hno] at bI
    simp only [wpA_region, wpA_seq, wpA_cond, wpA_exit, wpA_draw, condI_false, seqQ_normal, seqQ_exit, blkQ_exit, endI_mk, goE, andThen_exit, goI_out, goI_ops, opsA_nil, opsA_cons, stepA_move, stepA_binOp, thenV_some, eval_tmp, put_some, aBin_lss, Nat.reduceEqDiff, if_true, if_false, g6, g10, c5]
    refine SWp.drawnS none_ [] (.q 0 (.q 1 (.q 2 (.c 3 (.q 4 (.q 5 (.q 6 (.q 7 (.q 8 (.q 9 (.q 10 (.q 11 (.q 12 (.c 13 (.q 14 (.q 15 (.q 16 (.q 17 .done)))))))))))))))))) (by kernel_rfl) (by kernel_rfl) (by kernel_rfl) ?_
    simp only [siI_q, sqI_some, mOk_none', implies_true, qI_nil, qI_cons, qI_guard, qgI_same, thenQ_some, q_move, q_load, goI_mk, slotAt_zero, slotAt_succ, eval_tmp, put_some, aLoad_eq, loadGo_row, aPlace_ptr, dropC_cells, List.getElem?_cons_zero, List.getElem?_cons_succ, Nat.reduceEqDiff, Nat.reduceAdd, Nat.zero_add, Nat.zero_le, List.length_cons, List.length_nil, List.drop_zero, List.take_succ_cons, List.take_nil, true_and, if_true, if_false, Nat.le_refl, lt_24, g1, g3, gt]
    refine siI_c rfl rfl rfl (fun h' hk => bTa h' (tH.or tH hk)) ?_
    simp only [siI_q, sqI_some, mOk_none', implies_true, qI_nil, qI_cons, qI_guard, qgI_same, thenQ_some, q_move, q_pick, q_load, q_binOp, q_fieldAddr, goI_mk, slotAt_zero, slotAt_succ, pickV_true, eval_tmp, eval_const, put_some, aBin_mul, aBin_eql, absV_bool, aField_eq, fieldGo_ptr, aLoad_eq, loadGo_one, loadGo_row, aPlace_ptr, dropC_cells, List.getElem?_cons_zero, List.getElem?_cons_succ, beq_self_eq_true, Nat.reduceEqDiff, Nat.reduceAdd, Nat.reduceLeDiff, Nat.zero_add, Nat.zero_le, List.length_cons, List.length_nil, List.drop_zero, List.drop_succ_cons, List.take_succ_cons, List.take_nil, true_and, if_true, if_false, Nat.le_refl, ft_24_1, lt_24, lt_3, g1, g6, gt, hw]
    refine siI_c rfl rfl rfl (fun h' hk => bI h' (tH.or tH hk)) ?_
    simp only [siI_done, siI_q, sqI_some, mOk_none', implies_true, qI_nil, qI_cons, qI_guard, qgI_same, thenQ_some, q_assign, q_pick, q_binOp, q_len, wpA_ret, seqQ_normal, endI_mk, goI_out, goI_mk, slotAt_zero, slotAt_succ, pickV_true, eval_tmp, eval_const, put_some, aBin_eql, absV_int, absV_bool, aLen_imm, List.getElem?_cons_zero, List.getElem?_cons_succ, Nat.reduceEqDiff, List.map_nil, List.length_nil, true_and, if_true, if_false, kt_33, i64V, retA_ret, Tryd.results10, resultsA_1]
    exact hid_mk rfl
  have c5 : decide ((n : Int) < ((C : Nat) : Int)) = true := by simp only [decide_eq_true_eq]; omega
  have hne := hhas n hnl
  have hmem := fun m hm => (inN_mem (l := l) (P := P) (part := (n : Int)) (m := m) (i := l.length)).1 hm
  have hIl := inN_len l P (n : Int) l.length
  simp only [wpA_skip, wpA_region, wpA_seq, wpA_cond, wpA_block, condI_true, seqQ_normal, goI_out, goI_ops, opsA_nil, opsA_cons, stepA_move, stepA_load, stepA_binOp, stepA_call, thenV_some, eval_tmp, put_some, aBin_lss, aLoad_eq, loadGo_row, aPlace_ptr, dropC_cells, Nat.reduceEqDiff, Nat.reduceAdd, List.map_cons, List.map_nil, Nat.zero_add, Nat.zero_le, List.length_cons, List.length_nil, List.drop_zero, List.take_succ_cons, List.take_nil, if_true, if_false, Nat.le_refl, lt_24, g1, g6, g10, c5, gt]
  refine callI_pure cal33 (bIn (n : Nat) hok h2 tH) ?_
  generalize inN l P (n : Int) l.length = I at hne hmem hIl ⊢
  have c6 : (((I.length : Nat) : Int) == 0) = false := by
    have := List.length_pos_iff.2 hne
    simp only [beq_eq_false_iff_ne, ne_eq]; omega
  have w5 : IntKind.i64.wrap (((n : Nat) : Int) + 1) = ((n + 1 : Nat) : Int) := by rw [Go.IntWalk.i64_in _ (by omega)]; omega
  simp only [wpA_skip, wpA_region, wpA_seq, wpA_cond, wpA_block, wpA_loop, condI_false, seqQ_normal, goI_out, goI_ops, opsA_nil, opsA_cons, stepA_move, stepA_assign, stepA_binOp, stepA_len, thenV_some, eval_tmp, eval_const, put_some, aBin_eql, absV_int, aLen_imm, Nat.reduceEqDiff, if_true, if_false, kt_33, c6]
  refine SWp.loopG (α := Nat) (fun k f h' => f 1 = .ptr h.n 0 ∧ f 3 = .bool true ∧ f 4 = .imm P.length (i64V P) ∧ f 6 = .int .i64 (C : Nat) ∧ f 10 = .int .i64 (n : Nat) ∧ f 11 = .imm I.length (i64V I) ∧ f 12 = .int .i64 (k : Nat) ∧ k ≤ I.length ∧ h' = h2) (fun k => I.length - k) 0 ⟨g1, g3, g4, g6, g10, rfl, rfl, Nat.zero_le _, rfl⟩ ?_
  rintro k e h3 ⟨e1, e3, e4, e6, e10, e11, e12, hk, rfl⟩
  refine wpI_sound (by kernel_rfl) ?_
  by_cases hkl : k < I.length
  rotate_left
  · have c7 : decide ((k : Int) < ((I.length : Nat) : Int)) = false := by simp only [decide_eq_false_iff_not]; omega
    simp only [wpA_region, wpA_seq, wpA_cond, wpA_exit, wpA_draw, condI_false, seqQ_normal, seqQ_exit, blkQ_normal, blkQ_exit, endI_mk, goE, andThen_normal, andThen_exit, goI_out, goI_ops, opsA_nil, opsA_cons, stepA_move, stepA_assign, stepA_binOp, stepA_len, thenV_some, eval_tmp, eval_const, put_some, aBin_add, aBin_lss, absV_int, aLen_imm, Nat.reduceEqDiff, if_true, if_false, kt_33, e10, e11, e12, c7, w5]
    exact hid_mk ⟨n + 1, ⟨e1, e3, e4, e6, rfl, by omega, rfl⟩, by omega⟩
  have c7 : decide ((k : Int) < ((I.length : Nat) : Int)) = true := by simp only [decide_eq_true_eq]; omega
  have xI := i64V_ix' (P := Tryd.prog) (kk := .i64) (l := I) (k := k) hkl ss_33
  obtain ⟨q, q1, q2, q3⟩ := hmem I[k] (List.getElem_mem hkl)
  rw [q1] at xI
  have xq := i64V_ix' (P := Tryd.prog) (kk := .i64) (l := P) (k := q) (by omega) ss_33
  have hgq : P.getD q 0 = P[q] := by rw [List.getD, List.getElem?_eq_getElem (by omega)]; rfl
  rw [← hgq] at xq
  obtain ⟨x2, lu2, _⟩ := kind_ix (l := l) (q := q) (by omega)
  have w6 : IntKind.i64.wrap (((k : Nat) : Int) + 1) = ((k + 1 : Nat) : Int) := by rw [Go.IntWalk.i64_in _ (by omega)]; omega
  unfold isIn at q3
  have hus : ∀ u ∈ usF (q : Int) 0 l, ∃ m : Nat, u = (m : Int) ∧ m < l.length := fun u hu => by
    obtain ⟨m, _, a, b, _⟩ := us_lt hu
    exact ⟨m, a, b⟩
  have hul : (usF (q : Int) 0 l).length ≤ 24 := by have := usF_len (v := (q : Int)) (l := l) (j := 0); omega
  have bU := pUsers l p (q : Int) hok (by omega)
  generalize usF (q : Int) 0 l = U at *
  obtain ⟨G, hGd⟩ : ∃ G : Bool → Nat → Bool, G = fun b j => b || (kindAt l (q : Int) == 5 && (U.take j).any fun u => P.getD u.toNat 0 == (n : Int)) := ⟨_, rfl⟩
  have hG0 : ∀ b, G b 0 = b := fun b => by rw [hGd]; simp
  have hGs : ∀ b j (hj : j < U.length), G b (j + 1) = (G b j || (kindAt l (q : Int) == 5 && P.getD (U[j]).toNat 0 == (n : Int))) := fun b j hj => by
    rw [hGd]
    simp only [List.take_succ_eq_append_getElem hj, List.any_append, List.any_cons, List.any_nil, Bool.or_false]
    cases b <;> cases (kindAt l (q : Int) == 5) <;> simp
  have hGe : G (kindAt l (q : Int) == 1 && P.getD q 0 == (n : Int)) U.length = true := by
    rw [hGd]
    simp only [List.take_length]
    exact q3
  clear hGd q3
  cases k1 : (kindAt l (q : Int) == 1)
  · cases kp : (P.getD q 0 == (n : Int))
    · rw [k1, kp] at hGe
      simp only [Bool.and_self] at hGe
      simp only [wpA_skip, wpA_region, wpA_seq, wpA_cond, wpA_block, wpA_draw, condI_true, seqQ_normal, goI_out, goI_ops, opsA_nil, opsA_cons, stepA_move, stepA_binOp, stepA_len, thenV_some, eval_tmp, put_some, aBin_lss, aLen_imm, Nat.reduceEqDiff, if_true, if_false, kt_33, e11, e12, c7]
      refine SWp.drawnS none_ [] (.q 0 (.q 1 (.q 2 (.q 3 (.q 4 (.q 5 (.q 6 (.q 7 (.q 8 (.q 9 (.q 10 (.q 11 (.q 12 (.q 13 (.q 14 (.q 15 (.q 16 (.q 17 (.q 18 (.q 19 (.q 20 (.q 21 .done)))))))))))))))))))))) (by kernel_rfl) (by kernel_rfl) (by kernel_rfl) ?_
      simp only [siI_done, siI_q, sqI_some, mOk_none', implies_true, qI_nil, qI_cons, qI_guard, qgI_ft, thenQ_some, q_move, q_assign, q_pick, q_load, q_binOp, q_fieldAddr, q_indexAddr, wpA_seq, wpA_draw, seqQ_normal, goI_out, goI_mk, slotAt_zero, slotAt_succ, pickV_false, eval_tmp, eval_const, put_some, aBin_eql, absV_int, absV_bool, aField_eq, fieldGo_ptr, fieldGo_at, aLoad_eq, loadGo_one, aPlace_ptr, aPlace_at, dropC_cells, List.getElem?_cons_zero, List.getElem?_cons_succ, Nat.reduceEqDiff, Nat.reduceAdd, Nat.add_zero, Nat.zero_add, Nat.zero_le, List.length_cons, List.length_nil, List.drop_zero, true_and, if_true, if_false, ft_24_0, ft_47_0, lt_22, lt_3, e1, e11, e12, gt, xI, x2, lu2, k1]
      refine SWp.drawnS none_ [] (.q 0 (.q 1 (.q 2 (.q 3 (.q 4 (.c 5 (.q 6 .done))))))) (by kernel_rfl) (by kernel_rfl) (by kernel_rfl) ?_
      simp only [siI_q, sqI_some, mOk_none', implies_true, qI_nil, qI_cons, thenQ_some, q_move, q_load, q_indexAddr, goI_mk, eval_tmp, put_some, aLoad_eq, loadGo_one, loadGo_row, aPlace_ptr, aPlace_at, dropC_cells, List.getElem?_cons_zero, List.getElem?_cons_succ, Nat.reduceEqDiff, Nat.reduceAdd, Nat.zero_add, Nat.zero_le, List.length_cons, List.length_nil, List.drop_zero, List.take_succ_cons, List.take_nil, true_and, if_true, if_false, Nat.le_refl, lt_24, lt_3, e1, e11, e12, gt, xI]
      refine siI_c rfl rfl rfl (fun h' hk => bU h') ?_
      simp only [siI_done, siI_q, sqI_some, mOk_none', implies_true, qI_nil, qI_cons, q_assign, wpA_region, wpA_seq, wpA_block, wpA_loop, seqQ_normal, goI_out, goI_ops, goI_mk, opsA_nil, opsA_cons, stepA_assign, eval_tmp, eval_const, put_some, absV_int, List.getElem?_cons_zero, List.getElem?_cons_succ, Nat.reduceEqDiff, true_and, if_true, if_false]
      refine SWp.loopG (α := Nat) (fun j f h' => f 1 = .ptr h.n 0 ∧ f 3 = .bool true ∧ f 4 = .imm P.length (i64V P) ∧ f 6 = .int .i64 (C : Nat) ∧ f 10 = .int .i64 (n : Nat) ∧ f 11 = .imm I.length (i64V I) ∧ f 12 = .int .i64 (k : Nat) ∧ f 13 = .bool (G false j) ∧ f 14 = .imm U.length (i64V U) ∧ f 15 = .int .i64 (j : Nat) ∧ j ≤ U.length ∧ h' = h3) (fun j => U.length - j) 0 ⟨e1, e3, e4, e6, e10, e11, e12, by rw [hG0]; rfl, rfl, rfl, Nat.zero_le _, rfl⟩ ?_
      rintro j d h4 ⟨d1, d3, d4, d6, d10, d11, d12, d13, d14, d15, hj, rfl⟩
      refine wpI_sound (by kernel_rfl) ?_
      by_cases hjl : j < U.length
      · have c8 : decide ((j : Int) < ((U.length : Nat) : Int)) = true := by simp only [decide_eq_true_eq]; omega
        have xU := i64V_ix' (P := Tryd.prog) (kk := .i64) (l := U) (k := j) hjl ss_33
        obtain ⟨m, m1, m2⟩ := hus U[j] (List.getElem_mem hjl)
        have hS := hGs false j hjl
        rw [m1] at xU hS
        rw [Int.toNat_natCast] at hS
        have xm := i64V_ix' (P := Tryd.prog) (kk := .i64) (l := P) (k := m) (by omega) ss_33
        have hgm : P.getD m 0 = P[m] := by rw [List.getD, List.getElem?_eq_getElem (by omega)]; rfl
        rw [← hgm] at xm
        have w7 : IntKind.i64.wrap (((j : Nat) : Int) + 1) = ((j + 1 : Nat) : Int) := by rw [Go.IntWalk.i64_in _ (by omega)]; omega
        simp only [wpA_skip, wpA_region, wpA_seq, wpA_cond, wpA_block, wpA_draw, condI_true, seqQ_normal, goI_out, goI_ops, opsA_nil, opsA_cons, stepA_move, stepA_binOp, stepA_len, thenV_some, eval_tmp, put_some, aBin_lss, aLen_imm, Nat.reduceEqDiff, if_true, if_false, kt_33, d14, d15, c8]
        refine SWp.drawnS none_ [] (.q 0 (.q 1 (.q 2 (.q 3 (.q 4 (.q 5 (.q 6 (.q 7 (.q 8 (.q 9 (.q 10 (.q 11 (.q 12 (.q 13 (.q 14 (.q 15 (.q 16 (.q 17 (.q 18 (.q 19 (.q 20 (.q 21 (.q 22 (.q 23 (.q 24 .done))))))))))))))))))))))))) (by kernel_rfl) (by kernel_rfl) (by kernel_rfl) ?_
        cases gj : G false j
        · cases k5 : (kindAt l (q : Int) == 5)
          · rw [gj, k5] at hS
            simp only [siI_done, siI_q, sqI_some, mOk_none', implies_true, qI_nil, qI_cons, qI_guard, qgI_same, qgI_ft, thenQ_some, q_move, q_assign, q_pick, q_load, q_binOp, q_fieldAddr, q_indexAddr, wpA_region, seqQ_normal, blkQ_normal, endI_mk, andThen_normal, goI_out, goI_ops, goI_mk, opsA_nil, opsA_cons, slotAt_zero, slotAt_succ, stepA_move, stepA_assign, stepA_binOp, thenV_some, pickV_false, eval_tmp, eval_const, put_some, aBin_add, aBin_eql, absV_int, absV_bool, aField_eq, fieldGo_ptr, fieldGo_at, aLoad_eq, loadGo_one, aPlace_ptr, aPlace_at, dropC_cells, List.getElem?_cons_zero, List.getElem?_cons_succ, Nat.reduceEqDiff, Nat.reduceAdd, Nat.add_zero, Nat.zero_add, Nat.zero_le, List.length_cons, List.length_nil, List.drop_zero, true_and, if_true, if_false, ft_24_0, ft_47_0, lt_22, lt_3, d1, d11, d12, d13, d15, gj, gt, xI, x2, lu2, k5, w7]
            exact hid_mk ⟨j + 1, ⟨d1, d3, d4, d6, d10, d11, d12, by rw [hS]; rfl, d14, rfl, by omega, rfl⟩, by omega⟩
          · cases kx : (P.getD m 0 == (n : Int))
            · rw [gj, k5, kx] at hS
              simp only [siI_done, siI_q, sqI_some, mOk_none', implies_true, qI_nil, qI_cons, qI_guard, qgI_same, thenQ_some, q_move, q_assign, q_pick, q_load, q_binOp, q_fieldAddr, q_indexAddr, wpA_region, seqQ_normal, blkQ_normal, endI_mk, andThen_normal, goI_out, goI_ops, goI_mk, opsA_nil, opsA_cons, slotAt_zero, slotAt_succ, stepA_move, stepA_assign, stepA_binOp, thenV_some, pickV_true, pickV_false, eval_tmp, eval_const, put_some, aBin_add, aBin_eql, absV_int, absV_bool, aField_eq, fieldGo_ptr, fieldGo_at, aLoad_eq, loadGo_one, aPlace_ptr, aPlace_at, dropC_cells, List.getElem?_cons_zero, List.getElem?_cons_succ, Nat.reduceEqDiff, Nat.reduceAdd, Nat.add_zero, Nat.zero_add, Nat.zero_le, List.length_cons, List.length_nil, List.drop_zero, true_and, if_true, if_false, ft_24_0, ft_47_0, lt_22, lt_3, d1, d4, d10, d11, d12, d13, d14, d15, gj, gt, xI, x2, lu2, k5, xU, xm, kx, w7]
              exact hid_mk ⟨j + 1, ⟨d1, d3, d4, d6, d10, d11, d12, by rw [hS]; rfl, d14, rfl, by omega, rfl⟩, by omega⟩
            · rw [gj, k5, kx] at hS
              simp only [siI_done, siI_q, sqI_some, mOk_none', implies_true, qI_nil, qI_cons, qI_guard, qgI_same, thenQ_some, q_move, q_assign, q_pick, q_load, q_binOp, q_fieldAddr, q_indexAddr, wpA_region, seqQ_normal, blkQ_normal, endI_mk, andThen_normal, goI_out, goI_ops, goI_mk, opsA_nil, opsA_cons, slotAt_zero, slotAt_succ, stepA_move, stepA_assign, stepA_binOp, thenV_some, pickV_true, pickV_false, eval_tmp, eval_const, put_some, aBin_add, aBin_eql, absV_int, absV_bool, aField_eq, fieldGo_ptr, fieldGo_at, aLoad_eq, loadGo_one, aPlace_ptr, aPlace_at, dropC_cells, List.getElem?_cons_zero, List.getElem?_cons_succ, Nat.reduceEqDiff, Nat.reduceAdd, Nat.add_zero, Nat.zero_add, Nat.zero_le, List.length_cons, List.length_nil, List.drop_zero, true_and, if_true, if_false, ft_24_0, ft_47_0, lt_22, lt_3, d1, d4, d10, d11, d12, d13, d14, d15, gj, gt, xI, x2, lu2, k5, xU, xm, kx, w7]
              exact hid_mk ⟨j + 1, ⟨d1, d3, d4, d6, d10, d11, d12, by rw [hS]; rfl, d14, rfl, by omega, rfl⟩, by omega⟩
        · rw [gj] at hS
          simp only [siI_done, siI_q, sqI_some, mOk_none', implies_true, qI_nil, qI_cons, qI_guard, qgI_tf, qgI_u, thenQ_some, q_move, q_assign, q_pick, wpA_region, seqQ_normal, blkQ_normal, endI_mk, andThen_normal, goI_out, goI_ops, goI_mk, opsA_nil, opsA_cons, slotAt_zero, slotAt_succ, stepA_move, stepA_assign, stepA_binOp, thenV_some, pickV_true, eval_tmp, eval_const, put_some, aBin_add, absV_int, absV_bool, List.getElem?_cons_zero, List.getElem?_cons_succ, Nat.reduceEqDiff, true_and, if_true, if_false, d13, d15, gj, w7]
          exact hid_mk ⟨j + 1, ⟨d1, d3, d4, d6, d10, d11, d12, by rw [hS]; rfl, d14, rfl, by omega, rfl⟩, by omega⟩
      · have c8 : decide ((j : Int) < ((U.length : Nat) : Int)) = false := by simp only [decide_eq_false_iff_not]; omega
        obtain rfl : j = U.length := by omega
        rw [hGe] at d13
        simp only [wpA_skip, wpA_region, wpA_seq, wpA_cond, wpA_exit, wpA_draw, condI_false, seqQ_normal, seqQ_exit, blkQ_normal, blkQ_exit, endI_mk, goE, andThen_normal, andThen_exit, goI_out, goI_ops, opsA_nil, opsA_cons, stepA_move, stepA_assign, stepA_binOp, stepA_unOp, stepA_len, thenV_some, eval_tmp, eval_const, put_some, aBin_add, aBin_lss, aUn_not, absV_int, aLen_imm, Nat.reduceEqDiff, if_true, if_false, Bool.not_true, kt_33, d10, d12, d13, d14, d15, c8, w6]
        exact hid_mk ⟨k + 1, ⟨d1, d3, d4, d6, d10, d11, rfl, by omega, rfl⟩, by omega⟩
    · rw [k1, kp] at hGe
      simp only [Bool.and_true] at hGe
      simp only [wpA_skip, wpA_region, wpA_seq, wpA_cond, wpA_block, wpA_draw, condI_true, seqQ_normal, goI_out, goI_ops, opsA_nil, opsA_cons, stepA_move, stepA_binOp, stepA_len, thenV_some, eval_tmp, put_some, aBin_lss, aLen_imm, Nat.reduceEqDiff, if_true, if_false, kt_33, e11, e12, c7]
      refine SWp.drawnS none_ [] (.q 0 (.q 1 (.q 2 (.q 3 (.q 4 (.q 5 (.q 6 (.q 7 (.q 8 (.q 9 (.q 10 (.q 11 (.q 12 (.q 13 (.q 14 (.q 15 (.q 16 (.q 17 (.q 18 (.q 19 (.q 20 (.q 21 .done)))))))))))))))))))))) (by kernel_rfl) (by kernel_rfl) (by kernel_rfl) ?_
      simp only [siI_done, siI_q, sqI_some, mOk_none', implies_true, qI_nil, qI_cons, qI_guard, qgI_ft, thenQ_some, q_move, q_assign, q_pick, q_load, q_binOp, q_fieldAddr, q_indexAddr, wpA_seq, wpA_draw, seqQ_normal, goI_out, goI_mk, slotAt_zero, slotAt_succ, pickV_false, eval_tmp, eval_const, put_some, aBin_eql, absV_int, absV_bool, aField_eq, fieldGo_ptr, fieldGo_at, aLoad_eq, loadGo_one, aPlace_ptr, aPlace_at, dropC_cells, List.getElem?_cons_zero, List.getElem?_cons_succ, Nat.reduceEqDiff, Nat.reduceAdd, Nat.add_zero, Nat.zero_add, Nat.zero_le, List.length_cons, List.length_nil, List.drop_zero, true_and, if_true, if_false, ft_24_0, ft_47_0, lt_22, lt_3, e1, e11, e12, gt, xI, x2, lu2, k1]
      refine SWp.drawnS none_ [] (.q 0 (.q 1 (.q 2 (.q 3 (.q 4 (.c 5 (.q 6 .done))))))) (by kernel_rfl) (by kernel_rfl) (by kernel_rfl) ?_
      simp only [siI_q, sqI_some, mOk_none', implies_true, qI_nil, qI_cons, thenQ_some, q_move, q_load, q_indexAddr, goI_mk, eval_tmp, put_some, aLoad_eq, loadGo_one, loadGo_row, aPlace_ptr, aPlace_at, dropC_cells, List.getElem?_cons_zero, List.getElem?_cons_succ, Nat.reduceEqDiff, Nat.reduceAdd, Nat.zero_add, Nat.zero_le, List.length_cons, List.length_nil, List.drop_zero, List.take_succ_cons, List.take_nil, true_and, if_true, if_false, Nat.le_refl, lt_24, lt_3, e1, e11, e12, gt, xI]
      refine siI_c rfl rfl rfl (fun h' hk => bU h') ?_
      simp only [siI_done, siI_q, sqI_some, mOk_none', implies_true, qI_nil, qI_cons, q_assign, wpA_region, wpA_seq, wpA_block, wpA_loop, seqQ_normal, goI_out, goI_ops, goI_mk, opsA_nil, opsA_cons, stepA_assign, eval_tmp, eval_const, put_some, absV_int, List.getElem?_cons_zero, List.getElem?_cons_succ, Nat.reduceEqDiff, true_and, if_true, if_false]
      refine SWp.loopG (α := Nat) (fun j f h' => f 1 = .ptr h.n 0 ∧ f 3 = .bool true ∧ f 4 = .imm P.length (i64V P) ∧ f 6 = .int .i64 (C : Nat) ∧ f 10 = .int .i64 (n : Nat) ∧ f 11 = .imm I.length (i64V I) ∧ f 12 = .int .i64 (k : Nat) ∧ f 13 = .bool (G false j) ∧ f 14 = .imm U.length (i64V U) ∧ f 15 = .int .i64 (j : Nat) ∧ j ≤ U.length ∧ h' = h3) (fun j => U.length - j) 0 ⟨e1, e3, e4, e6, e10, e11, e12, by rw [hG0]; rfl, rfl, rfl, Nat.zero_le _, rfl⟩ ?_
      rintro j d h4 ⟨d1, d3, d4, d6, d10, d11, d12, d13, d14, d15, hj, rfl⟩
      refine wpI_sound (by kernel_rfl) ?_
      by_cases hjl : j < U.length
      · have c8 : decide ((j : Int) < ((U.length : Nat) : Int)) = true := by simp only [decide_eq_true_eq]; omega
        have xU := i64V_ix' (P := Tryd.prog) (kk := .i64) (l := U) (k := j) hjl ss_33
        obtain ⟨m, m1, m2⟩ := hus U[j] (List.getElem_mem hjl)
        have hS := hGs false j hjl
        rw [m1] at xU hS
        rw [Int.toNat_natCast] at hS
        have xm := i64V_ix' (P := Tryd.prog) (kk := .i64) (l := P) (k := m) (by omega) ss_33
        have hgm : P.getD m 0 = P[m] := by rw [List.getD, List.getElem?_eq_getElem (by omega)]; rfl
        rw [← hgm] at xm
        have w7 : IntKind.i64.wrap (((j : Nat) : Int) + 1) = ((j + 1 : Nat) : Int) := by rw [Go.IntWalk.i64_in _ (by omega)]; omega
        simp only [wpA_skip, wpA_region, wpA_seq, wpA_cond, wpA_block, wpA_draw, condI_true, seqQ_normal, goI_out, goI_ops, opsA_nil, opsA_cons, stepA_move, stepA_binOp, stepA_len, thenV_some, eval_tmp, put_some, aBin_lss, aLen_imm, Nat.reduceEqDiff, if_true, if_false, kt_33, d14, d15, c8]
        refine SWp.drawnS none_ [] (.q 0 (.q 1 (.q 2 (.q 3 (.q 4 (.q 5 (.q 6 (.q 7 (.q 8 (.q 9 (.q 10 (.q 11 (.q 12 (.q 13 (.q 14 (.q 15 (.q 16 (.q 17 (.q 18 (.q 19 (.q 20 (.q 21 (.q 22 (.q 23 (.q 24 .done))))))))))))))))))))))))) (by kernel_rfl) (by kernel_rfl) (by kernel_rfl) ?_
        cases gj : G false j
        · cases k5 : (kindAt l (q : Int) == 5)
          · rw [gj, k5] at hS
            simp only [siI_done, siI_q, sqI_some, mOk_none', implies_true, qI_nil, qI_cons, qI_guard, qgI_same, qgI_ft, thenQ_some, q_move, q_assign, q_pick, q_load, q_binOp, q_fieldAddr, q_indexAddr, wpA_region, seqQ_normal, blkQ_normal, endI_mk, andThen_normal, goI_out, goI_ops, goI_mk, opsA_nil, opsA_cons, slotAt_zero, slotAt_succ, stepA_move, stepA_assign, stepA_binOp, thenV_some, pickV_false, eval_tmp, eval_const, put_some, aBin_add, aBin_eql, absV_int, absV_bool, aField_eq, fieldGo_ptr, fieldGo_at, aLoad_eq, loadGo_one, aPlace_ptr, aPlace_at, dropC_cells, List.getElem?_cons_zero, List.getElem?_cons_succ, Nat.reduceEqDiff, Nat.reduceAdd, Nat.add_zero, Nat.zero_add, Nat.zero_le, List.length_cons, List.length_nil, List.drop_zero, true_and, if_true, if_false, ft_24_0, ft_47_0, lt_22, lt_3, d1, d11, d12, d13, d15, gj, gt, xI, x2, lu2, k5, w7]
            exact hid_mk ⟨j + 1, ⟨d1, d3, d4, d6, d10, d11, d12, by rw [hS]; rfl, d14, rfl, by omega, rfl⟩, by omega⟩
          · cases kx : (P.getD m 0 == (n : Int))
            · rw [gj, k5, kx] at hS
              simp only [siI_done, siI_q, sqI_some, mOk_none', implies_true, qI_nil, qI_cons, qI_guard, qgI_same, thenQ_some, q_move, q_assign, q_pick, q_load, q_binOp, q_fieldAddr, q_indexAddr, wpA_region, seqQ_normal, blkQ_normal, endI_mk, andThen_normal, goI_out, goI_ops, goI_mk, opsA_nil, opsA_cons, slotAt_zero, slotAt_succ, stepA_move, stepA_assign, stepA_binOp, thenV_some, pickV_true, pickV_false, eval_tmp, eval_const, put_some, aBin_add, aBin_eql, absV_int, absV_bool, aField_eq, fieldGo_ptr, fieldGo_at, aLoad_eq, loadGo_one, aPlace_ptr, aPlace_at, dropC_cells, List.getElem?_cons_zero, List.getElem?_cons_succ, Nat.reduceEqDiff, Nat.reduceAdd, Nat.add_zero, Nat.zero_add, Nat.zero_le, List.length_cons, List.length_nil, List.drop_zero, true_and, if_true, if_false, ft_24_0, ft_47_0, lt_22, lt_3, d1, d4, d10, d11, d12, d13, d14, d15, gj, gt, xI, x2, lu2, k5, xU, xm, kx, w7]
              exact hid_mk ⟨j + 1, ⟨d1, d3, d4, d6, d10, d11, d12, by rw [hS]; rfl, d14, rfl, by omega, rfl⟩, by omega⟩
            · rw [gj, k5, kx] at hS
              simp only [siI_done, siI_q, sqI_some, mOk_none', implies_true, qI_nil, qI_cons, qI_guard, qgI_same, thenQ_some, q_move, q_assign, q_pick, q_load, q_binOp, q_fieldAddr, q_indexAddr, wpA_region, seqQ_normal, blkQ_normal, endI_mk, andThen_normal, goI_out, goI_ops, goI_mk, opsA_nil, opsA_cons, slotAt_zero, slotAt_succ, stepA_move, stepA_assign, stepA_binOp, thenV_some, pickV_true, pickV_false, eval_tmp, eval_const, put_some, aBin_add, aBin_eql, absV_int, absV_bool, aField_eq, fieldGo_ptr, fieldGo_at, aLoad_eq, loadGo_one, aPlace_ptr, aPlace_at, dropC_cells, List.getElem?_cons_zero, List.getElem?_cons_succ, Nat.reduceEqDiff, Nat.reduceAdd, Nat.add_zero, Nat.zero_add, Nat.zero_le, List.length_cons, List.length_nil, List.drop_zero, true_and, if_true, if_false, ft_24_0, ft_47_0, lt_22, lt_3, d1, d4, d10, d11, d12, d13, d14, d15, gj, gt, xI, x2, lu2, k5, xU, xm, kx, w7]
              exact hid_mk ⟨j + 1, ⟨d1, d3, d4, d6, d10, d11, d12, by rw [hS]; rfl, d14, rfl, by omega, rfl⟩, by omega⟩
        · rw [gj] at hS
          simp only [siI_done, siI_q, sqI_some, mOk_none', implies_true, qI_nil, qI_cons, qI_guard, qgI_tf, qgI_u, thenQ_some, q_move, q_assign, q_pick, wpA_region, seqQ_normal, blkQ_normal, endI_mk, andThen_normal, goI_out, goI_ops, goI_mk, opsA_nil, opsA_cons, slotAt_zero, slotAt_succ, stepA_move, stepA_assign, stepA_binOp, thenV_some, pickV_true, eval_tmp, eval_const, put_some, aBin_add, absV_int, absV_bool, List.getElem?_cons_zero, List.getElem?_cons_succ, Nat.reduceEqDiff, true_and, if_true, if_false, d13, d15, gj, w7]
          exact hid_mk ⟨j + 1, ⟨d1, d3, d4, d6, d10, d11, d12, by rw [hS]; rfl, d14, rfl, by omega, rfl⟩, by omega⟩
      · have c8 : decide ((j : Int) < ((U.length : Nat) : Int)) = false := by simp only [decide_eq_false_iff_not]; omega
        obtain rfl : j = U.length := by omega
        rw [hGe] at d13
        simp only [wpA_skip, wpA_region, wpA_seq, wpA_cond, wpA_exit, wpA_draw, condI_false, seqQ_normal, seqQ_exit, blkQ_normal, blkQ_exit, endI_mk, goE, andThen_normal, andThen_exit, goI_out, goI_ops, opsA_nil, opsA_cons, stepA_move, stepA_assign, stepA_binOp, stepA_unOp, stepA_len, thenV_some, eval_tmp, eval_const, put_some, aBin_add, aBin_lss, aUn_not, absV_int, aLen_imm, Nat.reduceEqDiff, if_true, if_false, Bool.not_true, kt_33, d10, d12, d13, d14, d15, c8, w6]
        exact hid_mk ⟨k + 1, ⟨d1, d3, d4, d6, d10, d11, rfl, by omega, rfl⟩, by omega⟩
  · cases kp : (P.getD q 0 == (n : Int))
    · rw [k1, kp] at hGe
      simp only [Bool.and_false] at hGe
      simp only [wpA_skip, wpA_region, wpA_seq, wpA_cond, wpA_block, wpA_draw, condI_true, seqQ_normal, goI_out, goI_ops, opsA_nil, opsA_cons, stepA_move, stepA_binOp, stepA_len, thenV_some, eval_tmp, put_some, aBin_lss, aLen_imm, Nat.reduceEqDiff, if_true, if_false, kt_33, e11, e12, c7]
      refine SWp.drawnS none_ [] (.q 0 (.q 1 (.q 2 (.q 3 (.q 4 (.q 5 (.q 6 (.q 7 (.q 8 (.q 9 (.q 10 (.q 11 (.q 12 (.q 13 (.q 14 (.q 15 (.q 16 (.q 17 (.q 18 (.q 19 (.q 20 (.q 21 .done)))))))))))))))))))))) (by kernel_rfl) (by kernel_rfl) (by kernel_rfl) ?_
      simp only [siI_done, siI_q, sqI_some, mOk_none', implies_true, qI_nil, qI_cons, qI_guard, qgI_same, thenQ_some, q_move, q_assign, q_pick, q_load, q_binOp, q_fieldAddr, q_indexAddr, wpA_seq, wpA_draw, seqQ_normal, goI_out, goI_mk, slotAt_zero, slotAt_succ, pickV_true, eval_tmp, eval_const, put_some, aBin_eql, absV_int, absV_bool, aField_eq, fieldGo_ptr, fieldGo_at, aLoad_eq, loadGo_one, aPlace_ptr, aPlace_at, dropC_cells, List.getElem?_cons_zero, List.getElem?_cons_succ, Nat.reduceEqDiff, Nat.reduceAdd, Nat.add_zero, Nat.zero_add, Nat.zero_le, List.length_cons, List.length_nil, List.drop_zero, true_and, if_true, if_false, ft_24_0, ft_47_0, lt_22, lt_3, e1, e4, e10, e11, e12, gt, xI, x2, lu2, xq, k1, kp]
      refine SWp.drawnS none_ [] (.q 0 (.q 1 (.q 2 (.q 3 (.q 4 (.c 5 (.q 6 .done))))))) (by kernel_rfl) (by kernel_rfl) (by kernel_rfl) ?_
      simp only [siI_q, sqI_some, mOk_none', implies_true, qI_nil, qI_cons, thenQ_some, q_move, q_load, q_indexAddr, goI_mk, eval_tmp, put_some, aLoad_eq, loadGo_one, loadGo_row, aPlace_ptr, aPlace_at, dropC_cells, List.getElem?_cons_zero, List.getElem?_cons_succ, Nat.reduceEqDiff, Nat.reduceAdd, Nat.zero_add, Nat.zero_le, List.length_cons, List.length_nil, List.drop_zero, List.take_succ_cons, List.take_nil, true_and, if_true, if_false, Nat.le_refl, lt_24, lt_3, e1, e11, e12, gt, xI]
      refine siI_c rfl rfl rfl (fun h' hk => bU h') ?_
      simp only [siI_done, siI_q, sqI_some, mOk_none', implies_true, qI_nil, qI_cons, q_assign, wpA_region, wpA_seq, wpA_block, wpA_loop, seqQ_normal, goI_out, goI_ops, goI_mk, opsA_nil, opsA_cons, stepA_assign, eval_tmp, eval_const, put_some, absV_int, List.getElem?_cons_zero, List.getElem?_cons_succ, Nat.reduceEqDiff, true_and, if_true, if_false]
      refine SWp.loopG (α := Nat) (fun j f h' => f 1 = .ptr h.n 0 ∧ f 3 = .bool true ∧ f 4 = .imm P.length (i64V P) ∧ f 6 = .int .i64 (C : Nat) ∧ f 10 = .int .i64 (n : Nat) ∧ f 11 = .imm I.length (i64V I) ∧ f 12 = .int .i64 (k : Nat) ∧ f 13 = .bool (G false j) ∧ f 14 = .imm U.length (i64V U) ∧ f 15 = .int .i64 (j : Nat) ∧ j ≤ U.length ∧ h' = h3) (fun j => U.length - j) 0 ⟨e1, e3, e4, e6, e10, e11, e12, by rw [hG0]; rfl, rfl, rfl, Nat.zero_le _, rfl⟩ ?_
      rintro j d h4 ⟨d1, d3, d4, d6, d10, d11, d12, d13, d14, d15, hj, rfl⟩
      refine wpI_sound (by kernel_rfl) ?_
      by_cases hjl : j < U.length
      · have c8 : decide ((j : Int) < ((U.length : Nat) : Int)) = true := by simp only [decide_eq_true_eq]; omega
        have xU := i64V_ix' (P := Tryd.prog) (kk := .i64) (l := U) (k := j) hjl ss_33
        obtain ⟨m, m1, m2⟩ := hus U[j] (List.getElem_mem hjl)
        have hS := hGs false j hjl
        rw [m1] at xU hS
        rw [Int.toNat_natCast] at hS
        have xm := i64V_ix' (P := Tryd.prog) (kk := .i64) (l := P) (k := m) (by omega) ss_33
        have hgm : P.getD m 0 = P[m] := by rw [List.getD, List.getElem?_eq_getElem (by omega)]; rfl
        rw [← hgm] at xm
        have w7 : IntKind.i64.wrap (((j : Nat) : Int) + 1) = ((j + 1 : Nat) : Int) := by rw [Go.IntWalk.i64_in _ (by omega)]; omega
        simp only [wpA_skip, wpA_region, wpA_seq, wpA_cond, wpA_block, wpA_draw, condI_true, seqQ_normal, goI_out, goI_ops, opsA_nil, opsA_cons, stepA_move, stepA_binOp, stepA_len, thenV_some, eval_tmp, put_some, aBin_lss, aLen_imm, Nat.reduceEqDiff, if_true, if_false, kt_33, d14, d15, c8]
        refine SWp.drawnS none_ [] (.q 0 (.q 1 (.q 2 (.q 3 (.q 4 (.q 5 (.q 6 (.q 7 (.q 8 (.q 9 (.q 10 (.q 11 (.q 12 (.q 13 (.q 14 (.q 15 (.q 16 (.q 17 (.q 18 (.q 19 (.q 20 (.q 21 (.q 22 (.q 23 (.q 24 .done))))))))))))))))))))))))) (by kernel_rfl) (by kernel_rfl) (by kernel_rfl) ?_
        cases gj : G false j
        · cases k5 : (kindAt l (q : Int) == 5)
          · rw [gj, k5] at hS
            simp only [siI_done, siI_q, sqI_some, mOk_none', implies_true, qI_nil, qI_cons, qI_guard, qgI_same, qgI_ft, thenQ_some, q_move, q_assign, q_pick, q_load, q_binOp, q_fieldAddr, q_indexAddr, wpA_region, seqQ_normal, blkQ_normal, endI_mk, andThen_normal, goI_out, goI_ops, goI_mk, opsA_nil, opsA_cons, slotAt_zero, slotAt_succ, stepA_move, stepA_assign, stepA_binOp, thenV_some, pickV_false, eval_tmp, eval_const, put_some, aBin_add, aBin_eql, absV_int, absV_bool, aField_eq, fieldGo_ptr, fieldGo_at, aLoad_eq, loadGo_one, aPlace_ptr, aPlace_at, dropC_cells, List.getElem?_cons_zero, List.getElem?_cons_succ, Nat.reduceEqDiff, Nat.reduceAdd, Nat.add_zero, Nat.zero_add, Nat.zero_le, List.length_cons, List.length_nil, List.drop_zero, true_and, if_true, if_false, ft_24_0, ft_47_0, lt_22, lt_3, d1, d11, d12, d13, d15, gj, gt, xI, x2, lu2, k5, w7]
            exact hid_mk ⟨j + 1, ⟨d1, d3, d4, d6, d10, d11, d12, by rw [hS]; rfl, d14, rfl, by omega, rfl⟩, by omega⟩
          · cases kx : (P.getD m 0 == (n : Int))
            · rw [gj, k5, kx] at hS
              simp only [siI_done, siI_q, sqI_some, mOk_none', implies_true, qI_nil, qI_cons, qI_guard, qgI_same, thenQ_some, q_move, q_assign, q_pick, q_load, q_binOp, q_fieldAddr, q_indexAddr, wpA_region, seqQ_normal, blkQ_normal, endI_mk, andThen_normal, goI_out, goI_ops, goI_mk, opsA_nil, opsA_cons, slotAt_zero, slotAt_succ, stepA_move, stepA_assign, stepA_binOp, thenV_some, pickV_true, pickV_false, eval_tmp, eval_const, put_some, aBin_add, aBin_eql, absV_int, absV_bool, aField_eq, fieldGo_ptr, fieldGo_at, aLoad_eq, loadGo_one, aPlace_ptr, aPlace_at, dropC_cells, List.getElem?_cons_zero, List.getElem?_cons_succ, Nat.reduceEqDiff, Nat.reduceAdd, Nat.add_zero, Nat.zero_add, Nat.zero_le, List.length_cons, List.length_nil, List.drop_zero, true_and, if_true, if_false, ft_24_0, ft_47_0, lt_22, lt_3, d1, d4, d10, d11, d12, d13, d14, d15, gj, gt, xI, x2, lu2, k5, xU, xm, kx, w7]
              exact hid_mk ⟨j + 1, ⟨d1, d3, d4, d6, d10, d11, d12, by rw [hS]; rfl, d14, rfl, by omega, rfl⟩, by omega⟩
            · rw [gj, k5, kx] at hS
              simp only [siI_done, siI_q, sqI_some, mOk_none', implies_true, qI_nil, qI_cons, qI_guard, qgI_same, thenQ_some, q_move, q_assign, q_pick, q_load, q_binOp, q_fieldAddr, q_indexAddr, wpA_region, seqQ_normal, blkQ_normal, endI_mk, andThen_normal, goI_out, goI_ops, goI_mk, opsA_nil, opsA_cons, slotAt_zero, slotAt_succ, stepA_move, stepA_assign, stepA_binOp, thenV_some, pickV_true, pickV_false, eval_tmp, eval_const, put_some, aBin_add, aBin_eql, absV_int, absV_bool, aField_eq, fieldGo_ptr, fieldGo_at, aLoad_eq, loadGo_one, aPlace_ptr, aPlace_at, dropC_cells, List.getElem?_cons_zero, List.getElem?_cons_succ, Nat.reduceEqDiff, Nat.reduceAdd, Nat.add_zero, Nat.zero_add, Nat.zero_le, List.length_cons, List.length_nil, List.drop_zero, true_and, if_true, if_false, ft_24_0, ft_47_0, lt_22, lt_3, d1, d4, d10, d11, d12, d13, d14, d15, gj, gt, xI, x2, lu2, k5, xU, xm, kx, w7]
              exact hid_mk ⟨j + 1, ⟨d1, d3, d4, d6, d10, d11, d12, by rw [hS]; rfl, d14, rfl, by omega, rfl⟩, by omega⟩
        · rw [gj] at hS
          simp only [siI_done, siI_q, sqI_some, mOk_none', implies_true, qI_nil, qI_cons, qI_guard, qgI_tf, qgI_u, thenQ_some, q_move, q_assign, q_pick, wpA_region, seqQ_normal, blkQ_normal, endI_mk, andThen_normal, goI_out, goI_ops, goI_mk, opsA_nil, opsA_cons, slotAt_zero, slotAt_succ, stepA_move, stepA_assign, stepA_binOp, thenV_some, pickV_true, eval_tmp, eval_const, put_some, aBin_add, absV_int, absV_bool, List.getElem?_cons_zero, List.getElem?_cons_succ, Nat.reduceEqDiff, true_and, if_true, if_false, d13, d15, gj, w7]
          exact hid_mk ⟨j + 1, ⟨d1, d3, d4, d6, d10, d11, d12, by rw [hS]; rfl, d14, rfl, by omega, rfl⟩, by omega⟩
      · have c8 : decide ((j : Int) < ((U.length : Nat) : Int)) = false := by simp only [decide_eq_false_iff_not]; omega
        obtain rfl : j = U.length := by omega
        rw [hGe] at d13
        simp only [wpA_skip, wpA_region, wpA_seq, wpA_cond, wpA_exit, wpA_draw, condI_false, seqQ_normal, seqQ_exit, blkQ_normal, blkQ_exit, endI_mk, goE, andThen_normal, andThen_exit, goI_out, goI_ops, opsA_nil, opsA_cons, stepA_move, stepA_assign, stepA_binOp, stepA_unOp, stepA_len, thenV_some, eval_tmp, eval_const, put_some, aBin_add, aBin_lss, aUn_not, absV_int, aLen_imm, Nat.reduceEqDiff, if_true, if_false, Bool.not_true, kt_33, d10, d12, d13, d14, d15, c8, w6]
        exact hid_mk ⟨k + 1, ⟨d1, d3, d4, d6, d10, d11, rfl, by omega, rfl⟩, by omega⟩
    · rw [k1, kp] at hGe
      simp only [Bool.and_self] at hGe
      simp only [wpA_skip, wpA_region, wpA_seq, wpA_cond, wpA_block, wpA_draw, condI_true, seqQ_normal, goI_out, goI_ops, opsA_nil, opsA_cons, stepA_move, stepA_binOp, stepA_len, thenV_some, eval_tmp, put_some, aBin_lss, aLen_imm, Nat.reduceEqDiff, if_true, if_false, kt_33, e11, e12, c7]
      refine SWp.drawnS none_ [] (.q 0 (.q 1 (.q 2 (.q 3 (.q 4 (.q 5 (.q 6 (.q 7 (.q 8 (.q 9 (.q 10 (.q 11 (.q 12 (.q 13 (.q 14 (.q 15 (.q 16 (.q 17 (.q 18 (.q 19 (.q 20 (.q 21 .done)))))))))))))))))))))) (by kernel_rfl) (by kernel_rfl) (by kernel_rfl) ?_
      simp only [siI_done, siI_q, sqI_some, mOk_none', implies_true, qI_nil, qI_cons, qI_guard, qgI_same, thenQ_some, q_move, q_assign, q_pick, q_load, q_binOp, q_fieldAddr, q_indexAddr, wpA_seq, wpA_draw, seqQ_normal, goI_out, goI_mk, slotAt_zero, slotAt_succ, pickV_true, eval_tmp, eval_const, put_some, aBin_eql, absV_int, absV_bool, aField_eq, fieldGo_ptr, fieldGo_at, aLoad_eq, loadGo_one, aPlace_ptr, aPlace_at, dropC_cells, List.getElem?_cons_zero, List.getElem?_cons_succ, Nat.reduceEqDiff, Nat.reduceAdd, Nat.add_zero, Nat.zero_add, Nat.zero_le, List.length_cons, List.length_nil, List.drop_zero, true_and, if_true, if_false, ft_24_0, ft_47_0, lt_22, lt_3, e1, e4, e10, e11, e12, gt, xI, x2, lu2, xq, k1, kp]
      refine SWp.drawnS none_ [] (.q 0 (.q 1 (.q 2 (.q 3 (.q 4 (.c 5 (.q 6 .done))))))) (by kernel_rfl) (by kernel_rfl) (by kernel_rfl) ?_
      simp only [siI_q, sqI_some, mOk_none', implies_true, qI_nil, qI_cons, thenQ_some, q_move, q_load, q_indexAddr, goI_mk, eval_tmp, put_some, aLoad_eq, loadGo_one, loadGo_row, aPlace_ptr, aPlace_at, dropC_cells, List.getElem?_cons_zero, List.getElem?_cons_succ, Nat.reduceEqDiff, Nat.reduceAdd, Nat.zero_add, Nat.zero_le, List.length_cons, List.length_nil, List.drop_zero, List.take_succ_cons, List.take_nil, true_and, if_true, if_false, Nat.le_refl, lt_24, lt_3, e1, e11, e12, gt, xI]
      refine siI_c rfl rfl rfl (fun h' hk => bU h') ?_
      simp only [siI_done, siI_q, sqI_some, mOk_none', implies_true, qI_nil, qI_cons, q_assign, wpA_region, wpA_seq, wpA_block, wpA_loop, seqQ_normal, goI_out, goI_ops, goI_mk, opsA_nil, opsA_cons, stepA_assign, eval_tmp, eval_const, put_some, absV_int, List.getElem?_cons_zero, List.getElem?_cons_succ, Nat.reduceEqDiff, true_and, if_true, if_false]
      refine SWp.loopG (α := Nat) (fun j f h' => f 1 = .ptr h.n 0 ∧ f 3 = .bool true ∧ f 4 = .imm P.length (i64V P) ∧ f 6 = .int .i64 (C : Nat) ∧ f 10 = .int .i64 (n : Nat) ∧ f 11 = .imm I.length (i64V I) ∧ f 12 = .int .i64 (k : Nat) ∧ f 13 = .bool (G true j) ∧ f 14 = .imm U.length (i64V U) ∧ f 15 = .int .i64 (j : Nat) ∧ j ≤ U.length ∧ h' = h3) (fun j => U.length - j) 0 ⟨e1, e3, e4, e6, e10, e11, e12, by rw [hG0]; rfl, rfl, rfl, Nat.zero_le _, rfl⟩ ?_
      rintro j d h4 ⟨d1, d3, d4, d6, d10, d11, d12, d13, d14, d15, hj, rfl⟩
      refine wpI_sound (by kernel_rfl) ?_
      by_cases hjl : j < U.length
      · have c8 : decide ((j : Int) < ((U.length : Nat) : Int)) = true := by simp only [decide_eq_true_eq]; omega
        have xU := i64V_ix' (P := Tryd.prog) (kk := .i64) (l := U) (k := j) hjl ss_33
        obtain ⟨m, m1, m2⟩ := hus U[j] (List.getElem_mem hjl)
        have hS := hGs true j hjl
        rw [m1] at xU hS
        rw [Int.toNat_natCast] at hS
        have xm := i64V_ix' (P := Tryd.prog) (kk := .i64) (l := P) (k := m) (by omega) ss_33
        have hgm : P.getD m 0 = P[m] := by rw [List.getD, List.getElem?_eq_getElem (by omega)]; rfl
        rw [← hgm] at xm
        have w7 : IntKind.i64.wrap (((j : Nat) : Int) + 1) = ((j + 1 : Nat) : Int) := by rw [Go.IntWalk.i64_in _ (by omega)]; omega
        simp only [wpA_skip, wpA_region, wpA_seq, wpA_cond, wpA_block, wpA_draw, condI_true, seqQ_normal, goI_out, goI_ops, opsA_nil, opsA_cons, stepA_move, stepA_binOp, stepA_len, thenV_some, eval_tmp, put_some, aBin_lss, aLen_imm, Nat.reduceEqDiff, if_true, if_false, kt_33, d14, d15, c8]
        refine SWp.drawnS none_ [] (.q 0 (.q 1 (.q 2 (.q 3 (.q 4 (.q 5 (.q 6 (.q 7 (.q 8 (.q 9 (.q 10 (.q 11 (.q 12 (.q 13 (.q 14 (.q 15 (.q 16 (.q 17 (.q 18 (.q 19 (.q 20 (.q 21 (.q 22 (.q 23 (.q 24 .done))))))))))))))))))))))))) (by kernel_rfl) (by kernel_rfl) (by kernel_rfl) ?_
        cases gj : G true j
        · cases k5 : (kindAt l (q : Int) == 5)
          · rw [gj, k5] at hS
            simp only [siI_done, siI_q, sqI_some, mOk_none', implies_true, qI_nil, qI_cons, qI_guard, qgI_same, qgI_ft, thenQ_some, q_move, q_assign, q_pick, q_load, q_binOp, q_fieldAddr, q_indexAddr, wpA_region, seqQ_normal, blkQ_normal, endI_mk, andThen_normal, goI_out, goI_ops, goI_mk, opsA_nil, opsA_cons, slotAt_zero, slotAt_succ, stepA_move, stepA_assign, stepA_binOp, thenV_some, pickV_false, eval_tmp, eval_const, put_some, aBin_add, aBin_eql, absV_int, absV_bool, aField_eq, fieldGo_ptr, fieldGo_at, aLoad_eq, loadGo_one, aPlace_ptr, aPlace_at, dropC_cells, List.getElem?_cons_zero, List.getElem?_cons_succ, Nat.reduceEqDiff, Nat.reduceAdd, Nat.add_zero, Nat.zero_add, Nat.zero_le, List.length_cons, List.length_nil, List.drop_zero, true_and, if_true, if_false, ft_24_0, ft_47_0, lt_22, lt_3, d1, d11, d12, d13, d15, gj, gt, xI, x2, lu2, k5, w7]
            exact hid_mk ⟨j + 1, ⟨d1, d3, d4, d6, d10, d11, d12, by rw [hS]; rfl, d14, rfl, by omega, rfl⟩, by omega⟩
          · cases kx : (P.getD m 0 == (n : Int))
            · rw [gj, k5, kx] at hS
              simp only [siI_done, siI_q, sqI_some, mOk_none', implies_true, qI_nil, qI_cons, qI_guard, qgI_same, thenQ_some, q_move, q_assign, q_pick, q_load, q_binOp, q_fieldAddr, q_indexAddr, wpA_region, seqQ_normal, blkQ_normal, endI_mk, andThen_normal, goI_out, goI_ops, goI_mk, opsA_nil, opsA_cons, slotAt_zero, slotAt_succ, stepA_move, stepA_assign, stepA_binOp, thenV_some, pickV_true, pickV_false, eval_tmp, eval_const, put_some, aBin_add, aBin_eql, absV_int, absV_bool, aField_eq, fieldGo_ptr, fieldGo_at, aLoad_eq, loadGo_one, aPlace_ptr, aPlace_at, dropC_cells, List.getElem?_cons_zero, List.getElem?_cons_succ, Nat.reduceEqDiff, Nat.reduceAdd, Nat.add_zero, Nat.zero_add, Nat.zero_le, List.length_cons, List.length_nil, List.drop_zero, true_and, if_true, if_false, ft_24_0, ft_47_0, lt_22, lt_3, d1, d4, d10, d11, d12, d13, d14, d15, gj, gt, xI, x2, lu2, k5, xU, xm, kx, w7]
              exact hid_mk ⟨j + 1, ⟨d1, d3, d4, d6, d10, d11, d12, by rw [hS]; rfl, d14, rfl, by omega, rfl⟩, by omega⟩
            · rw [gj, k5, kx] at hS
              simp only [siI_done, siI_q, sqI_some, mOk_none', implies_true, qI_nil, qI_cons, qI_guard, qgI_same, thenQ_some, q_move, q_assign, q_pick, q_load, q_binOp, q_fieldAddr, q_indexAddr, wpA_region, seqQ_normal, blkQ_normal, endI_mk, andThen_normal, goI_out, goI_ops, goI_mk, opsA_nil, opsA_cons, slotAt_zero, slotAt_succ, stepA_move, stepA_assign, stepA_binOp, thenV_some, pickV_true, pickV_false, eval_tmp, eval_const, put_some, aBin_add, aBin_eql, absV_int, absV_bool, aField_eq, fieldGo_ptr, fieldGo_at, aLoad_eq, loadGo_one, aPlace_ptr, aPlace_at, dropC_cells, List.getElem?_cons_zero, List.getElem?_cons_succ, Nat.reduceEqDiff, Nat.reduceAdd, Nat.add_zero, Nat.zero_add, Nat.zero_le, List.length_cons, List.length_nil, List.drop_zero, true_and, if_true, if_false, ft_24_0, ft_47_0, lt_22, lt_3, d1, d4, d10, d11, d12, d13, d14, d15, gj, gt, xI, x2, lu2, k5, xU, xm, kx, w7]
              exact hid_mk ⟨j + 1, ⟨d1, d3, d4, d6, d10, d11, d12, by rw [hS]; rfl, d14, rfl, by omega, rfl⟩, by omega⟩
        · rw [gj] at hS
          simp only [siI_done, siI_q, sqI_some, mOk_none', implies_true, qI_nil, qI_cons, qI_guard, qgI_tf, qgI_u, thenQ_some, q_move, q_assign, q_pick, wpA_region, seqQ_normal, blkQ_normal, endI_mk, andThen_normal, goI_out, goI_ops, goI_mk, opsA_nil, opsA_cons, slotAt_zero, slotAt_succ, stepA_move, stepA_assign, stepA_binOp, thenV_some, pickV_true, eval_tmp, eval_const, put_some, aBin_add, absV_int, absV_bool, List.getElem?_cons_zero, List.getElem?_cons_succ, Nat.reduceEqDiff, true_and, if_true, if_false, d13, d15, gj, w7]
          exact hid_mk ⟨j + 1, ⟨d1, d3, d4, d6, d10, d11, d12, by rw [hS]; rfl, d14, rfl, by omega, rfl⟩, by omega⟩
      · have c8 : decide ((j : Int) < ((U.length : Nat) : Int)) = false := by simp only [decide_eq_false_iff_not]; omega
        obtain rfl : j = U.length := by omega
        rw [hGe] at d13
        simp only [wpA_skip, wpA_region, wpA_seq, wpA_cond, wpA_exit, wpA_draw, condI_false, seqQ_normal, seqQ_exit, blkQ_normal, blkQ_exit, endI_mk, goE, andThen_normal, andThen_exit, goI_out, goI_ops, opsA_nil, opsA_cons, stepA_move, stepA_assign, stepA_binOp, stepA_unOp, stepA_len, thenV_some, eval_tmp, eval_const, put_some, aBin_add, aBin_lss, aUn_not, absV_int, aLen_imm, Nat.reduceEqDiff, if_true, if_false, Bool.not_true, kt_33, d10, d12, d13, d14, d15, c8, w6]
        exact hid_mk ⟨k + 1, ⟨d1, d3, d4, d6, d10, d11, rfl, by omega, rfl⟩, by omega⟩
end Go.Proofs.YtpmmbcifhallbaaDoor.Pk
