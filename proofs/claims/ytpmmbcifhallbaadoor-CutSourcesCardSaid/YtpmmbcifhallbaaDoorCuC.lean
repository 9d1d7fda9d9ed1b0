/-
  What functions of the program do, told of abstract states. Conditions: as each theorem says.
-/
import Derived.Test.YtpmmbcifhallbaaDoorCuB
import Derived.Test.YtpmmbcifhallbaaDoorAbD
namespace Go.Proofs.YtpmmbcifhallbaaDoor.Pk
open Go Go.Proofs Go.Proofs.YtpmmbcifhallbaaDoor.Ab
set_option linter.unusedVariables false
set_option linter.unusedSimpArgs false

/-! ### Parts -/
theorem getD_set {L : List Nat} {k j x : Nat} : (L.set k x).getD j 0 = if k = j ∧ j < L.length then x else L.getD j 0 := by
  rw [List.getD, List.getElem?_set]
  by_cases h : k = j
  · subst h
    by_cases hl : k < L.length
    · simp [hl]
    · simp [hl, List.getD]
  · simp [h, List.getD]
theorem mgN_le {l : List Vx} : ∀ (k : Nat) (L : List Nat), (∀ j, L.getD j 0 ≤ j) → ∀ j, (mgN l k L).getD j 0 ≤ j
  | 0, L, h, j => h j
  | k + 1, L, h, j => by
    unfold mgN
    cases hq : mgV l L 0 l with
    | none => exact h j
    | some L' =>
      refine mgN_le k L' (fun j => ?_) j
      obtain ⟨v, x, h1, h2⟩ := mgV_at hq
      obtain ⟨f, _, _, e⟩ := mgF_some h2
      rw [e, getD_set, getD_set]
      have a := h (0 + v)
      have b := h f.toNat
      split
      · rename_i hh
        rw [← hh.1]
        omega
      · split
        · rename_i hh
          rw [← hh.1]
          omega
        · exact h j
theorem mgX_le (l : List Vx) : ∀ j, (mgX l).getD j 0 ≤ j := mgN_le _ _ fun j => by
  rw [List.getD]
  by_cases h : j < l.length
  · rw [List.getElem?_range h]; exact Nat.le_refl _
  · rw [List.getElem?_eq_none (by simp; omega)]; exact Nat.zero_le _
theorem Own.at' {h : AHeap} {e : TypeId} {v : V} {cs : List V} {i : Nat} (ho : Own h e 1 v cs) (hi : idOf v = some i) {k : Nat} (hk : k < cs.length) {kk : IntKind} {t : TypeId} (hs : slSz Tryd.prog t = some 1) :
    aIndexAddr Tryd.prog t v (.int kk (k : Int)) = some (.ptr i k) ∧ (∃ r, dropC (h.get i) k = some (cs[k] :: r)) ∧ ∀ x, x.one = true → ∃ ob, setC (some 1) (h.get i) k [x] = some ob ∧ Own (h.set i ob) e 1 v (cs.set k x) := by
  obtain ⟨j, q1, q2, q3, q4⟩ := own_elem (P := Tryd.prog) (kk := kk) hs ho hk
  rw [hi] at q2
  obtain rfl : i = j := by simpa using q2
  exact ⟨q1, q3, fun x hx => by obtain ⟨ob, a, b, _⟩ := q4 x hx; exact ⟨ob, a, b⟩⟩
def ptN (R : List Nat) : Nat → List Int × Nat
  | 0 => ([], 0)
  | i + 1 => if R.getD i 0 = i then ((ptN R i).1 ++ [((ptN R i).2 : Int)], (ptN R i).2 + 1) else ((ptN R i).1 ++ [(ptN R i).1.getD (R.getD i 0) 0], (ptN R i).2)
theorem ptN_len (R : List Nat) : ∀ i, (ptN R i).1.length = i
  | 0 => rfl
  | i + 1 => by unfold ptN; split <;> simp [ptN_len R i]
theorem ptN_le (R : List Nat) : ∀ i, (ptN R i).2 ≤ i
  | 0 => Nat.le_refl _
  | i + 1 => by have := ptN_le R i; unfold ptN; split <;> simp only <;> omega
def partsX (p : Int) (l : List Vx) : List Int := if (chkT p l).2 = 0 then (ptN (mgX l) l.length).1 else []
theorem pt_set {P : List Int} {i n : Nat} (hP : P.length = i) (hi : i < n) (x : Int) : (P ++ List.replicate (n - i) 0).set i x = (P ++ [x]) ++ List.replicate (n - (i + 1)) 0 := by
  subst hP
  rw [List.set_append_right _ _ (Nat.le_refl _), Nat.sub_self, show n - P.length = (n - (P.length + 1)) + 1 by omega, List.replicate_succ, List.set_cons_zero]
  simp

set_option maxHeartbeats 2000000 in
set_option maxRecDepth 10000 in
theorem pParts (l : List Vx) (p : Int) (hok : OkT l) (h : AHeap) (hg : TG h) : Pure Tryd.prog 27 [.agg (topE l p)] h (.tuple [.imm (partsX p l).length (i64V (partsX p l)), .int .i64 (chkT p l).2]) := by
  refine Pure.of (Clo.tuple (CloL.cons (Clo.imm (i64V_clo _)) (CloL.cons (Clo.int _ _) CloL.nil))) ?_
  have hc : (V.agg (topE l p)).cells = some [.imm l.length (l.flatMap encX), .int .i64 p] := rfl
  obtain ⟨H, hH⟩ : ∃ x, x = h.push (.cells [.imm l.length (l.flatMap encX), .int .i64 p] 24 none) := ⟨_, rfl⟩
  have gt : H.get h.n = .cells [.imm l.length (l.flatMap encX), .int .i64 p] 24 none := by rw [hH]; exact get_push_new
  have kH : Keep h H none_ := by rw [hH]; exact Keep.push _ _ _
  have nH : H.n = h.n + 1 := by rw [hH]; rfl
  have tH := hg.keep kH
  refine SCalls.enterI (c := _) Tryd.func27 rfl (by kernel_rfl) (by simp) ?_
  simp only [wpA_region, wpA_seq, seqQ_normal, goI_out, goI_ops, opsA_nil, opsA_cons, stepA_assign, stepA_box, stepA_load, stepA_call, thenV_some, thenH_some, eval_tmp, eval_const, put_some, enterF_zero, enterF_succ, absV_int, absV_snil, aLoad_eq, loadGo_row, aPlace_ptr, dropC_cells, aBox_eq, Nat.reduceEqDiff, Nat.reduceAdd, List.map_cons, List.map_nil, Option.map_some, Nat.zero_add, Nat.zero_le, List.length_cons, List.length_nil, List.drop_zero, List.take_succ_cons, List.take_nil, if_true, if_false, Nat.le_refl, lt_24, hc, ← hH, gt]
  refine callI_pure cal16 (pCheck l p hok H tH) ?_
  by_cases h0 : (chkT p l).2 = 0
  rotate_left
  · have c2 : ((chkT p l).2 != 0) = true := by simp [h0]
    have hG : partsX p l = [] := if_neg h0
    simp only [wpA_region, wpA_seq, wpA_cond, wpA_ret, condI_true, seqQ_normal, seqQ_ret, endI_mk, goI_out, goI_ops, opsA_nil, opsA_cons, stepA_move, stepA_assign, stepA_binOp, stepA_extract, thenV_some, extV_zero, extV_succ, eval_tmp, eval_const, put_some, enterF_succ, aBin_neq, absV_int, absV_snil, Nat.reduceEqDiff, if_true, if_false, chkA, c2, retA_ret, Tryd.results27, resultsA_2]
    exact hid_mk ⟨_, by rw [hG]; exact Cast.tuple (CastL.cons (Cast.snil0 _) (CastL.refl _ _)), kH⟩
  have c2 : ((chkT p l).2 != 0) = false := by simp [h0]
  obtain ⟨_, _, l1, l24, _, hall⟩ := chk_ok h0
  have hG : partsX p l = (ptN (mgX l) l.length).1 := if_pos h0
  simp only [wpA_skip, wpA_region, wpA_seq, wpA_cond, condI_false, seqQ_normal, goI_out, goI_ops, opsA_nil, opsA_cons, stepA_move, stepA_assign, stepA_load, stepA_binOp, stepA_fieldAddr, stepA_extract, stepA_call, thenV_some, extV_zero, extV_succ, eval_tmp, eval_const, put_some, enterF_succ, aBin_neq, absV_int, aField_eq, fieldGo_ptr, aLoad_eq, loadGo_one, aPlace_ptr, dropC_cells, Nat.reduceEqDiff, Nat.reduceAdd, List.map_cons, List.map_nil, Nat.add_zero, Nat.zero_add, Nat.zero_le, List.length_cons, List.length_nil, List.drop_zero, if_true, if_false, ft_24_0, lt_22, chkA, c2, gt]
  refine callI_of cal52 (pMerge l H l24 (fun v x hx f hf => (chkV_zero (hall v x hx)).2.1 f hf) (fun x hx => (hok.2 x hx).2.1)) fun r h1 ⟨m, es, cl, er, m1, m2, gm, hM, hRl, k1⟩ => ?_
  subst er
  have hRle := mgX_le l
  generalize mgX l = R at hM hRl hRle hG
  have gt1 := (k1.get h.n (by omega) (by simp [none_])).trans gt
  have hmk : aMake Tryd.prog 33 (.int .i64 ((l.length : Nat) : Int)) (.int .i64 ((l.length : Nat) : Int)) h1 = some (.sl h1.n 0 l.length l.length, h1.push (.cells (i64V (List.replicate l.length 0)) 3 none)) := by
    rw [make_go sl_33 (Nat.le_refl _) (by simp only; omega) (by omega), made_one]
    simp [i64V]
  have a0 : Own (h1.push (.cells (i64V (List.replicate l.length 0)) 3 none)) 3 1 (.sl h1.n 0 l.length l.length) (i64V (List.replicate l.length 0)) := Own.fresh' _ l.length (by rw [i64V_length, List.length_replicate, Nat.mul_one]) (by unfold unk; omega)
  obtain ⟨H2, hH2⟩ : ∃ x, x = h1.push (.cells (i64V (List.replicate l.length 0)) 3 none) := ⟨_, rfl⟩
  have k2 : Keep h1 H2 none_ := by rw [hH2]; exact Keep.push _ _ _
  have n2 : H2.n = h1.n + 1 := by rw [hH2]; rfl
  rw [← hH2] at a0
  have gt2 := (k2.get h.n (by have := k1.n; omega) (by simp [none_])).trans gt1
  have gm2 := (k2.get m m2 (by simp [none_])).trans gm
  simp only [wpA_region, wpA_seq, wpA_block, wpA_loop, seqQ_normal, goI_out, goI_ops, opsA_nil, opsA_cons, stepA_move, stepA_assign, stepA_load, stepA_makeSlice, stepA_fieldAddr, stepA_len, thenV_some, thenH_some, eval_tmp, eval_const, put_some, enterF_succ, absV_int, aField_eq, fieldGo_ptr, aLoad_eq, loadGo_one, aPlace_ptr, dropC_cells, aLen_imm, Nat.reduceEqDiff, Nat.reduceAdd, Nat.add_zero, Nat.zero_add, Nat.zero_le, List.length_cons, List.length_nil, List.drop_zero, if_true, if_false, ft_24_0, kt_22, lt_22, gt1, hmk, ← hH2, gt2]
  have nk := k1.n
  refine SWp.loopG (α := Nat) (fun i f h' => f 6 = .map m ∧ f 7 = .sl h1.n 0 l.length l.length ∧ f 8 = .int .i64 (((ptN R i).2 : Nat) : Int) ∧ f 27 = .int .i64 ((l.length : Nat) : Int) ∧ f 28 = .int .i64 (i : Nat) ∧ i ≤ l.length ∧ Keep H2 h' (fun q => q = h1.n) ∧ Own h' 3 1 (.sl h1.n 0 l.length l.length) (i64V ((ptN R i).1 ++ List.replicate (l.length - i) 0))) (fun i => l.length - i) 0 ⟨rfl, rfl, rfl, rfl, rfl, Nat.zero_le _, Keep.refl _ _, a0⟩ ?_
  rintro i f h3 ⟨f6, f7, f8, f27, f28, hi, k3, o3⟩
  have gm3 := (k3.get m (by omega) (by omega)).trans gm2
  refine wpI_sound (by kernel_rfl) ?_
  by_cases hlt : i < l.length
  rotate_left
  · have c3 : decide ((i : Int) < ((l.length : Nat) : Int)) = false := by simp only [decide_eq_false_iff_not]; omega
    have hil : i = l.length := by omega
    subst hil
    rw [Nat.sub_self, List.replicate_zero, List.append_nil] at o3
    obtain ⟨h4, c4, k4⟩ := Cast.own o3 (n := l.length) (by rw [i64V_length, ptN_len, Nat.mul_one]) (by decide)
    have kF : Keep h h4 none_ := (((kH.trans' k1).trans' k2).trans k3 fun q hq e => by omega).trans k4 fun q hq e => by simp [isId, idOf] at e; omega
    simp only [wpA_region, wpA_seq, wpA_cond, wpA_exit, wpA_ret, condI_false, seqQ_normal, seqQ_exit, blkQ_exit, endI_mk, goE, andThen_exit, goI_out, goI_ops, opsA_nil, opsA_cons, stepA_move, stepA_assign, stepA_binOp, thenV_some, eval_tmp, eval_const, put_some, aBin_lss, absV_int, Nat.reduceEqDiff, if_true, if_false, f7, f27, f28, c3, retA_ret, Tryd.results27, resultsA_2]
    refine hid_mk ⟨h4, ?_, kF⟩
    rw [hG, ptN_len, h0]
    exact Cast.tuple (CastL.cons c4 (CastL.refl _ _))
  have c3 : decide ((i : Int) < ((l.length : Nat) : Int)) = true := by simp only [decide_eq_true_eq]; omega
  have w2 : IntKind.i64.wrap (((i : Nat) : Int) + 1) = ((i + 1 : Nat) : Int) := by rw [Go.IntWalk.i64_in _ (by omega)]; omega
  have lk := lookI hM (k := i) (by omega) gm3
  have hlen : (i64V ((ptN R i).1 ++ List.replicate (l.length - i) 0)).length = l.length := by rw [i64V_length, List.length_append, ptN_len, List.length_replicate]; omega
  obtain ⟨q1, _, q3⟩ := Pk.Own.at' (kk := .i64) o3 (i := h1.n) rfl (k := i) (by rw [hlen]; exact hlt) ss_33
  have hle := ptN_le R i
  by_cases he : R.getD i 0 = i
  · have c4 : (((R.getD i 0 : Nat) : Int) == ((i : Nat) : Int)) = true := by rw [he]; simp
    have w3 : IntKind.i64.wrap ((((ptN R i).2 : Nat) : Int) + 1) = (((ptN R i).2 + 1 : Nat) : Int) := by rw [Go.IntWalk.i64_in _ (by omega)]; omega
    obtain ⟨ob, b1, b2⟩ := q3 (.int .i64 (((ptN R i).2 : Nat) : Int)) rfl
    rw [i64V_set, pt_set (ptN_len R i) hlt] at b2
    have hp : ptN R (i + 1) = ((ptN R i).1 ++ [((ptN R i).2 : Int)], (ptN R i).2 + 1) := if_pos he
    simp only [wpA_skip, wpA_region, wpA_seq, wpA_cond, wpA_block, condI_true, seqQ_normal, blkQ_normal, endI_mk, andThen_normal, goI_out, goI_ops, opsA_nil, opsA_cons, stepA_move, stepA_assign, stepA_store, stepA_binOp, stepA_indexAddr, stepA_lookup, thenV_some, thenS_some, eval_tmp, eval_const, put_some, put_none, aBin_add, aBin_eql, aBin_lss, absV_int, cells_int, aStore_eq, storeGo_ptr, Nat.reduceEqDiff, Option.map_some, if_true, if_false, zt_3, f6, f7, f8, f27, f28, c3, lk, c4, q1, b1, w2, w3]
    exact hid_mk ⟨i + 1, ⟨f6, f7, by rw [hp]; rfl, f27, rfl, by omega, k3.trans' (Keep.set _ _ _), by rw [hp]; exact b2⟩, by omega⟩
  · have c4 : (((R.getD i 0 : Nat) : Int) == ((i : Nat) : Int)) = false := by simp only [beq_eq_false_iff_ne, ne_eq]; omega
    have hRi := hRle i
    have hj : R.getD i 0 < i := by omega
    generalize hJ : R.getD i 0 = J at *
    obtain ⟨p1, p2, _⟩ := Pk.Own.at' (kk := .i64) o3 (i := h1.n) rfl (k := J) (by rw [hlen]; omega) ss_33
    have hgj : (i64V ((ptN R i).1 ++ List.replicate (l.length - i) 0))[J]'(by rw [hlen]; omega) = .int .i64 ((ptN R i).1.getD J 0) := by
      simp only [i64V, List.getElem_map]
      rw [List.getElem_append_left (by rw [ptN_len]; exact hj), List.getD, List.getElem?_eq_getElem (by rw [ptN_len]; exact hj)]
      rfl
    obtain ⟨rr, p2⟩ := p2
    rw [hgj] at p2
    obtain ⟨ob, b1, b2⟩ := q3 (.int .i64 ((ptN R i).1.getD J 0)) rfl
    rw [i64V_set, pt_set (ptN_len R i) hlt] at b2
    have hp : ptN R (i + 1) = ((ptN R i).1 ++ [(ptN R i).1.getD J 0], (ptN R i).2) := by
      show (if R.getD i 0 = i then _ else _) = _
      rw [hJ, if_neg (by omega)]
    simp only [wpA_skip, wpA_region, wpA_seq, wpA_cond, wpA_block, condI_true, condI_false, seqQ_normal, blkQ_normal, endI_mk, andThen_normal, goI_out, goI_ops, opsA_nil, opsA_cons, stepA_move, stepA_assign, stepA_load, stepA_store, stepA_binOp, stepA_indexAddr, stepA_lookup, thenV_some, thenS_some, eval_tmp, eval_const, put_some, put_none, aBin_add, aBin_eql, aBin_lss, absV_int, cells_int, aLoad_eq, loadGo_one, aPlace_ptr, aStore_eq, storeGo_ptr, Nat.reduceEqDiff, Option.map_some, if_true, if_false, lt_3, zt_3, f6, f7, f27, f28, c3, lk, c4, p1, p2, q1, b1, w2]
    exact hid_mk ⟨i + 1, ⟨f6, f7, by rw [hp]; exact f8, f27, rfl, by omega, k3.trans' (Keep.set _ _ _), by rw [hp]; exact b2⟩, by omega⟩
end Go.Proofs.YtpmmbcifhallbaaDoor.Pk
