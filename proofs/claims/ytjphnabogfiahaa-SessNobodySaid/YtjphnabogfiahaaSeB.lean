/-
  What functions of the program do, told of abstract states. Conditions: as each theorem says.
-/
import Derived.Test.YtjphnabogfiahaaSeJ
import Derived.Test.YtjphnabogfiahaaCmA
namespace Go.Proofs.Ytjphnabogfiahaa.Pk
open Go Go.Proofs Go.Proofs.Ytjphnabogfiahaa.Ab
set_option linter.unusedVariables false
set_option linter.unusedSimpArgs false
/-! ### The order of sessions; where one belongs -/
def cfS (a b : Chg) : Int := orI [cmpI a.key b.key, cmpI a.fr b.fr, cmpI a.to b.to]
theorem cfS_lt (a b : Chg) : decide (cfS a b < 0) = decide (lt3 a b) := by
  refine decide_eq_decide.2 ?_
  unfold cfS orI orI orI orI cmpI lt3
  repeat' split
  all_goals omega
theorem cfS_eq (a b : Chg) : (cfS a b == 0) = same3 a b := by
  rw [Bool.eq_iff_iff, same3_iff]
  unfold cfS orI orI orI orI cmpI
  simp only [beq_iff_eq]
  repeat' split
  all_goals omega
set_option maxHeartbeats 1000000 in
set_option maxRecDepth 10000 in
theorem pInOrd (a b : Chg) (ha : okS a) (hb : okS b) (h : AHeap) : Pure Try.prog 29 [.agg (sesE a), .agg (sesE b)] h (.int .i64 (cfS a b)) := by
  refine Pure.val (Clo.int _ _) ?_
  refine SCalls.enterI (c := _) Try.func29 rfl (by kernel_rfl) (by simp) ?_
  have ca := ses_cells a
  have cb := ses_cells b
  simp only [wpA_region, wpA_seq, wpA_draw, seqQ_normal, goI_out, goI_ops, opsA_nil, opsA_cons, stepA_assign, stepA_box, thenH_some, eval_tmp, eval_const, put_some, enterF_zero, enterF_succ, absV_int, aBox_eq, push_n, Nat.reduceEqDiff, Option.map_some, if_false, ca, cb]
  refine SWp.drawnS none_ [15, 16] (.q 0 (.q 1 (.q 2 (.q 3 (.c 4 (.q 5 (.c 6 (.q 7 (.c 8 (.c 9 (.q 10 (.c 11 (.q 12 (.c 13 (.c 14 (.e 15 (.a 16 (.q 17 .done)) .stop)))))))))))))))) (by kernel_rfl) (by kernel_rfl) (by kernel_rfl) ?_
  simp only [siI_q, sqI_some, mOk_none', implies_true, qI_nil, qI_cons, thenQ_some, q_load, q_fieldAddr, goI_mk, eval_tmp, put_some, enterF_succ, aField_eq, fieldGo_ptr, aLoad_eq, loadGo_one, aPlace_ptr, dropC_cells, get_push2, get_push2', List.getElem?_cons_zero, List.getElem?_cons_succ, Nat.reduceEqDiff, Nat.reduceAdd, Nat.add_zero, Nat.zero_add, Nat.zero_le, List.length_cons, List.length_nil, List.drop_zero, true_and, if_true, if_false, ft_52_0, lt_2]
  refine siI_c rfl rfl rfl (fun h' _ => cmp64 h' a.key b.key) ?_
  simp only [siI_q, sqI_some, mOk_none', implies_true, qI_nil, qI_cons, thenQ_some, q_load, goI_mk, eval_tmp, put_some, enterF_succ, aLoad_eq, loadGo_row, aPlace_ptr, dropC_cells, get_push2', List.getElem?_cons_zero, List.getElem?_cons_succ, Nat.reduceEqDiff, Nat.reduceAdd, Nat.zero_add, Nat.zero_le, List.length_cons, List.length_nil, List.drop_zero, List.take_succ_cons, List.take_nil, true_and, if_true, if_false, Nat.le_refl, lt_52]
  refine siI_c rfl rfl rfl (fun h' _ => pFirstS a ha h') ?_
  simp only [siI_q, sqI_some, mOk_none', implies_true, qI_nil, qI_cons, thenQ_some, q_load, goI_mk, eval_tmp, put_some, enterF_succ, aLoad_eq, loadGo_row, aPlace_ptr, dropC_cells, get_push2, List.getElem?_cons_zero, List.getElem?_cons_succ, Nat.reduceEqDiff, Nat.reduceAdd, Nat.zero_add, Nat.zero_le, List.length_cons, List.length_nil, List.drop_zero, List.take_succ_cons, List.take_nil, true_and, if_true, if_false, Nat.le_refl, lt_52]
  refine siI_c rfl rfl rfl (fun h' _ => pFirstS b hb h') ?_
  simp only [false_implies]
  refine siI_c rfl rfl rfl (fun h' _ => cmp64 h' a.fr b.fr) ?_
  simp only [siI_q, sqI_some, mOk_none', implies_true, qI_nil, qI_cons, thenQ_some, q_load, goI_mk, eval_tmp, put_some, enterF_succ, aLoad_eq, loadGo_row, aPlace_ptr, dropC_cells, get_push2', List.getElem?_cons_zero, List.getElem?_cons_succ, Nat.reduceEqDiff, Nat.reduceAdd, Nat.zero_add, Nat.zero_le, List.length_cons, List.length_nil, List.drop_zero, List.take_succ_cons, List.take_nil, true_and, if_true, if_false, Nat.le_refl, lt_52]
  refine siI_c rfl rfl rfl (fun h' _ => pLastS a ha h') ?_
  simp only [siI_q, sqI_some, mOk_none', implies_true, qI_nil, qI_cons, thenQ_some, q_load, goI_mk, eval_tmp, put_some, enterF_succ, aLoad_eq, loadGo_row, aPlace_ptr, dropC_cells, get_push2, List.getElem?_cons_zero, List.getElem?_cons_succ, Nat.reduceEqDiff, Nat.reduceAdd, Nat.zero_add, Nat.zero_le, List.length_cons, List.length_nil, List.drop_zero, List.take_succ_cons, List.take_nil, true_and, if_true, if_false, Nat.le_refl, lt_52]
  refine siI_c rfl rfl rfl (fun h' _ => pLastS b hb h') ?_
  simp only [false_implies]
  refine siI_c rfl rfl rfl (fun h' _ => cmp64 h' a.to b.to) ?_
  unfold cfS
  generalize cmpI a.key b.key = x
  generalize cmpI a.fr b.fr = y
  generalize cmpI a.to b.to = z
  have lit3 : ∀ H : AHeap, aBuildSlice Try.prog 70 3 [(0, .int .i64 x), (1, .int .i64 y), (2, .int .i64 z)] H = some (.sl H.n 0 3 3, H.push (.cells (i64V [x, y, z]) 3 none)) := fun H => by rw [buildSlice_go sl_70]; rfl
  obtain ⟨h0, hh0⟩ : ∃ y, y = (h.push (.cells (sesE a) 52 none)).push (.cells (sesE b) 52 none) := ⟨_, rfl⟩
  have k0 : Keep h h0 none_ := by rw [hh0]; exact (Keep.push _ _ _).then_push _
  unfold sesE at hh0
  simp only [siI_stop, siI_a, siI_e, saI_some, seI_some, keepT1, goI_ops, goI_mk, opsA_nil, opsA_cons, stepA_buildSlice, stepA_call, thenH_some, eval_tmp, put_some, enterF_succ, push_n, List.getElem?_cons_zero, List.getElem?_cons_succ, Nat.reduceEqDiff, List.map_cons, List.map_nil, and_true, true_and, if_true, if_false, lit3]
  rw [← hh0]
  obtain ⟨h2, c2, k2⟩ := Cast.lit (h := h0) (c := i64V [x, y, z]) (e := 3) (n := 3) (sz := 1) rfl (by decide) (by decide)
  rw [show h0.n = h.n + 1 + 1 by rw [hh0]; rfl] at c2
  refine callI_of cal32 (SCalls.args (CastL.cons c2 (CastL.refl _ _)) (cmpOr h2 [x, y, z] (by simp only [List.length_cons, List.length_nil]; omega))) fun r h3 ⟨e3, e4⟩ => ?_
  subst e3
  simp only [siI_done, siI_q, sqI_some, mOk_none', implies_true, qI_nil, qI_cons, q_assign, wpA_ret, seqQ_normal, endI_mk, goI_out, goI_ops, goI_mk, opsA_nil, eval_tmp, put_some, enterF_succ, List.getElem?_cons_zero, List.getElem?_cons_succ, Bool.false_eq_true, Nat.reduceEqDiff, true_and, if_true, if_false, retA_ret, Try.results29, resultsA_1]
  refine hid_mk ⟨rfl, ?_⟩
  rw [e4]
  exact k0.trans' k2
theorem srow_set (l : List Chg) (k : Nat) (p : Chg) (hk : k < l.length) : lay (l.flatMap sesE) (k * 3) (sesE p) = (l.set k p).flatMap sesE := by
  unfold lay
  rw [rows_take sesE_len, show k * 3 + (sesE p).length = (k + 1) * 3 by rw [sesE_len]; omega, rows_drop sesE_len, List.set_eq_take_append_cons_drop, if_pos hk]
  simp
theorem srow {h : AHeap} {v : V} {l : List Chg} (o : Own h 52 3 v (l.flatMap sesE)) {t : Nat} {p : Chg} (hp : l[t]? = some p) :
    ∃ j r, aIndexAddr Try.prog 47 v (.int .i64 (t : Int)) = some (.ptr j (t * 3)) ∧ idOf v = some j ∧ j < h.n ∧ dropC (h.get j) (t * 3) = some (sesE p ++ r) ∧
      ∀ q : Chg, ∃ ob, setC (some 3) (h.get j) (t * 3) (sesE q) = some ob ∧ Own (h.set j ob) 52 3 v ((l.set t q).flatMap sesE) ∧ Keep h (h.set j ob) (isId v) := by
  have ht := (List.getElem?_eq_some_iff.1 hp).1
  have hr : (l.flatMap sesE).length = l.length * 3 := rows_len sesE_len l
  have hd : ((l.flatMap sesE).drop (t * 3)).take 3 = sesE p := by
    rw [rows_drop sesE_len, show 3 = 1 * 3 from rfl, rows_take sesE_len, List.drop_eq_getElem_cons ht, (List.getElem?_eq_some_iff.1 hp).2]
    simp
  obtain ⟨j, a1, a2, a3, a4, a5⟩ := own_row (P := Try.prog) (t := 47) (kk := .i64) ss_47 (by decide) o (k := t) (by rw [hr]; omega)
  obtain ⟨r0, h0⟩ := a4 h 0 rfl (by decide)
  rw [hd, List.drop_zero, Nat.add_zero] at h0
  refine ⟨j, r0, a1, a2, a3, h0, fun q => ?_⟩
  obtain ⟨ob, c1, c2, c3⟩ := a5 (sesE q) (sesE_len q) (sesE_one q)
  rw [srow_set l t q ht] at c2
  exact ⟨ob, c1, c2, c3⟩
theorem salen {h h' : AHeap} {v : V} {l : List Chg} (o : Own h 52 3 v (l.flatMap sesE)) : aLen Try.prog 47 v h' = some (.int .i64 (l.length : Nat)) := by
  have hr : (l.flatMap sesE).length = l.length * 3 := rows_len sesE_len l
  have := o.length (by decide) Try.prog kt_47
  rw [hr, Nat.mul_div_cancel _ (by decide)] at this
  rw [← this]
  rcases o with ⟨rfl | rfl, _⟩ | ⟨j, n, c, _, _, rfl, _⟩
  · rw [aLen_snil kt_47, aLen_snil kt_47]
  · rw [aLen_z0 kt_47, aLen_z0 kt_47]
  · rw [aLen_sl kt_47, aLen_sl kt_47]
theorem ses_ld (p : Chg) (r : List V) : loadGo (some (some 3)) (some (sesE p ++ r)) = some (.agg (sesE p)) := load_row (sesE_len p)
set_option maxHeartbeats 1000000 in
set_option maxRecDepth 10000 in
theorem pBSF (v : V) (l : List Chg) (x : Chg) (h : AHeap) (o : Own h 52 3 v (l.flatMap sesE)) (hs : SS l) (hok : ∀ y ∈ l, okS y) (hx : okS x) (hl : l.length < 2 ^ 40) :
    Pure Try.prog 28 [v, .agg (sesE x), .func (.func 29) [] []] h (.tuple [.int .i64 (pos3 l x : Nat), .bool (has3 l x)]) := by
  refine Pure.val (Clo.tuple (CloL.cons (Clo.int _ _) (CloL.cons (Clo.bool _) CloL.nil))) ?_
  refine SCalls.enterI (c := _) Try.func28 rfl (by kernel_rfl) (by simp) ?_
  obtain ⟨H, hH⟩ : ∃ y, y = h.push (.cells (sesE x) 52 none) := ⟨_, rfl⟩
  have gH : H.get h.n = .cells (sesE x) 52 none := by rw [hH]; exact get_push_new
  have kH : Keep h H none_ := by rw [hH]; exact Keep.push _ _ _
  have oH := o.keepN kH
  have cx := ses_cells x
  have hlen := salen (h' := H) oH
  have ldx : loadGo (some (some 3)) (some (sesE x)) = some (.agg (sesE x)) := rfl
  have dx : dropC (AObj.cells (sesE x) 52 none) 0 = some (sesE x) := rfl
  unfold sesE at hH
  simp only [wpA_region, wpA_seq, seqQ_normal, goI_out, goI_ops, opsA_nil, opsA_cons, stepA_move, stepA_assign, stepA_box, stepA_len, thenH_some, eval_tmp, eval_const, put_some, enterF_zero, enterF_succ, absV_int, absV_bool, aBox_eq, Nat.reduceEqDiff, reduceCtorEq, Option.map_some, if_true, if_false, cx]
  rw [← hH]
  clear hH
  have hple := pos3_le l x
  simp only [wpA_region, wpA_seq, wpA_block, wpA_loop, seqQ_normal, goI_out, goI_ops, opsA_nil, opsA_cons, stepA_move, stepA_assign, thenV_some, eval_tmp, eval_const, put_some, enterF_succ, absV_int, Nat.reduceEqDiff, if_true, if_false, hlen]
  refine SWp.loopG (α := Nat × Nat) (fun z f h' => h' = H ∧ f 0 = v ∧ f 2 = .func (.func 29) [] [] ∧ f 4 = .ptr h.n 0 ∧ f 8 = .int .i64 (l.length : Nat) ∧ f 9 = .int .i64 (z.1 : Nat) ∧ f 10 = .int .i64 (z.2 : Nat) ∧ z.1 ≤ pos3 l x ∧ pos3 l x ≤ z.2 ∧ z.2 ≤ l.length) (fun z => z.2 - z.1) (0, l.length)
    ⟨rfl, rfl, rfl, rfl, rfl, rfl, rfl, Nat.zero_le _, hple, Nat.le_refl _⟩ ?_
  rintro ⟨lo, hi⟩ f h' ⟨rfl, f0, f2, f4, f8, f9, f10, a1, a2, a3⟩
  simp only at f9 f10 a1 a2 a3
  refine wpI_sound (by kernel_rfl) ?_
  by_cases hlt : lo < hi
  · have d1 : decide ((lo : Int) < (hi : Int)) = true := decide_eq_true (by omega)
    have w1 : IntKind.i64.wrap ((lo : Int) + (hi : Int)) = ((lo + hi : Nat) : Int) := by rw [Go.IntWalk.i64_in _ (by omega)]; omega
    have w2 := nat_u64 (n := lo + hi) (by omega)
    have w3 : (((lo + hi : Nat) : Int)).fdiv (2 ^ (min (Int.toNat 1) IntKind.u64.bits)) = (((lo + hi) / 2 : Nat) : Int) := by
      rw [show (2 : Int) ^ (min (Int.toNat 1) IntKind.u64.bits) = 2 from rfl, Int.fdiv_eq_ediv_of_nonneg _ (by omega)]; omega
    have w4 := nat_i64 (n := (lo + hi) / 2) (by omega)
    have w5 := inc64 (i := (lo + hi) / 2) (n := l.length) (by omega) (by omega)
    have hmid : (lo + hi) / 2 < l.length := by omega
    have hp : l[(lo + hi) / 2]? = some l[(lo + hi) / 2] := List.getElem?_eq_getElem hmid
    generalize l[(lo + hi) / 2] = p at hp
    obtain ⟨j, r, x1, x2, x3, x4, _⟩ := srow oH hp
    have ld := ses_ld p r
    have hpok := hok p (List.mem_of_getElem? hp)
    simp only [wpA_skip, wpA_region, wpA_seq, wpA_cond, wpA_block, wpA_draw, condI_true, seqQ_normal, goI_out, goI_ops, opsA_nil, opsA_cons, stepA_move, stepA_assign, stepA_binOp, stepA_convert, thenV_some, thenC_some, eval_tmp, eval_const, put_some, aBin_add, aBin_lss, absV_int, Nat.reduceEqDiff, if_true, if_false, f9, f10, d1, w1, aConv_int it_3 it_67, w2, aBin_shr (show (0 : Int) ≤ 1 by decide), w3, aConv_int it_67 it_3, w4]
    refine SWp.drawnS none_ [] (.q 0 (.q 1 (.q 2 (.q 3 (.q 4 (.q 5 (.c 6 (.q 7 .done)))))))) (by kernel_rfl) (by kernel_rfl) (by kernel_rfl) ?_
    simp only [siI_q, sqI_some, mOk_none', implies_true, qI_nil, qI_cons, thenQ_some, q_move, q_load, q_indexAddr, goI_mk, eval_tmp, put_some, aLoad_eq, aPlace_ptr, List.getElem?_cons_zero, List.getElem?_cons_succ, Nat.reduceEqDiff, reduceCtorEq, true_and, if_true, if_false, lt_52, f0, f2, f4, x1, x4, ld, gH, dx, ldx]
    refine siI_c rfl rfl rfl (fun h' _ => pInOrd p x hpok hx h') ?_
    have hc := cfS_lt p x
    cases hp2 : decide (lt3 p x)
    · rw [hp2] at hc
      have hn : ¬ lt3 p x := of_decide_eq_false hp2
      have : ¬ (lo + hi) / 2 < pos3 l x := fun hh => hn (hs.lt_pos hh hp)
      simp only [siI_done, siI_q, sqI_some, mOk_none', implies_true, qI_nil, qI_cons, thenQ_some, q_binOp, wpA_region, wpA_cond, condI_false, seqQ_normal, blkQ_normal, endI_mk, andThen_normal, goI_out, goI_ops, goI_mk, opsA_nil, opsA_cons, stepA_move, stepA_assign, eval_tmp, eval_const, put_some, aBin_lss, absV_int, List.getElem?_cons_zero, List.getElem?_cons_succ, Nat.reduceEqDiff, true_and, if_true, if_false, hc]
      exact hid_mk ⟨(lo, (lo + hi) / 2), ⟨rfl, f0, f2, f4, f8, f9, rfl, a1, by simp only; omega, by simp only; omega⟩, by simp only; omega⟩
    · rw [hp2] at hc
      have hn : lt3 p x := of_decide_eq_true hp2
      have : ¬ pos3 l x ≤ (lo + hi) / 2 := fun hh => hs.ge_pos hh hp hn
      simp only [siI_done, siI_q, sqI_some, mOk_none', implies_true, qI_nil, qI_cons, thenQ_some, q_binOp, wpA_region, wpA_cond, condI_true, seqQ_normal, blkQ_normal, endI_mk, andThen_normal, goI_out, goI_ops, goI_mk, opsA_nil, opsA_cons, stepA_move, stepA_assign, stepA_binOp, thenV_some, eval_tmp, eval_const, put_some, aBin_add, aBin_lss, absV_int, List.getElem?_cons_zero, List.getElem?_cons_succ, Nat.reduceEqDiff, true_and, if_true, if_false, hc, w5]
      exact hid_mk ⟨((lo + hi) / 2 + 1, hi), ⟨rfl, f0, f2, f4, f8, rfl, f10, by simp only; omega, a2, a3⟩, by simp only; omega⟩
  · have d1 : decide ((lo : Int) < (hi : Int)) = false := decide_eq_false (by omega)
    obtain rfl : lo = pos3 l x := by omega
    by_cases hend : pos3 l x < l.length
    · have d2 : decide (((pos3 l x : Nat) : Int) < ((l.length : Nat) : Int)) = true := decide_eq_true (by omega)
      have hp : l[pos3 l x]? = some l[pos3 l x] := List.getElem?_eq_getElem hend
      generalize l[pos3 l x] = p at hp
      obtain ⟨j, r, x1, x2, x3, x4, _⟩ := srow oH hp
      have ld := ses_ld p r
      have hpok := hok p (List.mem_of_getElem? hp)
      have hc := cfS_eq p x
      have hh : same3 p x = has3 l x := by
        rcases hs.at_pos x with ⟨e1, q, e2, e3, _⟩ | ⟨e1, e2⟩
        · rw [hp] at e2; cases e2; rw [e1, e3]
        · rw [e1]; exact (e2 p hp).2
      rw [hh] at hc
      simp only [wpA_region, wpA_seq, wpA_cond, wpA_exit, wpA_draw, condI_false, seqQ_normal, seqQ_exit, blkQ_exit, endI_mk, goE, andThen_exit, goI_out, goI_ops, opsA_nil, opsA_cons, stepA_move, stepA_binOp, thenV_some, eval_tmp, put_some, aBin_lss, Nat.reduceEqDiff, if_true, if_false, f9, f10, d1]
      refine SWp.drawnS none_ [] (.q 0 (.q 1 (.q 2 (.q 3 (.q 4 (.q 5 (.q 6 (.q 7 (.q 8 (.q 9 (.q 10 (.c 11 (.q 12 (.q 13 (.q 14 (.q 15 .done)))))))))))))))) (by kernel_rfl) (by kernel_rfl) (by kernel_rfl) ?_
      simp only [siI_q, sqI_some, mOk_none', implies_true, qI_nil, qI_cons, qI_guard, qgI_same, thenQ_some, q_move, q_load, q_binOp, q_indexAddr, goI_mk, slotAt_zero, slotAt_succ, eval_tmp, put_some, aBin_lss, aLoad_eq, aPlace_ptr, List.getElem?_cons_zero, List.getElem?_cons_succ, Nat.reduceEqDiff, reduceCtorEq, true_and, if_true, if_false, lt_52, f0, f2, f4, f8, f9, d2, x1, x4, ld, gH, dx, ldx]
      refine siI_c rfl rfl rfl (fun h' _ => pInOrd p x hpok hx h') ?_
      simp only [siI_done, siI_q, sqI_some, mOk_none', implies_true, qI_nil, qI_cons, qI_guard, qgI_same, thenQ_some, q_assign, q_pick, q_binOp, wpA_ret, seqQ_normal, endI_mk, goI_out, goI_mk, slotAt_zero, slotAt_succ, pickV_true, eval_tmp, eval_const, put_some, aBin_eql, absV_int, absV_bool, List.getElem?_cons_zero, List.getElem?_cons_succ, Nat.reduceEqDiff, true_and, if_true, if_false, hc, retA_ret, Try.results28, resultsA_2]
      exact hid_mk ⟨rfl, kH⟩
    · have d2 : decide (((pos3 l x : Nat) : Int) < ((l.length : Nat) : Int)) = false := decide_eq_false (by omega)
      have hh : has3 l x = false := by
        rcases hs.at_pos x with ⟨e1, q, e2, e3, _⟩ | ⟨e1, e2⟩
        · have := (List.getElem?_eq_some_iff.1 e2).1; omega
        · exact e1
      simp only [wpA_region, wpA_seq, wpA_cond, wpA_exit, wpA_draw, condI_false, seqQ_normal, seqQ_exit, blkQ_exit, endI_mk, goE, andThen_exit, goI_out, goI_ops, opsA_nil, opsA_cons, stepA_move, stepA_binOp, thenV_some, eval_tmp, put_some, aBin_lss, Nat.reduceEqDiff, if_true, if_false, f9, f10, d1]
      refine SWp.drawnS none_ [] (.q 0 (.q 1 (.q 2 (.q 3 (.q 4 (.q 5 (.q 6 (.q 7 (.q 8 (.q 9 (.q 10 (.c 11 (.q 12 (.q 13 (.q 14 (.q 15 .done)))))))))))))))) (by kernel_rfl) (by kernel_rfl) (by kernel_rfl) ?_
      simp only [siI_q, sqI_some, mOk_none', implies_true, qI_nil, qI_cons, qI_guard, qgI_ft, thenQ_some, q_move, q_binOp, goI_mk, slotAt_zero, slotAt_succ, eval_tmp, put_some, aBin_lss, List.getElem?_cons_zero, List.getElem?_cons_succ, Nat.reduceEqDiff, true_and, if_true, if_false, f8, f9, d2]
      refine siI_cskip rfl rfl ?_
      simp only [siI_done, siI_q, sqI_some, mOk_none', implies_true, qI_nil, qI_cons, qI_guard, qgI_ft, thenQ_some, q_assign, q_pick, wpA_ret, seqQ_normal, endI_mk, goI_out, goI_mk, slotAt_zero, slotAt_succ, pickV_false, eval_tmp, eval_const, put_some, absV_bool, List.getElem?_cons_zero, List.getElem?_cons_succ, Nat.reduceEqDiff, true_and, if_true, if_false, retA_ret, Try.results28, resultsA_2]
      exact hid_mk ⟨by rw [hh], kH⟩
end Go.Proofs.Ytjphnabogfiahaa.Pk
