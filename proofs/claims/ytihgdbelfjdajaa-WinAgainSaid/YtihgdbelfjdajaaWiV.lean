/-
  What functions of the program do, told of abstract states. Conditions: as each theorem says.
-/
import Derived.Test.YtihgdbelfjdajaaWiO
import Derived.Test.YtihgdbelfjdajaaTyV
import Derived.Test.YtihgdbelfjdajaaAbD
namespace Go.Proofs.Ytihgdbelfjdajaa.Pk
open Go Go.Proofs Go.Proofs.Ytihgdbelfjdajaa.Ab
set_option linter.unusedVariables false
set_option linter.unusedSimpArgs false
/-! ### The comparator -/
def cmpI (x y : Int) : Int := if x < y then -1 else if y < x then 1 else 0
set_option maxRecDepth 10000 in
theorem nan64 (h : AHeap) (x : Int) : Pure Try.prog 36 [.int .i64 x] h (.bool false) := by
  refine Pure.val (Clo.bool _) ?_
  refine SCalls.enterI (c := _) Try.func36 rfl (by kernel_rfl) (by simp) ?_
  have e : (x != x) = false := by simp
  simp only [wpA_region, wpA_seq, wpA_ret, seqQ_normal, endI_mk, goI_out, goI_ops, opsA_nil, opsA_cons, stepA_move, stepA_assign, stepA_binOp, thenV_some, eval_tmp, eval_const, put_some, enterF_zero, enterF_succ, aBin_neq, absV_bool, bne_self_eq_false, Nat.reduceEqDiff, reduceCtorEq, if_true, if_false, retA_ret, Try.results36, resultsA_1]
  exact hid_mk ⟨rfl, Keep.refl _ _⟩
set_option maxRecDepth 10000 in
theorem cmp64 (h : AHeap) (x y : Int) : Pure Try.prog 25 [.int .i64 x, .int .i64 y] h (.int .i64 (cmpI x y)) := by
  refine Pure.val (Clo.int _ _) ?_
  refine SCalls.enterI (c := _) Try.func25 rfl (by kernel_rfl) (by simp) ?_
  simp only [wpA_region, wpA_seq, seqQ_normal, goI_out, goI_ops, opsA_nil, opsA_cons, stepA_move, stepA_assign, stepA_call, eval_tmp, eval_const, put_some, enterF_zero, enterF_succ, absV_int, Int.reduceNeg, Nat.reduceEqDiff, reduceCtorEq, List.map_cons, List.map_nil, if_true, if_false]
  refine callI_pure cal36 (nan64 h x) ?_
  simp only [wpA_region, wpA_seq, seqQ_normal, goI_out, goI_ops, opsA_nil, opsA_cons, stepA_move, stepA_assign, stepA_call, eval_tmp, put_some, enterF_zero, enterF_succ, Int.reduceNeg, Nat.reduceEqDiff, List.map_cons, List.map_nil, if_true, if_false]
  refine callI_pure cal36 (nan64 h y) ?_
  by_cases h1 : x < y
  · have d1 : decide (x < y) = true := decide_eq_true h1
    simp only [wpA_skip, wpA_region, wpA_seq, wpA_cond, wpA_ret, condI_true, condI_false, seqQ_normal, seqQ_ret, endI_mk, goI_out, goI_ops, opsA_nil, opsA_cons, stepA_move, stepA_assign, stepA_binOp, thenV_some, eval_tmp, eval_const, put_some, enterF_zero, enterF_succ, aBin_lss, absV_int, Int.reduceNeg, Nat.reduceEqDiff, reduceCtorEq, if_true, if_false, d1, retA_ret, Try.results25, resultsA_1]
    exact hid_mk ⟨by rw [cmpI, if_pos h1], Keep.refl _ _⟩
  · have d1 : decide (x < y) = false := decide_eq_false h1
    by_cases h2 : y < x
    · have d2 : decide (y < x) = true := decide_eq_true h2
      simp only [wpA_skip, wpA_region, wpA_seq, wpA_cond, wpA_ret, condI_true, condI_false, seqQ_normal, seqQ_ret, endI_mk, goI_out, goI_ops, opsA_nil, opsA_cons, stepA_move, stepA_assign, stepA_binOp, thenV_some, eval_tmp, eval_const, put_some, enterF_zero, enterF_succ, aBin_lss, aBin_gtr, absV_int, Int.reduceNeg, Nat.reduceEqDiff, reduceCtorEq, if_true, if_false, d1, d2, retA_ret, Try.results25, resultsA_1]
      exact hid_mk ⟨by rw [cmpI, if_neg h1, if_pos h2], Keep.refl _ _⟩
    · have d2 : decide (y < x) = false := decide_eq_false h2
      simp only [wpA_skip, wpA_region, wpA_seq, wpA_cond, wpA_ret, condI_false, seqQ_normal, endI_mk, goI_out, goI_ops, opsA_nil, opsA_cons, stepA_move, stepA_assign, stepA_binOp, thenV_some, eval_tmp, eval_const, put_some, enterF_zero, enterF_succ, aBin_lss, aBin_gtr, absV_int, Int.reduceNeg, Nat.reduceEqDiff, reduceCtorEq, if_true, if_false, d1, d2, retA_ret, Try.results25, resultsA_1]
      exact hid_mk ⟨by rw [cmpI, if_neg h1, if_neg h2], Keep.refl _ _⟩
def orI (l : List Int) : Int := match l with | [] => 0 | x :: r => if x = 0 then orI r else x
set_option maxRecDepth 10000 in
theorem cmpOr (h : AHeap) (l : List Int) (hl : l.length ≤ 2 ^ 40) : Pure Try.prog 24 [.imm l.length (i64V l)] h (.int .i64 (orI l)) := by
  refine Pure.val (Clo.int _ _) ?_
  refine SCalls.enterI (c := _) Try.func24 rfl (by kernel_rfl) (by simp) ?_
  simp only [wpA_region, wpA_seq, wpA_block, wpA_loop, seqQ_normal, goI_out, goI_ops, opsA_nil, opsA_cons, stepA_move, stepA_assign, stepA_len, thenV_some, eval_tmp, eval_const, put_some, enterF_zero, enterF_succ, absV_int, aLen_imm, Nat.reduceEqDiff, reduceCtorEq, if_true, if_false, kt_73]
  refine SWp.loopG (α := Nat) (fun x f h' => h' = h ∧ f 3 = .int .i64 0 ∧ f 6 = .imm l.length (i64V l) ∧ f 7 = .int .i64 (l.length : Nat) ∧ f 8 = .int .i64 (x : Nat) ∧ x ≤ l.length ∧ orI l = orI (l.drop x)) (fun x => l.length - x) 0
    ⟨rfl, rfl, rfl, rfl, rfl, Nat.zero_le _, rfl⟩ ?_
  rintro t f h' ⟨rfl, f3, f6, f7, f8, ht, ho⟩
  refine wpI_sound (by kernel_rfl) ?_
  by_cases hlt : t < l.length
  · have d1 : decide ((t : Int) < ((l.length : Nat) : Int)) = true := decide_eq_true (by omega)
    have hw : IntKind.i64.wrap ((t : Int) + 1) = ((t + 1 : Nat) : Int) := by rw [Go.IntWalk.i64_in _ (by omega)]; omega
    have x1 : ∃ r, aIndexAddr Try.prog 73 (.imm l.length (i64V l)) (.int .i64 (t : Int)) = some (.at (.int .i64 l[t] :: r)) := ⟨_, row_ix (V.int .i64) hlt ss_73⟩
    obtain ⟨r, x1⟩ := x1
    rw [List.drop_eq_getElem_cons hlt, orI] at ho
    generalize l[t] = x at x1 ho
    by_cases hx : x = 0
    · have e1 : (x != 0) = false := by simp [hx]
      rw [if_pos hx] at ho
      simp only [wpA_skip, wpA_region, wpA_seq, wpA_cond, wpA_block, condI_true, condI_false, seqQ_normal, blkQ_normal, endI_mk, andThen_normal, goI_out, goI_ops, opsA_nil, opsA_cons, stepA_move, stepA_assign, stepA_load, stepA_binOp, stepA_indexAddr, thenV_some, eval_tmp, eval_const, put_some, aBin_add, aBin_neq, aBin_lss, absV_int, aLoad_eq, loadGo_one, aPlace_at, Nat.reduceEqDiff, if_true, if_false, lt_3, f3, f6, f7, f8, d1, x1, e1, hw]
      exact hid_mk ⟨t + 1, ⟨rfl, f3, f6, f7, rfl, hlt, ho⟩, by omega⟩
    · have e1 : (x != 0) = true := by simp [hx]
      rw [if_neg hx] at ho
      simp only [wpA_skip, wpA_region, wpA_seq, wpA_cond, wpA_block, wpA_ret, condI_true, seqQ_normal, seqQ_ret, blkQ_ret, endI_mk, goE, andThen_ret, goI_out, goI_ops, opsA_nil, opsA_cons, stepA_move, stepA_assign, stepA_load, stepA_binOp, stepA_indexAddr, thenV_some, eval_tmp, put_some, aBin_neq, aBin_lss, aLoad_eq, loadGo_one, aPlace_at, Nat.reduceEqDiff, if_true, if_false, lt_3, f3, f6, f7, f8, d1, x1, e1, retA_ret, Try.results24, resultsA_1]
      exact hid_mk ⟨by rw [ho], Keep.refl _ _⟩
  · have d1 : decide ((t : Int) < ((l.length : Nat) : Int)) = false := decide_eq_false (by omega)
    rw [List.drop_of_length_le (by omega)] at ho
    simp only [wpA_region, wpA_seq, wpA_cond, wpA_exit, wpA_ret, condI_false, seqQ_normal, seqQ_exit, blkQ_exit, endI_mk, goE, andThen_exit, goI_out, goI_ops, opsA_nil, opsA_cons, stepA_move, stepA_assign, stepA_binOp, thenV_some, eval_tmp, put_some, aBin_lss, Nat.reduceEqDiff, if_true, if_false, f3, f7, f8, d1, retA_ret, Try.results24, resultsA_1]
    exact hid_mk ⟨by rw [ho]; rfl, Keep.refl _ _⟩
set_option maxHeartbeats 1000000 in
set_option maxRecDepth 10000 in
theorem byWin (h : AHeap) (a b : Chg) : SCalls Try.prog 19 [.agg (chgE a), .agg (chgE b)] h (fun r h' => r = .int .i64 (orI [cmpI a.fr b.fr, cmpI a.key b.key]) ∧ Keep h h' none_) := by
  refine SCalls.enterI (c := _) Try.func19 rfl (by kernel_rfl) (by simp) ?_
  have cc : ∀ c : Chg, (V.agg (chgE c)).cells = some (chgE c) := fun _ => rfl
  have cl : ∀ c : Chg, (chgE c).length = 5 := chgE_len
  have cd1 : ∀ c : Chg, List.drop 1 (chgE c) = [.int .i64 c.fr, .int .i64 c.to, .int .i64 c.val, .bool c.del] := fun _ => rfl
  have ck0 : ∀ c : Chg, loadGo (some none) (some (chgE c)) = some (.int .i64 c.key) := fun _ => rfl
  simp only [wpA_region, wpA_seq, wpA_draw, seqQ_normal, goI_out, goI_ops, opsA_nil, opsA_cons, stepA_assign, stepA_box, thenH_some, eval_tmp, eval_const, put_some, enterF_zero, enterF_succ, absV_int, aBox_eq, push_n, Nat.reduceEqDiff, Option.map_some, if_false, cc]
  refine SWp.drawnS none_ [10, 11] (.q 0 (.q 1 (.q 2 (.q 3 (.c 4 (.q 5 (.q 6 (.q 7 (.q 8 (.c 9 (.e 10 (.a 11 (.q 12 .done)) .stop))))))))))) (by kernel_rfl) (by kernel_rfl) (by kernel_rfl) ?_
  simp only [siI_q, sqI_some, mOk_none', implies_true, qI_nil, qI_cons, thenQ_some, q_load, q_fieldAddr, goI_mk, eval_tmp, put_some, enterF_succ, aField_eq, fieldGo_ptr, aLoad_eq, loadGo_one, aPlace_ptr, dropC_cells, get_push2, get_push2', List.getElem?_cons_zero, List.getElem?_cons_succ, Nat.reduceEqDiff, Nat.reduceLeDiff, Nat.zero_add, true_and, if_true, if_false, ft_30_1, lt_2, cl, cd1]
  refine siI_c rfl rfl rfl (fun h' _ => cmp64 h' a.fr b.fr) ?_
  simp only [siI_q, sqI_some, mOk_none', implies_true, qI_nil, qI_cons, thenQ_some, q_load, q_fieldAddr, goI_mk, eval_tmp, put_some, enterF_succ, aField_eq, fieldGo_ptr, aLoad_eq, aPlace_ptr, dropC_cells, get_push2, get_push2', List.getElem?_cons_zero, List.getElem?_cons_succ, Nat.reduceEqDiff, Nat.add_zero, Nat.zero_le, List.drop_zero, true_and, if_true, if_false, ft_30_0, lt_2, cl, ck0]
  refine siI_c rfl rfl rfl (fun h' _ => cmp64 h' a.key b.key) ?_
  generalize cmpI a.fr b.fr = x
  generalize cmpI a.key b.key = y
  have lit2 : ∀ H : AHeap, aBuildSlice Try.prog 73 2 [(0, .int .i64 x), (1, .int .i64 y)] H = some (.sl H.n 0 2 2, H.push (.cells (i64V [x, y]) 3 none)) := fun H => by rw [buildSlice_go sl_73]; rfl
  simp only [siI_stop, siI_a, siI_e, saI_some, seI_some, keepT1, goI_ops, goI_mk, opsA_nil, opsA_cons, stepA_buildSlice, stepA_call, thenH_some, eval_tmp, put_some, enterF_succ, push_n, List.getElem?_cons_zero, List.getElem?_cons_succ, Nat.reduceEqDiff, List.map_cons, List.map_nil, and_true, true_and, if_true, if_false, lit2]
  obtain ⟨h2, c2, k2⟩ := Cast.lit (h := (h.push (.cells (chgE a) 30 none)).push (.cells (chgE b) 30 none)) (c := i64V [x, y]) (e := 3) (n := 2) (sz := 1) rfl (by decide) (by decide)
  refine callI_of cal24 (SCalls.args (CastL.cons c2 (CastL.refl _ _)) (cmpOr h2 [x, y] (by simp only [List.length_cons, List.length_nil]; omega))) fun r h3 ⟨e3, e4⟩ => ?_
  subst e3
  simp only [siI_done, siI_q, sqI_some, mOk_none', implies_true, qI_nil, qI_cons, q_assign, wpA_ret, seqQ_normal, endI_mk, goI_out, goI_ops, goI_mk, opsA_nil, eval_tmp, put_some, enterF_succ, List.getElem?_cons_zero, List.getElem?_cons_succ, Bool.false_eq_true, Nat.reduceEqDiff, true_and, if_true, if_false, retA_ret, Try.results19, resultsA_1]
  refine hid_mk ⟨rfl, ?_⟩
  rw [e4]
  exact ((Keep.push _ _ _).then_push _).trans' k2
end Go.Proofs.Ytihgdbelfjdajaa.Pk
