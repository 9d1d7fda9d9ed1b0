/-
  What functions of the program do, told of abstract states. Conditions: as each theorem says.
-/
import Derived.Test.YteegfdinghnoiaaAbD
import Derived.Test.YteegfdinghnoiaaMeL
namespace Go.Proofs.Yteegfdinghnoiaa.Pk
open Go Go.Proofs Go.Proofs.Yteegfdinghnoiaa.Ab
set_option linter.unusedVariables false
set_option linter.unusedSimpArgs false

structure Rec where
  k : Int
  v : Int
  t : Int
  deriving DecidableEq
def recE (r : Rec) : List V := [.int .i64 r.k, .int .i64 r.v, .int .i64 r.t]
theorem recE_len (r : Rec) : (recE r).length = 3 := rfl
theorem recE_one (r : Rec) : (recE r).all (·.one) = true := rfl
theorem recE_clo (r : Rec) : CloL (recE r) := CloL.cons (Clo.int _ _) (CloL.cons (Clo.int _ _) (CloL.cons (Clo.int _ _) CloL.nil))
theorem rec_neq (a b : Rec) {xo yo : Operand} : aBin Try.prog .neq 55 xo yo (.agg (recE a)) (.agg (recE b)) = some (.bool (decide (a ≠ b))) := by
  have h : eqK [0, 0, 0] (recE a) (recE b) = some (decide (a = b)) := by
    simp only [recE, eqK, if_true, Option.map_some, Option.some.injEq]
    rw [Bool.eq_iff_iff]
    simp only [Bool.and_eq_true, beq_iff_eq, decide_eq_true_eq, Bool.and_true]
    constructor
    · rintro ⟨h1, h2, h3⟩; cases a; cases b; simp_all
    · rintro rfl; simp
  rw [aBin_sk_neq sk_55 h]
  simp
def firstR (c : Chg) : Rec := ⟨c.key, c.to, c.fr⟩
def secondR (c : Chg) : Rec := ⟨c.key, c.val, 0⟩
theorem pFirst (c : Chg) (h : AHeap) : Pure Try.prog 43 [.agg (chgE c)] h (.agg (recE (firstR c))) := by
  refine Pure.val (Clo.agg (recE_clo _)) ?_
  refine SCalls.enterI (c := _) Try.func43 rfl (by kernel_rfl) (by simp) ?_
  simp only [wpA_region, wpA_seq, wpA_ret, seqQ_normal, endI_mk, goI_out, goI_ops, opsA_nil, opsA_cons, stepA_alloc, stepA_box, stepA_build, stepA_load, stepA_store, stepA_fieldAddr, thenV_some, thenH_some, thenS_some, eval_tmp, put_some, put_none, enterF_zero, enterF_succ, cells_int, cells_agg, one_int, all_nil, all_cons, aField_eq, fieldGo_ptr, aLoad_eq, loadGo_one, loadGo_row, aPlace_ptr, dropC_cells, aStore_eq, storeGo_ptr, setC_row, setAll_nil, setAll_cons, aAlloc_eq, aBox_eq, aBuild_go, aFill_nil, aFill_cons, fillGo_some, buildGo_struct, push_n, get_push2, get_push2', set_push2, List.getElem?_cons_zero, List.getElem?_cons_succ, Nat.reduceEqDiff, Nat.reduceAdd, Nat.reduceLeDiff, List.map_cons, List.map_nil, Option.map_some, Nat.add_zero, Nat.zero_add, Nat.zero_le, List.length_cons, List.length_nil, List.drop_zero, List.drop_succ_cons, List.take_succ_cons, List.take_nil, List.set_cons_zero, List.set_cons_succ, and_self, if_true, if_false, Bool.and_self, Nat.le_refl, ft_38_0, ft_38_1, ft_38_2, lt_2, lt_55, pl_55, zc_55, zt_55, chgE, retA_ret, Try.results43, resultsC_1, resultA_cell]
  exact hid_mk ⟨rfl, (Keep.push _ _ _).then_push _⟩
theorem pSecond (c : Chg) (h : AHeap) : Pure Try.prog 44 [.agg (chgE c)] h (.agg (recE (secondR c))) := by
  refine Pure.val (Clo.agg (recE_clo _)) ?_
  refine SCalls.enterI (c := _) Try.func44 rfl (by kernel_rfl) (by simp) ?_
  simp only [wpA_region, wpA_seq, wpA_ret, seqQ_normal, endI_mk, goI_out, goI_ops, opsA_nil, opsA_cons, stepA_alloc, stepA_box, stepA_build, stepA_load, stepA_store, stepA_fieldAddr, thenV_some, thenH_some, thenS_some, eval_tmp, put_some, put_none, enterF_zero, enterF_succ, cells_int, cells_agg, one_int, all_nil, all_cons, aField_eq, fieldGo_ptr, aLoad_eq, loadGo_one, loadGo_row, aPlace_ptr, dropC_cells, aStore_eq, storeGo_ptr, setC_row, setAll_nil, setAll_cons, aAlloc_eq, aBox_eq, aBuild_go, aFill_nil, aFill_cons, fillGo_some, buildGo_struct, push_n, get_push2, get_push2', set_push2, List.getElem?_cons_zero, List.getElem?_cons_succ, Nat.reduceEqDiff, Nat.reduceAdd, Nat.reduceLeDiff, List.map_cons, List.map_nil, Option.map_some, Nat.add_zero, Nat.zero_add, Nat.zero_le, List.length_cons, List.length_nil, List.drop_zero, List.drop_succ_cons, List.take_succ_cons, List.take_nil, List.set_cons_zero, List.set_cons_succ, and_self, if_true, if_false, Bool.and_self, Nat.le_refl, ft_38_0, ft_38_3, lt_2, lt_55, pl_55, zc_55, zt_55, chgE, retA_ret, Try.results44, resultsC_1, resultA_cell]
  exact hid_mk ⟨rfl, (Keep.push _ _ _).then_push _⟩
theorem lit2r (h : AHeap) (a b : Rec) : aBuildSlice Try.prog 49 2 [(0, .agg (recE a)), (1, .agg (recE b))] h = some (.sl h.n 0 2 2, h.push (.cells ([a, b].flatMap recE) 55 none)) := by rw [buildSlice_go sl_49]; rfl
theorem lit2t (h : AHeap) (a b : Bool) : aBuildSlice Try.prog 50 2 [(0, .bool a), (1, .bool b)] h = some (.sl h.n 0 2 2, h.push (.cells (boolsV [a, b]) 4 none)) := by rw [buildSlice_go sl_50]; rfl
theorem two_cast {h hb : AHeap} {r : List Rec} {d : List Bool} {i j : Nat} (oa : Own hb 55 3 (.sl i 0 2 2) (r.flatMap recE)) (ob : Own hb 4 1 (.sl j 0 2 2) (boolsV d)) (hr : r.length = 2) (hd : d.length = 2) (hij : i ≠ j) (hk : Keep h hb none_) (hi : h.n ≤ i) (hj : h.n ≤ j) :
    ∃ h2, Cast (.tuple [.sl i 0 2 2, .sl j 0 2 2]) hb (.tuple [.imm 2 (r.flatMap recE), .imm 2 (boolsV d)]) h2 ∧ Keep h h2 none_ := by
  obtain ⟨h2, c, k⟩ := Acc.cast2 (n := 2) (m := 2) ⟨oa, hk, fun k hk => by simp [idOf] at hk; omega⟩ ⟨ob, hk, fun k hk => by simp [idOf] at hk; omega⟩ (fun k h1 h2 => by simp [idOf] at h1 h2; omega) (by rw [rows_len recE_len, hr]) (by rw [boolsV_length, hd]) (by omega) (by omega)
  exact ⟨h2, Cast.tuple c, k⟩
theorem pRecords (c : Chg) (h : AHeap) : Pure Try.prog 18 [.agg (chgE c)] h (.tuple [.imm 2 ([firstR c, secondR c].flatMap recE), .imm 2 (boolsV [false, c.del])]) := by
  refine Pure.of (Clo.tuple (CloL.cons (Clo.imm (rows_clo recE_clo _)) (CloL.cons (Clo.imm (boolsV_clo _)) CloL.nil))) ?_
  refine SCalls.enterI (c := _) Try.func18 rfl (by kernel_rfl) (by simp) ?_
  have hl : loadGo (some (some 5)) (some (chgE c)) = some (.agg (chgE c)) := rfl
  have hc : (V.agg (chgE c)).cells = some (chgE c) := rfl
  have hd : ∀ i, fieldGo (some 4) (.ptr i 0) = some (.ptr i 4) := fun _ => rfl
  have hb : ∀ h : AHeap, dropC ((h.push (.cells (chgE c) 38 none)).get h.n) 4 = some [.bool c.del] := fun h => by rw [get_push_new]; rfl
  simp only [wpA_region, wpA_seq, wpA_draw, seqQ_normal, goI_out, goI_ops, opsA_nil, opsA_cons, stepA_assign, stepA_box, thenH_some, eval_tmp, eval_const, enterF_zero, absV_snil, aBox_eq, Option.map_some, hc]
  refine SWp.drawnS none_ [4, 7] (.q 0 (.c 1 (.q 2 (.c 3 (.q 5 (.q 6 (.e 4 (.q 8 (.e 7 (.q 9 .done) .stop)) (.e 7 (.e 4 (.q 8 (.q 9 .done)) .stop) .stop)))))))) (by kernel_rfl) (by kernel_rfl) (by kernel_rfl) ?_
  have h0 : dropC (AObj.cells (chgE c) 38 none) 0 = some (chgE c) := rfl
  have h4 : dropC (AObj.cells (chgE c) 38 none) 4 = some [.bool c.del] := rfl
  simp only [siI_q, sqI_some, mOk_none', implies_true, qI_nil, qI_cons, thenQ_some, q_load, goI_mk, eval_tmp, put_some, enterF_succ, aLoad_eq, aPlace_ptr, get_push_new, List.getElem?_cons_zero, Nat.reduceEqDiff, true_and, if_true, if_false, lt_38, h0, hl]
  refine siI_c rfl rfl rfl (fun h' _ => pFirst c h') ?_
  simp only [siI_q, sqI_some, mOk_none', implies_true, qI_nil, qI_cons, thenQ_some, q_load, goI_mk, eval_tmp, put_some, enterF_succ, aLoad_eq, aPlace_ptr, get_push_new, List.getElem?_cons_zero, List.getElem?_cons_succ, Nat.reduceEqDiff, true_and, if_true, if_false, lt_38, h0, hl]
  refine siI_c rfl rfl rfl (fun h' _ => pSecond c h') ?_
  simp only [siI_done, siI_stop, siI_q, siI_e, sqI_some, seI_some, mOk_none', keepT1, keepT2, implies_true, qI_nil, qI_cons, thenQ_some, q_assign, q_load, q_fieldAddr, wpA_ret, seqQ_normal, endI_mk, goI_out, goI_ops, goI_mk, opsA_nil, opsA_cons, stepA_buildSlice, thenH_some, eval_tmp, eval_const, put_some, enterF_succ, absV_bool, aField_eq, fieldGo_ptr, aLoad_eq, loadGo_one, aPlace_ptr, push_n, get_push_new, List.getElem?_cons_zero, List.getElem?_cons_succ, Bool.false_eq_true, Nat.reduceEqDiff, List.map_cons, List.map_nil, Nat.zero_add, and_true, true_and, if_true, if_false, ft_38_4, lt_4, h4, lit2r, lit2t, retA_ret, Try.results18, resultsA_2]
  have k1 : Keep h (h.push (.cells (chgE c) 38 none)) none_ := Keep.push _ _ _
  have kk : ∀ a b, Keep h (((h.push (.cells (chgE c) 38 none)).push a).push b) none_ := fun a b => (k1.then_push _).then_push _
  have oR : ∀ (hh : AHeap), Own (hh.push (.cells ([firstR c, secondR c].flatMap recE) 55 none)) 55 3 (.sl hh.n 0 2 2) ([firstR c, secondR c].flatMap recE) := fun hh => Own.fresh' _ 2 rfl (by decide)
  have oB : ∀ (hh : AHeap), Own (hh.push (.cells (boolsV [false, c.del]) 4 none)) 4 1 (.sl hh.n 0 2 2) (boolsV [false, c.del]) := fun hh => Own.fresh' _ 2 rfl (by decide)
  refine ⟨hid_mk ?_, hid_mk ?_⟩
  · exact two_cast (h := h) ((oR (h.push (.cells (chgE c) 38 none))).keepN (Keep.push _ _ _)) (oB _) rfl rfl (by omega) (kk _ _) (by omega) (by omega)
  · exact two_cast (h := h) (oR _) ((oB (h.push (.cells (chgE c) 38 none))).keepN (Keep.push _ _ _)) rfl rfl (by omega) (kk _ _) (by omega) (by omega)
end Go.Proofs.Yteegfdinghnoiaa.Pk
namespace Go.Proofs.Yteegfdinghnoiaa.Pk
open Go Go.Proofs Go.Proofs.Yteegfdinghnoiaa.Ab
set_option linter.unusedVariables false
set_option linter.unusedSimpArgs false

/-- The changes of pairs of records, if they are some. -/
def chgs : List Rec → List Bool → Option (List Chg)
  | [], [] => some []
  | a :: b :: r, d :: e :: s => if d = true ∨ a.k ≠ b.k ∨ b.t ≠ 0 then none else (chgs r s).map fun l => ⟨a.k, a.t, a.v, b.v, e⟩ :: l
  | _, _ => none
theorem chgs_len : ∀ (r : List Rec) (d : List Bool), r.length ≠ d.length ∨ r.length % 2 = 1 → chgs r d = none
  | [], [], h => by simp at h
  | [], d :: s, _ => rfl
  | [a], [], _ => rfl
  | [a], [d], _ => rfl
  | [a], d :: e :: s, _ => rfl
  | a :: b :: r, [], _ => rfl
  | a :: b :: r, [d], _ => rfl
  | a :: b :: r, d :: e :: s, h => by
    unfold chgs
    split
    · rfl
    · rw [chgs_len r s (by simp only [List.length_cons] at h; omega)]; rfl
def outC (o : Option (List Chg)) : V := match o with
  | some l => .tuple [.imm l.length (l.flatMap chgE), .int .i64 0]
  | none => .tuple [.imm 0 [], .int .i64 5]
theorem outC_clo (o : Option (List Chg)) : Clo (outC o) := by
  cases o with
  | none => exact Clo.tuple (CloL.cons (Clo.imm CloL.nil) (CloL.cons (Clo.int _ _) CloL.nil))
  | some l => exact Clo.tuple (CloL.cons (Clo.imm (rows_clo chgE_clo _)) (CloL.cons (Clo.int _ _) CloL.nil))
theorem nil_cast (h : AHeap) (l : List V) : Cast (.tuple (.snil :: l)) h (.tuple (.imm 0 [] :: l)) h := fun ρ B w0 w r' hw hv => by
  cases hv with
  | tuple hs hx =>
    refine ⟨ρ, Ren.le.refl ρ, hw, .tuple hs fun k v v' a b => ?_⟩
    match k with
    | 0 =>
      simp at a
      subst a
      have := hx 0 .snil v' rfl b
      cases this
      exact .immZ _ _ (by simp)
    | k + 1 => exact hx (k + 1) v v' (by simpa using a) b
theorem rec_ix {l : List Rec} {k : Nat} (hk : k < l.length) {kk : IntKind} : aIndexAddr Try.prog 49 (.imm l.length (l.flatMap recE)) (.int kk (k : Int)) = some (.at (recE l[k] ++ (l.drop (k + 1)).flatMap recE)) := rows_ix recE_len hk ss_49
theorem two_drop {α : Type} {l : List α} {i : Nat} (h : i + 1 < l.length) : l.drop i = l[i] :: l[i + 1] :: l.drop (i + 2) := by
  rw [List.drop_eq_getElem_cons (by omega), List.drop_eq_getElem_cons h]

set_option maxRecDepth 10000 in
theorem pChanges (r : List Rec) (d : List Bool) (h : AHeap) (hr : r.length * 24 ≤ 2 ^ 47) (hd : d.length ≤ 2 ^ 47) : Pure Try.prog 38 [.imm r.length (r.flatMap recE), .imm d.length (boolsV d)] h (outC (chgs r d)) := by
  refine Pure.of (outC_clo _) ?_
  refine SCalls.enterI (c := _) Try.func38 rfl (by kernel_rfl) (by simp) ?_
  by_cases hne : r.length = d.length
  rotate_left
  · have c1 : (((r.length : Nat) : Int) != ((d.length : Nat) : Int)) = true := by simp; omega
    have hG := chgs_len r d (.inl hne)
    simp only [wpA_region, wpA_seq, wpA_cond, wpA_ret, condI_true, seqQ_normal, seqQ_ret, endI_mk, goI_out, goI_ops, opsA_nil, opsA_cons, opsA_guardS, gvI_tf, slotAt_zero, slotAt_succ, stepA_move, stepA_assign, stepA_pick, stepA_binOp, stepA_len, thenV_some, pickV_true, eval_tmp, eval_const, put_some, enterF_zero, enterF_succ, aBin_neq, absV_int, absV_bool, absV_snil, aLen_imm, Nat.reduceEqDiff, reduceCtorEq, if_true, if_false, kt_49, kt_50, c1, retA_ret, Try.results38, resultsA_2]
    exact hid_mk ⟨_, by rw [hG]; exact nil_cast _ _, Keep.refl _ _⟩
  have c1 : (((r.length : Nat) : Int) != ((d.length : Nat) : Int)) = false := by simp [hne]
  by_cases hodd : r.length % 2 = 1
  · have c2 : (((r.length : Nat) : Int).tmod 2 != 0) = true := by rw [Int.tmod_eq_emod_of_nonneg (by omega)]; simp; omega
    have hG := chgs_len r d (.inr hodd)
    simp only [wpA_region, wpA_seq, wpA_cond, wpA_ret, condI_true, seqQ_normal, seqQ_ret, endI_mk, goI_out, goI_ops, opsA_nil, opsA_cons, opsA_guardS, gvI_same, slotAt_zero, slotAt_succ, stepA_move, stepA_assign, stepA_pick, stepA_binOp, stepA_len, thenV_some, pickV_false, eval_tmp, eval_const, put_some, enterF_zero, enterF_succ, aBin_neq, absV_int, absV_bool, absV_snil, aLen_imm, Nat.reduceEqDiff, reduceCtorEq, if_true, if_false, kt_49, kt_50, c1, aBin_rem (show (2 : Int) ≠ 0 by decide), c2, retA_ret, Try.results38, resultsA_2]
    exact hid_mk ⟨_, by rw [hG]; exact nil_cast _ _, Keep.refl _ _⟩
  have c2 : (((r.length : Nat) : Int).tmod 2 != 0) = false := by rw [Int.tmod_eq_emod_of_nonneg (by omega)]; simp; omega
  simp only [wpA_skip, wpA_region, wpA_seq, wpA_cond, wpA_block, wpA_loop, condI_false, seqQ_normal, goI_out, goI_ops, opsA_nil, opsA_cons, opsA_guardS, gvI_same, slotAt_zero, slotAt_succ, stepA_move, stepA_assign, stepA_pick, stepA_binOp, stepA_len, thenV_some, pickV_false, eval_tmp, eval_const, put_some, enterF_zero, enterF_succ, aBin_neq, absV_int, absV_bool, absV_snil, aLen_imm, Nat.reduceEqDiff, reduceCtorEq, if_true, if_false, kt_49, kt_50, c1, aBin_rem (show (2 : Int) ≠ 0 by decide), c2]
  refine SWp.loopG (α := V × Nat × List Chg) (fun x f h' => f 0 = .imm r.length (r.flatMap recE) ∧ f 1 = .imm d.length (boolsV d) ∧ f 6 = x.1 ∧ f 7 = .int .i64 (2 * x.2.1 : Nat) ∧ Acc h h' 38 5 x.1 (x.2.2.flatMap chgE) ∧ x.2.2.length = x.2.1 ∧ 2 * x.2.1 ≤ r.length ∧ chgs r d = (chgs (r.drop (2 * x.2.1)) (d.drop (2 * x.2.1))).map (x.2.2 ++ ·)) (fun x => r.length - x.2.1) (.snil, 0, [])
    ⟨rfl, rfl, rfl, rfl, Acc.nil (Keep.refl _ _), rfl, Nat.zero_le _, by simp⟩ ?_
  rintro ⟨v, i, acc⟩ f h1 ⟨f0, f1, f6, f7, a1, hl, hi, hG⟩
  simp only at f6 f7 a1 hl hi hG
  refine wpI_sound (by kernel_rfl) ?_
  by_cases hlt : 2 * i < r.length
  rotate_left
  · have c3 : decide (((2 * i : Nat) : Int) < ((r.length : Nat) : Int)) = false := by simp only [decide_eq_false_iff_not]; omega
    rw [List.drop_of_length_le (by omega), List.drop_of_length_le (by omega)] at hG
    simp only [chgs, Option.map_some, List.append_nil] at hG
    obtain ⟨h2, c, k⟩ := a1.cast (n := acc.length) (rows_len chgE_len acc) (by omega)
    simp only [wpA_region, wpA_seq, wpA_cond, wpA_exit, wpA_ret, condI_false, seqQ_normal, seqQ_exit, blkQ_exit, endI_mk, goE, andThen_exit, goI_out, goI_ops, opsA_nil, opsA_cons, stepA_move, stepA_assign, stepA_binOp, stepA_len, thenV_some, eval_tmp, eval_const, put_some, aBin_lss, absV_int, aLen_imm, Nat.reduceEqDiff, reduceCtorEq, if_true, if_false, kt_49, f0, f6, f7, c3, retA_ret, Try.results38, resultsA_2]
    exact hid_mk ⟨h2, by rw [hG]; exact Cast.tuple (CastL.cons c (CastL.refl _ _)), k⟩
  · have c3 : decide (((2 * i : Nat) : Int) < ((r.length : Nat) : Int)) = true := by simp only [decide_eq_true_eq]; omega
    have hl1 : 2 * i + 1 < r.length := by omega
    have hd1 : 2 * i + 1 < d.length := by omega
    have w1 : IntKind.i64.wrap (((2 * i : Nat) : Int) + 1) = ((2 * i + 1 : Nat) : Int) := by rw [Go.IntWalk.i64_in _ (by omega)]; omega
    have w2 : IntKind.i64.wrap (((2 * i : Nat) : Int) + 2) = ((2 * (i + 1) : Nat) : Int) := by rw [Go.IntWalk.i64_in _ (by omega)]; omega
    have lr : ∀ (x : Rec) (q : List V), loadGo (some (some 3)) (some (recE x ++ q)) = some (.agg (recE x)) := fun x q => load_row (recE_len x)
    rw [two_drop hl1, two_drop hd1] at hG
    have x0 := rec_ix (kk := .i64) (show 2 * i < r.length by omega)
    have x1 := rec_ix (kk := .i64) hl1
    have y0 := boolsV_ix (P := Try.prog) (kk := .i64) (show 2 * i < d.length by omega) ss_50
    have y1 := boolsV_ix (P := Try.prog) (kk := .i64) hd1 ss_50
    generalize r[2 * i] = A at *
    generalize r[2 * i + 1] = B at *
    generalize d[2 * i] = D at *
    generalize d[2 * i + 1] = E at *
    simp only [wpA_skip, wpA_region, wpA_seq, wpA_cond, wpA_block, wpA_draw, condI_true, seqQ_normal, goI_out, goI_ops, opsA_nil, opsA_cons, stepA_move, stepA_binOp, stepA_len, thenV_some, eval_tmp, put_some, aBin_lss, aLen_imm, Nat.reduceEqDiff, reduceCtorEq, if_true, if_false, kt_49, f0, f7, c3]
    refine SWp.cut (fun f' h' => ∃ p q, p ≠ q ∧ p < h'.n ∧ q < h'.n ∧ f' 0 = .imm r.length (r.flatMap recE) ∧ f' 1 = .imm d.length (boolsV d) ∧ f' 6 = v ∧ f' 7 = .int .i64 (2 * i : Nat) ∧ f' 8 = .ptr p 0 ∧ f' 9 = .ptr q 0 ∧ h'.get p = .cells (recE A) 55 none ∧ h'.get q = .cells (recE B) 55 none ∧ Acc h h' 38 5 v (acc.flatMap chgE)) ?_ ?_
    · refine SWp.drawnS none_ [9, 10, 11, 12] (.q 0 (.q 1 (.q 2 (.q 3 (.q 4 (.q 5 (.q 6 (.q 7 (.q 8 (.e 9 (.e 10 (.e 11 (.a 12 .done) .stop) .stop) (.e 10 (.e 9 (.e 11 (.a 12 .done) .stop) .stop) .stop))))))))))) (by kernel_rfl) (by kernel_rfl) (by kernel_rfl) ?_
      have hone : ∀ x : Rec, (V.agg (recE x)).cells = some (recE x) := fun _ => rfl
      have hset : ∀ (x : Rec), setC (some 3) (AObj.cells [.int .i64 0, .int .i64 0, .int .i64 0] 55 none) 0 (recE x) = some (.cells (recE x) 55 none) := fun x => by
        rw [setC_row (n := 3) (recE_len x) (recE_one x), if_pos (by decide)]; rfl
      simp only [siI_done, siI_stop, siI_q, siI_a, siI_e, sqI_some, saI_some, seI_some, mOk_none', keepT1, keepT2, implies_true, qI_nil, qI_cons, thenQ_some, q_move, q_load, q_binOp, q_indexAddr, endI_mk, goI_out, goI_ops, goI_mk, opsA_nil, opsA_cons, stepA_alloc, stepA_store, thenH_some, thenS_some, eval_tmp, eval_const, put_some, put_none, aBin_add, absV_int, aLoad_eq, aPlace_at, aStore_eq, storeGo_ptr, aAlloc_eq, push_n, get_push2, get_push2', set_push2, set_push2', List.getElem?_cons_zero, List.getElem?_cons_succ, Nat.reduceEqDiff, reduceCtorEq, Option.map_some, and_true, true_and, if_true, if_false, lt_55, zc_55, zt_55, f0, f7, w1, x0, x1, lr, hone, hset]
      have aR : ∀ a b : AObj, Acc h ((h1.push a).push b) 38 5 v (acc.flatMap chgE) := fun a b => (a1.on (Keep.push _ _ _)).on (Keep.push _ _ _)
      refine ⟨hid_mk ⟨rfl, h1.n, h1.n + 1, by omega, by simp only [push_n]; omega, by simp only [push_n]; omega, f0, f1, f6, f7, rfl, rfl, get_push2', get_push2, aR _ _⟩,
        hid_mk ⟨rfl, h1.n + 1, h1.n, by omega, by simp only [push_n]; omega, by simp only [push_n]; omega, f0, f1, f6, f7, rfl, rfl, get_push2, get_push2', aR _ _⟩⟩
    · rintro f h2 ⟨p, q, hpq, hp, hq, f0, f1, f6, f7, f8, f9, gp, gq, a2⟩
      simp only [wpA_seq, wpA_draw, seqQ_normal]
      refine SWp.drawnS none_ [14, 15] (.q 0 (.q 1 (.q 2 (.q 3 (.q 4 (.q 5 (.q 6 (.q 7 (.q 8 (.q 9 (.q 10 (.q 11 (.q 12 (.q 13 (.e 14 (.a 15 .done) .stop))))))))))))))) (by kernel_rfl) (by kernel_rfl) (by kernel_rfl) ?_
      simp only [siI_done, siI_stop, siI_q, siI_a, siI_e, sqI_some, saI_some, seI_some, mOk_none', keepT1, implies_true, qI_nil, qI_cons, thenQ_some, q_move, q_load, q_build, q_binOp, q_fieldAddr, q_indexAddr, wpA_seq, wpA_draw, seqQ_normal, goI_out, goI_ops, goI_mk, opsA_nil, opsA_cons, stepA_alloc, stepA_store, thenH_some, thenS_some, eval_tmp, eval_const, put_some, aBin_add, absV_int, cells_int, cells_bool, cells_agg, one_int, one_bool, all_nil, all_cons, aField_eq, fieldGo_ptr, aLoad_eq, loadGo_one, aPlace_ptr, aPlace_at, dropC_cells, aStore_eq, storeGo_ptr, setC_row, setAll_nil, setAll_cons, aAlloc_eq, aBuild_go, aFill_nil, aFill_cons, fillGo_some, buildGo_struct, get_push_new, set_push, List.getElem?_cons_zero, List.getElem?_cons_succ, Nat.reduceEqDiff, Nat.reduceAdd, Nat.reduceLeDiff, List.map_cons, List.map_nil, Option.map_some, Nat.add_zero, Nat.zero_add, Nat.zero_le, List.length_cons, List.length_nil, List.drop_zero, List.drop_succ_cons, List.set_cons_zero, List.set_cons_succ, and_true, true_and, and_self, if_true, if_false, Bool.and_self, Nat.le_refl, ft_55_0, ft_55_1, ft_55_2, lt_2, lt_4, pl_38, zc_38, zt_38, f1, f7, f8, f9, gp, gq, recE, w1, y1]
      generalize hX : (AObj.cells [.int .i64 A.k, .int .i64 A.t, .int .i64 A.v, .int .i64 B.v, .bool E] 38 none) = X
      have gq3 : (h2.push X).get q = .cells (recE B) 55 none := by rw [get_push_lt hq]; exact gq
      have gc3 : (h2.push X).get h2.n = .cells (chgE ⟨A.k, A.t, A.v, B.v, E⟩) 38 none := by rw [get_push_new, ← hX]; rfl
      have a3 : Acc h (h2.push X) 38 5 v (acc.flatMap chgE) := a2.on (Keep.push _ _ _)
      have n3 : h2.n < (h2.push X).n := by rw [push_n]; omega
      generalize h2.push X = h3 at gq3 gc3 a3 n3 ⊢
      have lq : loadGo (some (some 3)) (some (recE B)) = some (.agg (recE B)) := rfl
      have lc : loadGo (some (some 5)) (some (chgE ⟨A.k, A.t, A.v, B.v, E⟩)) = some (.agg (chgE ⟨A.k, A.t, A.v, B.v, E⟩)) := rfl
      generalize hC : (⟨A.k, A.t, A.v, B.v, E⟩ : Chg) = C at gc3 lc
      have hkey : (decide (B ≠ secondR C) = true) ↔ (A.k ≠ B.k ∨ B.t ≠ 0) := by
        subst hC
        rw [decide_eq_true_iff]
        constructor
        · intro hh
          by_cases h1 : A.k = B.k
          · right
            intro h2
            exact hh (by cases B; simp_all [secondR])
          · exact .inl h1
        · intro hh h2
          rw [h2] at hh
          simp [secondR] at hh
      by_cases hD : D = true
      · subst hD
        have hN : chgs r d = none := by rw [hG, chgs, if_pos (.inl rfl)]; rfl
        refine SWp.drawnS none_ [] (.q 0 (.q 1 (.q 2 (.q 3 (.q 4 (.q 5 (.q 6 (.c 7 (.q 8 (.q 9 .done)))))))))) (by kernel_rfl) (by kernel_rfl) (by kernel_rfl) ?_
        simp only [siI_q, sqI_some, mOk_none', implies_true, qI_nil, qI_cons, qI_guard, qgI_tf, thenQ_some, q_move, q_load, q_indexAddr, goI_mk, slotAt_zero, slotAt_succ, eval_tmp, put_some, put_none, aLoad_eq, loadGo_one, aPlace_at, List.getElem?_cons_zero, List.getElem?_cons_succ, Nat.reduceEqDiff, true_and, if_true, if_false, lt_4, f1, f7, y0]
        refine siI_cskip rfl rfl ?_
        simp only [siI_done, siI_q, sqI_some, mOk_none', implies_true, qI_nil, qI_cons, qI_guard, qgI_tf, thenQ_some, q_pick, wpA_region, wpA_seq, wpA_cond, wpA_ret, condI_true, seqQ_normal, seqQ_ret, blkQ_ret, endI_mk, goE, andThen_ret, goI_out, goI_ops, goI_mk, opsA_nil, opsA_cons, slotAt_zero, slotAt_succ, stepA_assign, pickV_true, eval_tmp, eval_const, put_some, put_none, absV_int, absV_bool, absV_snil, List.getElem?_cons_zero, List.getElem?_cons_succ, Nat.reduceEqDiff, true_and, if_true, if_false, retA_ret, Try.results38, resultsA_2]
        exact hid_mk ⟨_, by rw [hN]; exact nil_cast _ _, a3.keep⟩
      · have hD' : D = false := by simpa using hD
        subst hD'
        refine SWp.drawnS none_ [] (.q 0 (.q 1 (.q 2 (.q 3 (.q 4 (.q 5 (.q 6 (.c 7 (.q 8 (.q 9 .done)))))))))) (by kernel_rfl) (by kernel_rfl) (by kernel_rfl) ?_
        simp only [siI_q, sqI_some, mOk_none', implies_true, qI_nil, qI_cons, qI_guard, qgI_same, thenQ_some, q_move, q_load, q_indexAddr, goI_mk, slotAt_zero, slotAt_succ, eval_tmp, put_some, put_none, aLoad_eq, loadGo_one, aPlace_ptr, aPlace_at, dropC_cells, List.getElem?_cons_zero, List.getElem?_cons_succ, Nat.reduceEqDiff, Nat.zero_le, List.drop_zero, true_and, if_true, if_false, lt_38, lt_4, lt_55, f1, f7, f9, y0, gq3, gc3, lq, lc]
        refine siI_c rfl rfl rfl (fun h' _ => pSecond C h') ?_
        by_cases hk : (A.k ≠ B.k ∨ B.t ≠ 0)
        · have hb := hkey.2 hk
          have hN : chgs r d = none := by rw [hG, chgs, if_pos (.inr hk)]; rfl
          simp only [siI_done, siI_q, sqI_some, mOk_none', implies_true, qI_nil, qI_cons, qI_guard, qgI_same, thenQ_some, q_pick, q_binOp, wpA_region, wpA_seq, wpA_cond, wpA_ret, condI_true, seqQ_normal, seqQ_ret, blkQ_ret, endI_mk, goE, andThen_ret, goI_out, goI_ops, goI_mk, opsA_nil, opsA_cons, slotAt_zero, slotAt_succ, stepA_assign, pickV_false, eval_tmp, eval_const, put_some, put_none, absV_int, absV_bool, absV_snil, List.getElem?_cons_zero, List.getElem?_cons_succ, Nat.reduceEqDiff, true_and, if_true, if_false, rec_neq, hb, retA_ret, Try.results38, resultsA_2]
          exact hid_mk ⟨_, by rw [hN]; exact nil_cast _ _, a3.keep⟩
        · have hb : decide (B ≠ secondR C) = false := by
            cases hd : decide (B ≠ secondR C) with
            | false => rfl
            | true => exact absurd (hkey.1 hd) hk
          rw [chgs, if_neg (by simpa using hk), hC] at hG
          have hal : (acc.flatMap chgE).length = acc.length * 5 := rows_len chgE_len acc
          obtain ⟨v4, h4, q4, a4⟩ := a3.elemM (P := Try.prog) (t := 34) (T := ⟨38, [.int .i64 0, .int .i64 0, .int .i64 0, .int .i64 0, .bool false], 5, 40⟩) sl_34 (by decide) (xs := chgE C) rfl (chgE_one C) (fun m hm => by
            have hm' : m * 5 = (acc.flatMap chgE).length + 5 := hm
            rw [hal] at hm'
            show m * 40 ≤ lim ∧ m ≤ lim
            unfold lim
            omega)
          simp only [siI_done, siI_q, sqI_some, mOk_none', implies_true, qI_nil, qI_cons, qI_guard, qgI_same, thenQ_some, q_pick, q_binOp, wpA_skip, wpA_region, wpA_cond, condI_false, seqQ_normal, blkQ_normal, endI_mk, andThen_normal, goI_out, goI_ops, goI_mk, opsA_nil, opsA_cons, slotAt_zero, slotAt_succ, stepA_move, stepA_assign, stepA_buildSlice, stepA_load, stepA_binOp, stepA_append, thenV_some, thenH_some, pickV_false, eval_tmp, eval_const, put_some, put_none, aBin_add, absV_int, absV_bool, aLoad_eq, aPlace_ptr, dropC_cells, List.getElem?_cons_zero, List.getElem?_cons_succ, Nat.reduceEqDiff, List.map_cons, List.map_nil, Nat.zero_le, List.drop_zero, true_and, if_true, if_false, lt_38, f6, f7, gc3, lc, rec_neq, hb, lit1c, q4, w2]
          refine hid_mk ⟨(v4, i + 1, acc ++ [C]), ⟨f0, f1, rfl, rfl, a4.conv (by simp), by simp only [List.length_append, List.length_cons, List.length_nil]; omega, by simp only; omega, ?_⟩, by simp only; omega⟩
          rw [hG, Option.map_map, show 2 * i + 2 = 2 * (i + 1) by omega]
          simp [Function.comp_def]
end Go.Proofs.Yteegfdinghnoiaa.Pk
namespace Go.Proofs.Yteegfdinghnoiaa.Pk
open Go Go.Proofs Go.Proofs.Yteegfdinghnoiaa.Ab
set_option linter.unusedVariables false
set_option linter.unusedSimpArgs false

end Go.Proofs.Yteegfdinghnoiaa.Pk
namespace Go.Proofs.Yteegfdinghnoiaa.Pk
open Go Go.Proofs Go.Proofs.Yteegfdinghnoiaa.Ab
set_option linter.unusedVariables false
set_option linter.unusedSimpArgs false

set_option maxRecDepth 10000 in
theorem pRecsEq (a b : List Rec) (h : AHeap) (ha : a.length ≤ 2 ^ 61) : Pure Try.prog 19 [.imm a.length (a.flatMap recE), .imm b.length (b.flatMap recE)] h (.bool (decide (a = b))) := by
  refine Pure.val (Clo.bool _) ?_
  refine SCalls.enterI (c := _) Try.func19 rfl (by kernel_rfl) (by simp) ?_
  by_cases hne : a.length = b.length
  rotate_left
  · have c1 : (((a.length : Nat) : Int) != ((b.length : Nat) : Int)) = true := by simp; omega
    have hG : decide (a = b) = false := by simp only [decide_eq_false_iff_not]; rintro rfl; exact hne rfl
    simp only [wpA_region, wpA_seq, wpA_cond, wpA_ret, condI_true, seqQ_normal, seqQ_ret, endI_mk, goI_out, goI_ops, opsA_nil, opsA_cons, stepA_move, stepA_assign, stepA_binOp, stepA_len, thenV_some, eval_tmp, eval_const, put_some, enterF_zero, enterF_succ, aBin_neq, absV_bool, aLen_imm, Nat.reduceEqDiff, reduceCtorEq, if_true, if_false, kt_49, c1, retA_ret, Try.results19, resultsA_1]
    exact hid_mk ⟨by rw [hG], Keep.refl _ _⟩
  have c1 : (((a.length : Nat) : Int) != ((b.length : Nat) : Int)) = false := by simp [hne]
  simp only [wpA_skip, wpA_region, wpA_seq, wpA_cond, wpA_block, wpA_loop, condI_false, seqQ_normal, goI_out, goI_ops, opsA_nil, opsA_cons, stepA_move, stepA_assign, stepA_binOp, stepA_len, thenV_some, eval_tmp, eval_const, put_some, enterF_zero, enterF_succ, aBin_neq, absV_int, absV_bool, aLen_imm, Nat.reduceEqDiff, reduceCtorEq, if_true, if_false, kt_49, c1]
  refine SWp.loopG (α := Nat) (fun i f h' => f 0 = .imm a.length (a.flatMap recE) ∧ f 1 = .imm b.length (b.flatMap recE) ∧ f 5 = .int .i64 (i : Nat) ∧ Keep h h' none_ ∧ i ≤ a.length ∧ a.take i = b.take i) (fun i => a.length - i) 0
    ⟨rfl, rfl, rfl, Keep.refl _ _, Nat.zero_le _, rfl⟩ ?_
  rintro i f h1 ⟨f0, f1, f5, k1, hi, hT⟩
  refine wpI_sound (by kernel_rfl) ?_
  by_cases hlt : i < a.length
  rotate_left
  · have c3 : decide ((i : Int) < ((a.length : Nat) : Int)) = false := by simp only [decide_eq_false_iff_not]; omega
    rw [List.take_of_length_le (by omega), List.take_of_length_le (by omega)] at hT
    simp only [wpA_region, wpA_seq, wpA_cond, wpA_exit, wpA_ret, condI_false, seqQ_normal, seqQ_exit, blkQ_exit, endI_mk, goE, andThen_exit, goI_out, goI_ops, opsA_nil, opsA_cons, stepA_move, stepA_assign, stepA_binOp, stepA_len, thenV_some, eval_tmp, eval_const, put_some, aBin_lss, absV_bool, aLen_imm, Nat.reduceEqDiff, reduceCtorEq, if_true, if_false, kt_49, f0, f5, c3, retA_ret, Try.results19, resultsA_1]
    exact hid_mk ⟨by rw [hT]; simp, k1⟩
  · have c3 : decide ((i : Int) < ((a.length : Nat) : Int)) = true := by simp only [decide_eq_true_eq]; omega
    have hltb : i < b.length := by omega
    have w1 : IntKind.i64.wrap ((i : Int) + 1) = ((i + 1 : Nat) : Int) := inc64 hlt (by omega)
    have x0 := rec_ix (kk := .i64) hlt
    have x1 := rec_ix (kk := .i64) hltb
    have lr : ∀ (x : Rec) (q : List V), loadGo (some (some 3)) (some (recE x ++ q)) = some (.agg (recE x)) := fun x q => load_row (recE_len x)
    by_cases heq : a[i] = b[i]
    · have hT' : a.take (i + 1) = b.take (i + 1) := by rw [List.take_succ_eq_append_getElem hlt, List.take_succ_eq_append_getElem hltb, hT, heq]
      simp only [wpA_skip, wpA_region, wpA_seq, wpA_cond, wpA_block, wpA_draw, condI_true, seqQ_normal, goI_out, goI_ops, opsA_nil, opsA_cons, stepA_move, stepA_binOp, stepA_len, thenV_some, eval_tmp, put_some, aBin_lss, aLen_imm, Nat.reduceEqDiff, reduceCtorEq, if_true, if_false, kt_49, f0, f5, c3]
      generalize a[i] = A at *
      generalize b[i] = B at *
      subst heq
      have n1 : ∀ xo yo, aBin Try.prog .neq 55 xo yo (.agg (recE A)) (.agg (recE A)) = some (.bool false) := fun xo yo => by rw [rec_neq]; simp
      refine SWp.drawnS none_ [] (.q 0 (.q 1 (.q 2 (.q 3 (.q 4 (.q 5 (.q 6 (.q 7 (.q 8 .done))))))))) (by kernel_rfl) (by kernel_rfl) (by kernel_rfl) ?_
      simp only [siI_done, siI_q, sqI_some, mOk_none', implies_true, qI_nil, qI_cons, thenQ_some, q_move, q_load, q_binOp, q_indexAddr, wpA_skip, wpA_region, wpA_cond, condI_false, seqQ_normal, blkQ_normal, endI_mk, andThen_normal, goI_out, goI_ops, goI_mk, opsA_nil, opsA_cons, stepA_move, stepA_assign, stepA_binOp, thenV_some, eval_tmp, eval_const, put_some, aBin_add, absV_int, aLoad_eq, aPlace_at, List.getElem?_cons_zero, List.getElem?_cons_succ, Nat.reduceEqDiff, reduceCtorEq, true_and, if_true, if_false, lt_55, f0, f1, f5, x0, x1, n1, lr, w1]
      exact hid_mk ⟨i + 1, ⟨f0, f1, rfl, k1, by omega, hT'⟩, by omega⟩
    · have hG : decide (a = b) = false := by simp only [decide_eq_false_iff_not]; rintro rfl; exact heq rfl
      simp only [wpA_skip, wpA_region, wpA_seq, wpA_cond, wpA_block, wpA_draw, condI_true, seqQ_normal, goI_out, goI_ops, opsA_nil, opsA_cons, stepA_move, stepA_binOp, stepA_len, thenV_some, eval_tmp, put_some, aBin_lss, aLen_imm, Nat.reduceEqDiff, reduceCtorEq, if_true, if_false, kt_49, f0, f5, c3]
      generalize a[i] = A at *
      generalize b[i] = B at *
      have n1 : ∀ xo yo, aBin Try.prog .neq 55 xo yo (.agg (recE A)) (.agg (recE B)) = some (.bool true) := fun xo yo => by rw [rec_neq]; simp [heq]
      refine SWp.drawnS none_ [] (.q 0 (.q 1 (.q 2 (.q 3 (.q 4 (.q 5 (.q 6 (.q 7 (.q 8 .done))))))))) (by kernel_rfl) (by kernel_rfl) (by kernel_rfl) ?_
      simp only [siI_done, siI_q, sqI_some, mOk_none', implies_true, qI_nil, qI_cons, thenQ_some, q_move, q_load, q_binOp, q_indexAddr, wpA_region, wpA_seq, wpA_cond, wpA_ret, condI_true, seqQ_normal, seqQ_ret, blkQ_ret, endI_mk, goE, andThen_ret, goI_out, goI_ops, goI_mk, opsA_nil, opsA_cons, stepA_assign, eval_tmp, eval_const, put_some, absV_bool, aLoad_eq, aPlace_at, List.getElem?_cons_zero, List.getElem?_cons_succ, Nat.reduceEqDiff, reduceCtorEq, true_and, if_true, if_false, lt_55, f0, f1, f5, x0, x1, n1, lr, retA_ret, Try.results19, resultsA_1]
      exact hid_mk ⟨by rw [hG], k1⟩

end Go.Proofs.Yteegfdinghnoiaa.Pk
namespace Go.Proofs.Yteegfdinghnoiaa.Pk
open Go Go.Proofs Go.Proofs.Yteegfdinghnoiaa.Ab
set_option linter.unusedVariables false
set_option linter.unusedSimpArgs false

theorem Cast.z00 (h : AHeap) : Cast .z0 h (.imm 0 []) h := fun ρ B w0 w r' hw hv => by
  cases hv
  exact ⟨ρ, Ren.le.refl ρ, hw, .immZ _ 0 (by simp)⟩

set_option maxRecDepth 10000 in
theorem pChangesS (r : List Rec) (d : List Bool) (bi bc : Nat) (h : AHeap) (hO : Own h 4 1 (.sl bi 0 d.length bc) (boolsV d)) (hr : r.length * 24 ≤ 2 ^ 47) (hd : d.length ≤ 2 ^ 47) : Pure Try.prog 38 [.imm r.length (r.flatMap recE), .sl bi 0 d.length bc] h (outC (chgs r d)) := by
  refine Pure.of (outC_clo _) ?_
  refine SCalls.enterI (c := _) Try.func38 rfl (by kernel_rfl) (by simp) ?_
  by_cases hne : r.length = d.length
  rotate_left
  · have c1 : (((r.length : Nat) : Int) != ((d.length : Nat) : Int)) = true := by simp; omega
    have hG := chgs_len r d (.inl hne)
    simp only [wpA_region, wpA_seq, wpA_cond, wpA_ret, condI_true, seqQ_normal, seqQ_ret, endI_mk, goI_out, goI_ops, opsA_nil, opsA_cons, opsA_guardS, gvI_tf, slotAt_zero, slotAt_succ, stepA_move, stepA_assign, stepA_pick, stepA_binOp, stepA_len, thenV_some, pickV_true, eval_tmp, eval_const, put_some, enterF_zero, enterF_succ, aBin_neq, absV_int, absV_bool, absV_snil, aLen_sl, aLen_imm, Nat.reduceEqDiff, reduceCtorEq, if_true, if_false, kt_49, kt_50, c1, retA_ret, Try.results38, resultsA_2]
    exact hid_mk ⟨_, by rw [hG]; exact nil_cast _ _, Keep.refl _ _⟩
  have c1 : (((r.length : Nat) : Int) != ((d.length : Nat) : Int)) = false := by simp [hne]
  by_cases hodd : r.length % 2 = 1
  · have c2 : (((r.length : Nat) : Int).tmod 2 != 0) = true := by rw [Int.tmod_eq_emod_of_nonneg (by omega)]; simp; omega
    have hG := chgs_len r d (.inr hodd)
    simp only [wpA_region, wpA_seq, wpA_cond, wpA_ret, condI_true, seqQ_normal, seqQ_ret, endI_mk, goI_out, goI_ops, opsA_nil, opsA_cons, opsA_guardS, gvI_same, slotAt_zero, slotAt_succ, stepA_move, stepA_assign, stepA_pick, stepA_binOp, stepA_len, thenV_some, pickV_false, eval_tmp, eval_const, put_some, enterF_zero, enterF_succ, aBin_neq, absV_int, absV_bool, absV_snil, aLen_sl, aLen_imm, Nat.reduceEqDiff, reduceCtorEq, if_true, if_false, kt_49, kt_50, c1, aBin_rem (show (2 : Int) ≠ 0 by decide), c2, retA_ret, Try.results38, resultsA_2]
    exact hid_mk ⟨_, by rw [hG]; exact nil_cast _ _, Keep.refl _ _⟩
  have c2 : (((r.length : Nat) : Int).tmod 2 != 0) = false := by rw [Int.tmod_eq_emod_of_nonneg (by omega)]; simp; omega
  simp only [wpA_skip, wpA_region, wpA_seq, wpA_cond, wpA_block, wpA_loop, condI_false, seqQ_normal, goI_out, goI_ops, opsA_nil, opsA_cons, opsA_guardS, gvI_same, slotAt_zero, slotAt_succ, stepA_move, stepA_assign, stepA_pick, stepA_binOp, stepA_len, thenV_some, pickV_false, eval_tmp, eval_const, put_some, enterF_zero, enterF_succ, aBin_neq, absV_int, absV_bool, absV_snil, aLen_sl, aLen_imm, Nat.reduceEqDiff, reduceCtorEq, if_true, if_false, kt_49, kt_50, c1, aBin_rem (show (2 : Int) ≠ 0 by decide), c2]
  refine SWp.loopG (α := V × Nat × List Chg) (fun x f h' => f 0 = .imm r.length (r.flatMap recE) ∧ f 1 = .sl bi 0 d.length bc ∧ f 6 = x.1 ∧ f 7 = .int .i64 (2 * x.2.1 : Nat) ∧ Acc h h' 38 5 x.1 (x.2.2.flatMap chgE) ∧ x.2.2.length = x.2.1 ∧ 2 * x.2.1 ≤ r.length ∧ chgs r d = (chgs (r.drop (2 * x.2.1)) (d.drop (2 * x.2.1))).map (x.2.2 ++ ·)) (fun x => r.length - x.2.1) (.snil, 0, [])
    ⟨rfl, rfl, rfl, rfl, Acc.nil (Keep.refl _ _), rfl, Nat.zero_le _, by simp⟩ ?_
  rintro ⟨v, i, acc⟩ f h1 ⟨f0, f1, f6, f7, a1, hl, hi, hG⟩
  simp only at f6 f7 a1 hl hi hG
  refine wpI_sound (by kernel_rfl) ?_
  by_cases hlt : 2 * i < r.length
  rotate_left
  · have c3 : decide (((2 * i : Nat) : Int) < ((r.length : Nat) : Int)) = false := by simp only [decide_eq_false_iff_not]; omega
    rw [List.drop_of_length_le (by omega), List.drop_of_length_le (by omega)] at hG
    simp only [chgs, Option.map_some, List.append_nil] at hG
    obtain ⟨h2, c, k⟩ := a1.cast (n := acc.length) (rows_len chgE_len acc) (by omega)
    simp only [wpA_region, wpA_seq, wpA_cond, wpA_exit, wpA_ret, condI_false, seqQ_normal, seqQ_exit, blkQ_exit, endI_mk, goE, andThen_exit, goI_out, goI_ops, opsA_nil, opsA_cons, stepA_move, stepA_assign, stepA_binOp, stepA_len, thenV_some, eval_tmp, eval_const, put_some, aBin_lss, absV_int, aLen_imm, Nat.reduceEqDiff, reduceCtorEq, if_true, if_false, kt_49, f0, f6, f7, c3, retA_ret, Try.results38, resultsA_2]
    exact hid_mk ⟨h2, by rw [hG]; exact Cast.tuple (CastL.cons c (CastL.refl _ _)), k⟩
  · have c3 : decide (((2 * i : Nat) : Int) < ((r.length : Nat) : Int)) = true := by simp only [decide_eq_true_eq]; omega
    have hl1 : 2 * i + 1 < r.length := by omega
    have hd1 : 2 * i + 1 < d.length := by omega
    have w1 : IntKind.i64.wrap (((2 * i : Nat) : Int) + 1) = ((2 * i + 1 : Nat) : Int) := by rw [Go.IntWalk.i64_in _ (by omega)]; omega
    have w2 : IntKind.i64.wrap (((2 * i : Nat) : Int) + 2) = ((2 * (i + 1) : Nat) : Int) := by rw [Go.IntWalk.i64_in _ (by omega)]; omega
    have lr : ∀ (x : Rec) (q : List V), loadGo (some (some 3)) (some (recE x ++ q)) = some (.agg (recE x)) := fun x q => load_row (recE_len x)
    rw [two_drop hl1, two_drop hd1] at hG
    have x0 := rec_ix (kk := .i64) (show 2 * i < r.length by omega)
    have x1 := rec_ix (kk := .i64) hl1
    have hbi : bi < h.n := hO.lt bi rfl
    obtain ⟨b0, y0, hb0, ⟨q0, z0⟩, _⟩ := own_elem (P := Try.prog) (kk := .i64) ss_50 hO (k := 2 * i) (by rw [boolsV_length]; omega)
    obtain ⟨b1, y1, hb1, ⟨q1, z1⟩, _⟩ := own_elem (P := Try.prog) (kk := .i64) ss_50 hO (k := 2 * i + 1) (by rw [boolsV_length]; omega)
    simp only [idOf, Option.some.injEq] at hb0 hb1
    subst hb0
    subst hb1
    have e0 : (boolsV d)[2 * i]'(by rw [boolsV_length]; omega) = .bool d[2 * i] := by simp [boolsV]
    have e1 : (boolsV d)[2 * i + 1]'(by rw [boolsV_length]; omega) = .bool d[2 * i + 1] := by simp [boolsV]
    rw [e0] at z0
    rw [e1] at z1
    clear e0 e1
    generalize r[2 * i] = A at *
    generalize r[2 * i + 1] = B at *
    generalize d[2 * i] = D at *
    generalize d[2 * i + 1] = E at *
    simp only [wpA_skip, wpA_region, wpA_seq, wpA_cond, wpA_block, wpA_draw, condI_true, seqQ_normal, goI_out, goI_ops, opsA_nil, opsA_cons, stepA_move, stepA_binOp, stepA_len, thenV_some, eval_tmp, put_some, aBin_lss, aLen_imm, Nat.reduceEqDiff, reduceCtorEq, if_true, if_false, kt_49, f0, f7, c3]
    refine SWp.cut (fun f' h' => ∃ p q, p ≠ q ∧ p < h'.n ∧ q < h'.n ∧ f' 0 = .imm r.length (r.flatMap recE) ∧ f' 1 = .sl bi 0 d.length bc ∧ f' 6 = v ∧ f' 7 = .int .i64 (2 * i : Nat) ∧ f' 8 = .ptr p 0 ∧ f' 9 = .ptr q 0 ∧ h'.get p = .cells (recE A) 55 none ∧ h'.get q = .cells (recE B) 55 none ∧ Acc h h' 38 5 v (acc.flatMap chgE)) ?_ ?_
    · refine SWp.drawnS none_ [9, 10, 11, 12] (.q 0 (.q 1 (.q 2 (.q 3 (.q 4 (.q 5 (.q 6 (.q 7 (.q 8 (.e 9 (.e 10 (.e 11 (.a 12 .done) .stop) .stop) (.e 10 (.e 9 (.e 11 (.a 12 .done) .stop) .stop) .stop))))))))))) (by kernel_rfl) (by kernel_rfl) (by kernel_rfl) ?_
      have hone : ∀ x : Rec, (V.agg (recE x)).cells = some (recE x) := fun _ => rfl
      have hset : ∀ (x : Rec), setC (some 3) (AObj.cells [.int .i64 0, .int .i64 0, .int .i64 0] 55 none) 0 (recE x) = some (.cells (recE x) 55 none) := fun x => by
        rw [setC_row (n := 3) (recE_len x) (recE_one x), if_pos (by decide)]; rfl
      simp only [siI_done, siI_stop, siI_q, siI_a, siI_e, sqI_some, saI_some, seI_some, mOk_none', keepT1, keepT2, implies_true, qI_nil, qI_cons, thenQ_some, q_move, q_load, q_binOp, q_indexAddr, endI_mk, goI_out, goI_ops, goI_mk, opsA_nil, opsA_cons, stepA_alloc, stepA_store, thenH_some, thenS_some, eval_tmp, eval_const, put_some, put_none, aBin_add, absV_int, aLoad_eq, aPlace_at, aStore_eq, storeGo_ptr, aAlloc_eq, push_n, get_push2, get_push2', set_push2, set_push2', List.getElem?_cons_zero, List.getElem?_cons_succ, Nat.reduceEqDiff, reduceCtorEq, Option.map_some, and_true, true_and, if_true, if_false, lt_55, zc_55, zt_55, f0, f7, w1, x0, x1, lr, hone, hset]
      have aR : ∀ a b : AObj, Acc h ((h1.push a).push b) 38 5 v (acc.flatMap chgE) := fun a b => (a1.on (Keep.push _ _ _)).on (Keep.push _ _ _)
      refine ⟨hid_mk ⟨rfl, h1.n, h1.n + 1, by omega, by simp only [push_n]; omega, by simp only [push_n]; omega, f0, f1, f6, f7, rfl, rfl, get_push2', get_push2, aR _ _⟩,
        hid_mk ⟨rfl, h1.n + 1, h1.n, by omega, by simp only [push_n]; omega, by simp only [push_n]; omega, f0, f1, f6, f7, rfl, rfl, get_push2, get_push2', aR _ _⟩⟩
    · rintro f h2 ⟨p, q, hpq, hp, hq, f0, f1, f6, f7, f8, f9, gp, gq, a2⟩
      have gb2 : h2.get bi = h.get bi := a2.keep.get bi hbi (by simp [none_])
      simp only [wpA_seq, wpA_draw, seqQ_normal]
      refine SWp.drawnS none_ [14, 15] (.q 0 (.q 1 (.q 2 (.q 3 (.q 4 (.q 5 (.q 6 (.q 7 (.q 8 (.q 9 (.q 10 (.q 11 (.q 12 (.q 13 (.e 14 (.a 15 .done) .stop))))))))))))))) (by kernel_rfl) (by kernel_rfl) (by kernel_rfl) ?_
      simp only [siI_done, siI_stop, siI_q, siI_a, siI_e, sqI_some, saI_some, seI_some, mOk_none', keepT1, implies_true, qI_nil, qI_cons, thenQ_some, q_move, q_load, q_build, q_binOp, q_fieldAddr, q_indexAddr, wpA_seq, wpA_draw, seqQ_normal, goI_out, goI_ops, goI_mk, opsA_nil, opsA_cons, stepA_alloc, stepA_store, thenH_some, thenS_some, eval_tmp, eval_const, put_some, aBin_add, absV_int, cells_int, cells_bool, cells_agg, one_int, one_bool, all_nil, all_cons, aField_eq, fieldGo_ptr, aLoad_eq, loadGo_one, aPlace_ptr, dropC_cells, aStore_eq, storeGo_ptr, setC_row, setAll_nil, setAll_cons, aAlloc_eq, aBuild_go, aFill_nil, aFill_cons, fillGo_some, buildGo_struct, get_push_new, set_push, List.getElem?_cons_zero, List.getElem?_cons_succ, Nat.reduceEqDiff, Nat.reduceAdd, Nat.reduceLeDiff, List.map_cons, List.map_nil, Option.map_some, Nat.add_zero, Nat.zero_add, Nat.zero_le, List.length_cons, List.length_nil, List.drop_zero, List.drop_succ_cons, List.set_cons_zero, List.set_cons_succ, and_true, true_and, and_self, if_true, if_false, Bool.and_self, Nat.le_refl, ft_55_0, ft_55_1, ft_55_2, lt_2, lt_4, pl_38, zc_38, zt_38, f1, f7, f8, f9, gp, gq, recE, w1, y1, z1, gb2]
      generalize hX : (AObj.cells [.int .i64 A.k, .int .i64 A.t, .int .i64 A.v, .int .i64 B.v, .bool E] 38 none) = X
      have gq3 : (h2.push X).get q = .cells (recE B) 55 none := by rw [get_push_lt hq]; exact gq
      have gc3 : (h2.push X).get h2.n = .cells (chgE ⟨A.k, A.t, A.v, B.v, E⟩) 38 none := by rw [get_push_new, ← hX]; rfl
      have a3 : Acc h (h2.push X) 38 5 v (acc.flatMap chgE) := a2.on (Keep.push _ _ _)
      have n3 : h2.n < (h2.push X).n := by rw [push_n]; omega
      generalize h2.push X = h3 at gq3 gc3 a3 n3 ⊢
      have gb3 : h3.get bi = h.get bi := a3.keep.get bi hbi (by simp [none_])
      have lq : loadGo (some (some 3)) (some (recE B)) = some (.agg (recE B)) := rfl
      have lc : loadGo (some (some 5)) (some (chgE ⟨A.k, A.t, A.v, B.v, E⟩)) = some (.agg (chgE ⟨A.k, A.t, A.v, B.v, E⟩)) := rfl
      generalize hC : (⟨A.k, A.t, A.v, B.v, E⟩ : Chg) = C at gc3 lc
      have hkey : (decide (B ≠ secondR C) = true) ↔ (A.k ≠ B.k ∨ B.t ≠ 0) := by
        subst hC
        rw [decide_eq_true_iff]
        constructor
        · intro hh
          by_cases h1 : A.k = B.k
          · right
            intro h2
            exact hh (by cases B; simp_all [secondR])
          · exact .inl h1
        · intro hh h2
          rw [h2] at hh
          simp [secondR] at hh
      by_cases hD : D = true
      · subst hD
        have hN : chgs r d = none := by rw [hG, chgs, if_pos (.inl rfl)]; rfl
        refine SWp.drawnS none_ [] (.q 0 (.q 1 (.q 2 (.q 3 (.q 4 (.q 5 (.q 6 (.c 7 (.q 8 (.q 9 .done)))))))))) (by kernel_rfl) (by kernel_rfl) (by kernel_rfl) ?_
        simp only [siI_q, sqI_some, mOk_none', implies_true, qI_nil, qI_cons, qI_guard, qgI_tf, thenQ_some, q_move, q_load, q_indexAddr, goI_mk, slotAt_zero, slotAt_succ, eval_tmp, put_some, put_none, aLoad_eq, loadGo_one, aPlace_ptr, List.getElem?_cons_zero, List.getElem?_cons_succ, Nat.reduceEqDiff, true_and, if_true, if_false, lt_4, f1, f7, y0, z0, gb3]
        refine siI_cskip rfl rfl ?_
        simp only [siI_done, siI_q, sqI_some, mOk_none', implies_true, qI_nil, qI_cons, qI_guard, qgI_tf, thenQ_some, q_pick, wpA_region, wpA_seq, wpA_cond, wpA_ret, condI_true, seqQ_normal, seqQ_ret, blkQ_ret, endI_mk, goE, andThen_ret, goI_out, goI_ops, goI_mk, opsA_nil, opsA_cons, slotAt_zero, slotAt_succ, stepA_assign, pickV_true, eval_tmp, eval_const, put_some, put_none, absV_int, absV_bool, absV_snil, List.getElem?_cons_zero, List.getElem?_cons_succ, Nat.reduceEqDiff, true_and, if_true, if_false, retA_ret, Try.results38, resultsA_2]
        exact hid_mk ⟨_, by rw [hN]; exact nil_cast _ _, a3.keep⟩
      · have hD' : D = false := by simpa using hD
        subst hD'
        refine SWp.drawnS none_ [] (.q 0 (.q 1 (.q 2 (.q 3 (.q 4 (.q 5 (.q 6 (.c 7 (.q 8 (.q 9 .done)))))))))) (by kernel_rfl) (by kernel_rfl) (by kernel_rfl) ?_
        simp only [siI_q, sqI_some, mOk_none', implies_true, qI_nil, qI_cons, qI_guard, qgI_same, thenQ_some, q_move, q_load, q_indexAddr, goI_mk, slotAt_zero, slotAt_succ, eval_tmp, put_some, put_none, aLoad_eq, loadGo_one, aPlace_ptr, dropC_cells, List.getElem?_cons_zero, List.getElem?_cons_succ, Nat.reduceEqDiff, Nat.zero_le, List.drop_zero, true_and, if_true, if_false, lt_38, lt_4, lt_55, f1, f7, f9, y0, z0, gb3, gq3, gc3, lq, lc]
        refine siI_c rfl rfl rfl (fun h' _ => pSecond C h') ?_
        by_cases hk : (A.k ≠ B.k ∨ B.t ≠ 0)
        · have hb := hkey.2 hk
          have hN : chgs r d = none := by rw [hG, chgs, if_pos (.inr hk)]; rfl
          simp only [siI_done, siI_q, sqI_some, mOk_none', implies_true, qI_nil, qI_cons, qI_guard, qgI_same, thenQ_some, q_pick, q_binOp, wpA_region, wpA_seq, wpA_cond, wpA_ret, condI_true, seqQ_normal, seqQ_ret, blkQ_ret, endI_mk, goE, andThen_ret, goI_out, goI_ops, goI_mk, opsA_nil, opsA_cons, slotAt_zero, slotAt_succ, stepA_assign, pickV_false, eval_tmp, eval_const, put_some, put_none, absV_int, absV_bool, absV_snil, List.getElem?_cons_zero, List.getElem?_cons_succ, Nat.reduceEqDiff, true_and, if_true, if_false, rec_neq, hb, retA_ret, Try.results38, resultsA_2]
          exact hid_mk ⟨_, by rw [hN]; exact nil_cast _ _, a3.keep⟩
        · have hb : decide (B ≠ secondR C) = false := by
            cases hd : decide (B ≠ secondR C) with
            | false => rfl
            | true => exact absurd (hkey.1 hd) hk
          rw [chgs, if_neg (by simpa using hk), hC] at hG
          have hal : (acc.flatMap chgE).length = acc.length * 5 := rows_len chgE_len acc
          obtain ⟨v4, h4, q4, a4⟩ := a3.elemM (P := Try.prog) (t := 34) (T := ⟨38, [.int .i64 0, .int .i64 0, .int .i64 0, .int .i64 0, .bool false], 5, 40⟩) sl_34 (by decide) (xs := chgE C) rfl (chgE_one C) (fun m hm => by
            have hm' : m * 5 = (acc.flatMap chgE).length + 5 := hm
            rw [hal] at hm'
            show m * 40 ≤ lim ∧ m ≤ lim
            unfold lim
            omega)
          simp only [siI_done, siI_q, sqI_some, mOk_none', implies_true, qI_nil, qI_cons, qI_guard, qgI_same, thenQ_some, q_pick, q_binOp, wpA_skip, wpA_region, wpA_cond, condI_false, seqQ_normal, blkQ_normal, endI_mk, andThen_normal, goI_out, goI_ops, goI_mk, opsA_nil, opsA_cons, slotAt_zero, slotAt_succ, stepA_move, stepA_assign, stepA_buildSlice, stepA_load, stepA_binOp, stepA_append, thenV_some, thenH_some, pickV_false, eval_tmp, eval_const, put_some, put_none, aBin_add, absV_int, absV_bool, aLoad_eq, aPlace_ptr, dropC_cells, List.getElem?_cons_zero, List.getElem?_cons_succ, Nat.reduceEqDiff, List.map_cons, List.map_nil, Nat.zero_le, List.drop_zero, true_and, if_true, if_false, lt_38, f6, f7, gc3, lc, rec_neq, hb, lit1c, q4, w2]
          refine hid_mk ⟨(v4, i + 1, acc ++ [C]), ⟨f0, f1, rfl, rfl, a4.conv (by simp), by simp only [List.length_append, List.length_cons, List.length_nil]; omega, by simp only; omega, ?_⟩, by simp only; omega⟩
          rw [hG, Option.map_map, show 2 * i + 2 = 2 * (i + 1) by omega]
          simp [Function.comp_def]


theorem pChangesV (r : List Rec) (d : List Bool) (v : V) (h : AHeap) (hO : Own h 4 1 v (boolsV d)) (hr : r.length * 24 ≤ 2 ^ 47) (hd : d.length ≤ 2 ^ 47) : Pure Try.prog 38 [.imm r.length (r.flatMap recE), v] h (outC (chgs r d)) := by
  rcases hO with ⟨hv, hnil⟩ | ⟨bi, len, bc, c, ex, rfl, rest⟩
  · have hd0 : d = [] := List.map_eq_nil_iff.1 hnil
    subst hd0
    have hp := pChanges r [] h hr (by simp)
    refine Pure.args (CastL.cons (Cast.refl _ _) (CastL.last ?_)) hp
    rcases hv with rfl | rfl
    · exact Cast.nil0 _
    · exact Pk.Cast.z00 _
  · have hlen : len = d.length := by have := rest.2.2.1; rw [boolsV_length] at this; omega
    subst hlen
    exact pChangesS r d bi bc h (.inr ⟨bi, d.length, bc, c, ex, rfl, rest⟩) hr hd
end Go.Proofs.Yteegfdinghnoiaa.Pk
namespace Go.Proofs.Yteegfdinghnoiaa.Pk
open Go Go.Proofs Go.Proofs.Yteegfdinghnoiaa.Ab
set_option linter.unusedVariables false
set_option linter.unusedSimpArgs false

def recsOf (l : List Chg) : List Rec := l.flatMap fun c => [firstR c, secondR c]
def delsOf (l : List Chg) : List Bool := l.flatMap fun c => [false, c.del]
theorem recsOf_len (l : List Chg) : (recsOf l).length = 2 * l.length := by
  induction l with
  | nil => rfl
  | cons c l ih => simp only [recsOf, List.flatMap_cons, List.length_append, List.length_cons, List.length_nil] at *; omega
theorem delsOf_len (l : List Chg) : (delsOf l).length = 2 * l.length := by
  induction l with
  | nil => rfl
  | cons c l ih => simp only [delsOf, List.flatMap_cons, List.length_append, List.length_cons, List.length_nil] at *; omega
theorem chgs_back (l : List Chg) : chgs (recsOf l) (delsOf l) = some l := by
  induction l with
  | nil => rfl
  | cons c l ih =>
    show chgs (firstR c :: secondR c :: recsOf l) (false :: c.del :: delsOf l) = _
    rw [chgs, if_neg (by simp [firstR, secondR]), ih]
    rfl
theorem recsOf_succ {l : List Chg} {i : Nat} (hi : i < l.length) : recsOf (l.take (i + 1)) = recsOf (l.take i) ++ [firstR l[i], secondR l[i]] := by
  rw [List.take_succ_eq_append_getElem hi, recsOf, List.flatMap_append]
  simp [recsOf]
theorem delsOf_succ {l : List Chg} {i : Nat} (hi : i < l.length) : delsOf (l.take (i + 1)) = delsOf (l.take i) ++ [false, l[i].del] := by
  rw [List.take_succ_eq_append_getElem hi, delsOf, List.flatMap_append]
  simp [delsOf]
theorem boolsV_app (a b : List Bool) : boolsV (a ++ b) = boolsV a ++ boolsV b := List.map_append

set_option maxRecDepth 10000 in
theorem sAll (l : List Chg) (h : AHeap) (hl : l.length ≤ 2 ^ 20) : SCalls Try.prog 37 [.imm l.length (l.flatMap chgE)] h (fun r h' => ∃ vb, r = .tuple [.imm (recsOf l).length ((recsOf l).flatMap recE), vb] ∧ Acc h h' 4 1 vb (boolsV (delsOf l))) := by
  refine SCalls.cast ?_
  refine SCalls.enterI (c := _) Try.func37 rfl (by kernel_rfl) (by simp) ?_
  simp only [wpA_region, wpA_seq, wpA_block, wpA_loop, seqQ_normal, goI_out, goI_ops, opsA_nil, opsA_cons, stepA_assign, eval_const, absV_int, absV_snil]
  refine SWp.loopG (α := V × V × Nat) (fun x f h' => f 0 = .imm l.length (l.flatMap chgE) ∧ f 4 = x.1 ∧ f 5 = x.2.1 ∧ f 6 = .int .i64 (x.2.2 : Nat) ∧ Acc h h' 55 3 x.1 ((recsOf (l.take x.2.2)).flatMap recE) ∧ Acc h h' 4 1 x.2.1 (boolsV (delsOf (l.take x.2.2))) ∧ (∀ k, idOf x.1 = some k → idOf x.2.1 ≠ some k) ∧ x.2.2 ≤ l.length) (fun x => l.length - x.2.2) (.snil, .snil, 0)
    ⟨rfl, rfl, rfl, rfl, Acc.nil (Keep.refl _ _), Acc.nil (Keep.refl _ _), by simp [idOf], Nat.zero_le _⟩ ?_
  rintro ⟨va, vb, i⟩ f h1 ⟨f0, f4, f5, f6, a1, b1, hne, hi⟩
  simp only at f4 f5 f6 a1 b1 hne hi
  refine wpI_sound (by kernel_rfl) ?_
  by_cases hlt : i < l.length
  rotate_left
  · have c3 : decide ((i : Int) < ((l.length : Nat) : Int)) = false := by simp only [decide_eq_false_iff_not]; omega
    rw [List.take_of_length_le (by omega)] at a1 b1
    simp only [wpA_region, wpA_seq, wpA_cond, wpA_exit, wpA_ret, condI_false, seqQ_normal, seqQ_exit, blkQ_exit, endI_mk, goE, andThen_exit, goI_out, goI_ops, opsA_nil, opsA_cons, stepA_move, stepA_assign, stepA_binOp, stepA_len, thenV_some, eval_tmp, put_some, aBin_lss, aLen_imm, Nat.reduceEqDiff, reduceCtorEq, if_true, if_false, kt_34, f0, f4, f5, f6, c3, retA_ret, Try.results37, resultsA_2]
    obtain ⟨h2, c, k⟩ := Cast.own a1.own (rows_len recE_len _) (by omega)
    have b2 : Acc h h2 4 1 vb (boolsV (delsOf l)) := ⟨b1.own.keep k fun j hj hk => hne j hk hj, a1.keep.trans k fun j hj hk => by have := a1.new j hk; omega, b1.new⟩
    exact hid_mk ⟨_, h2, Cast.tuple (CastL.cons c (CastL.refl _ _)), vb, rfl, b2⟩
  · have c3 : decide ((i : Int) < ((l.length : Nat) : Int)) = true := by simp only [decide_eq_true_eq]; omega
    have w1 : IntKind.i64.wrap ((i : Int) + 1) = ((i + 1 : Nat) : Int) := inc64 hlt (by omega)
    have x0 := chg_ix (kk := .i64) hlt
    have lr : ∀ (x : Chg) (q : List V), loadGo (some (some 5)) (some (chgE x ++ q)) = some (.agg (chgE x)) := fun x q => load_row (chgE_len x)
    have hA := recsOf_succ hlt
    have hB := delsOf_succ hlt
    have lA : ((recsOf (l.take i)).flatMap recE).length = 2 * i * 3 := by rw [rows_len recE_len, recsOf_len, List.length_take]; congr 2; omega
    have lB : (boolsV (delsOf (l.take i))).length = 2 * i := by rw [boolsV_length, delsOf_len, List.length_take]; congr 1; omega
    generalize l[i] = C at *
    obtain ⟨va2, h2, q1, oa, ka, da⟩ := append_ownM (P := Try.prog) (t := 49) (tx := 49) (T := ⟨55, [.int .i64 0, .int .i64 0, .int .i64 0], 3, 24⟩) sl_49 (by decide) a1.own (x := .imm 2 ([firstR C, secondR C].flatMap recE)) (n := 2) (news := [firstR C, secondR C].flatMap recE) rfl rfl (fun m hm => by
      have hm' : m * 3 = ((recsOf (l.take i)).flatMap recE).length + 6 := hm
      rw [lA] at hm'
      show m * 24 ≤ lim ∧ m ≤ lim
      unfold lim
      omega)
    have a2 := a1.step oa ka da
    have b2 : Acc h h2 4 1 vb (boolsV (delsOf (l.take i))) := ⟨b1.own.keep ka fun j hj hk => hne j hk hj, a2.keep, b1.new⟩
    have hne2 : ∀ k, idOf va2 = some k → idOf vb ≠ some k := fun k h1 h2 => by
      rcases da with da | da
      · exact hne k (da ▸ h1) h2
      · have e1 := da k h1
        have e2 := b1.own.lt k h2
        omega
    obtain ⟨vb3, h3, q2, ob, kb, db⟩ := append_ownM (P := Try.prog) (t := 50) (tx := 50) (T := ⟨4, [.bool false], 1, 1⟩) sl_50 (by decide) b2.own (x := .imm 2 (boolsV [false, C.del])) (n := 2) (news := boolsV [false, C.del]) rfl rfl (fun m hm => by
      have hm' : m * 1 = (boolsV (delsOf (l.take i))).length + 2 := hm
      rw [lB] at hm'
      show m * 1 ≤ lim ∧ m ≤ lim
      unfold lim
      omega)
    have b3 := b2.step ob kb db
    have a3 : Acc h h3 55 3 va2 ((recsOf (l.take i)).flatMap recE ++ [firstR C, secondR C].flatMap recE) := ⟨oa.keep kb fun j hj hk => hne2 j hj hk, b3.keep, a2.new⟩
    have hne3 : ∀ k, idOf va2 = some k → idOf vb3 ≠ some k := fun k h1 h2 => by
      rcases db with db | db
      · exact hne2 k h1 (db ▸ h2)
      · have e1 := db k h2
        have e2 := oa.lt k h1
        omega
    simp only [wpA_skip, wpA_region, wpA_seq, wpA_cond, wpA_block, condI_true, seqQ_normal, goI_out, goI_ops, opsA_nil, opsA_cons, stepA_move, stepA_load, stepA_binOp, stepA_indexAddr, stepA_len, stepA_call, thenV_some, eval_tmp, put_some, aBin_lss, aLoad_eq, aPlace_at, aLen_imm, Nat.reduceEqDiff, reduceCtorEq, List.map_cons, List.map_nil, if_true, if_false, kt_34, lt_38, f0, f6, c3, x0, lr]
    refine callI_pure cal18 (pRecords C h1) ?_
    simp only [wpA_region, wpA_seq, seqQ_normal, blkQ_normal, endI_mk, andThen_normal, goI_out, goI_ops, opsA_nil, opsA_cons, stepA_move, stepA_assign, stepA_binOp, stepA_extract, stepA_append, thenV_some, thenH_some, extV_zero, extV_succ, eval_tmp, eval_const, put_some, aBin_add, absV_int, Nat.reduceEqDiff, if_true, if_false, f4, f5, f6, q1, q2, w1]
    exact hid_mk ⟨(va2, vb3, i + 1), ⟨f0, rfl, rfl, rfl, a3.conv (by rw [hA, List.flatMap_append]), b3.conv (by rw [hB, boolsV_app]), hne3, by simp only; omega⟩, by simp only; omega⟩

set_option maxRecDepth 10000 in
theorem pShown15 (h : AHeap) : Pure Try.prog 4 [] h (.bool true) := by
  refine Pure.val (Clo.bool _) ?_
  refine SCalls.enterI (c := _) Try.func4 rfl (by kernel_rfl) (by simp) ?_
  simp only [wpA_region, wpA_seq, seqQ_normal, goI_out, goI_ops, opsA_nil, opsA_cons, stepA_assign, stepA_build, stepA_call, thenV_some, eval_tmp, eval_const, put_some, absV_int, absV_bool, cells_int, setAll_nil, setAll_cons, aBuild_go, aFill_nil, aFill_cons, fillGo_some, buildGo_struct, List.getElem?_cons_zero, List.getElem?_cons_succ, Nat.reduceAdd, Nat.reduceLeDiff, reduceCtorEq, List.map_cons, List.map_nil, Option.map_some, Nat.zero_add, List.length_cons, List.length_nil, List.set_cons_zero, List.set_cons_succ, and_self, if_true, if_false, pl_38, zc_38]
  refine callI_pure cal18 (pRecords ⟨1, 2, 3, 4, false⟩ h) ?_
  have hl : ∀ h, aBuildSlice Try.prog 49 2 [(0, .agg [.int .i64 1, .int .i64 3, .int .i64 2]), (1, .agg [.int .i64 1, .int .i64 4, .int .i64 0])] h = some (.sl h.n 0 2 2, h.push (.cells ([(⟨1, 3, 2⟩ : Rec), ⟨1, 4, 0⟩].flatMap recE) 55 none)) := fun h => lit2r h ⟨1, 3, 2⟩ ⟨1, 4, 0⟩
  obtain ⟨hA, cA, kA⟩ := Cast.lit (h := h) (c := [(⟨1, 3, 2⟩ : Rec), ⟨1, 4, 0⟩].flatMap recE) (e := 55) (n := 2) (sz := 3) rfl (by decide) (by omega)
  simp only [wpA_region, wpA_seq, seqQ_normal, goI_out, goI_ops, opsA_nil, opsA_cons, stepA_move, stepA_assign, stepA_build, stepA_buildSlice, stepA_extract, stepA_call, thenV_some, thenH_some, extV_zero, extV_succ, eval_tmp, eval_const, put_some, absV_int, cells_int, setAll_nil, setAll_cons, aBuild_go, aFill_nil, aFill_cons, fillGo_some, buildGo_struct, List.getElem?_cons_zero, List.getElem?_cons_succ, Nat.reduceEqDiff, Nat.reduceAdd, Nat.reduceLeDiff, reduceCtorEq, List.map_cons, List.map_nil, Option.map_some, Nat.zero_add, List.length_cons, List.length_nil, List.set_cons_zero, List.set_cons_succ, and_self, if_true, if_false, Nat.le_refl, pl_55, zc_55, hl]
  refine callI_of cal19 (SCalls.args (CastL.cons (Cast.refl _ _) (CastL.cons cA (CastL.refl _ _))) (pRecsEq [⟨1, 3, 2⟩, ⟨1, 4, 0⟩] [⟨1, 3, 2⟩, ⟨1, 4, 0⟩] hA (by decide))) fun r h1 ⟨e1, e2⟩ => ?_
  subst e1 e2
  have d1 : decide (([⟨1, 3, 2⟩, ⟨1, 4, 0⟩] : List Rec) = [⟨1, 3, 2⟩, ⟨1, 4, 0⟩]) = true := by decide
  have x0 : aIndexAddr Try.prog 50 (.imm 2 (boolsV [false, false])) (.int .i64 0) = some (.at [.bool false, .bool false]) := by rw [index_imm ss_50 (by omega) (by omega) rfl]; rfl
  have x1 : aIndexAddr Try.prog 50 (.imm 2 (boolsV [false, false])) (.int .i64 1) = some (.at [.bool false]) := by rw [index_imm ss_50 (by omega) (by omega) rfl]; rfl
  simp only [goI_ops, opsA_cons, opsA_guardS, gvI_same, slotAt_zero, slotAt_succ, stepA_move, stepA_pick, stepA_binOp, stepA_len, thenV_some, pickV_true, eval_tmp, eval_const, put_some, aBin_eql, absV_int, absV_bool, aLen_imm, decide_true, Nat.reduceEqDiff, reduceCtorEq, if_true, if_false, kt_50]
  exact hid_mk ⟨rfl, kA⟩
end Go.Proofs.Yteegfdinghnoiaa.Pk
