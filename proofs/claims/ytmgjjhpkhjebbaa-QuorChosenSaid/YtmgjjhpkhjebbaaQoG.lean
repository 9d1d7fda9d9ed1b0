/-
  What functions of the program do, told of abstract states. Conditions: as each theorem says.
-/
import Derived.Test.YtmgjjhpkhjebbaaQoF
namespace Go.Proofs.Ytmgjjhpkhjebbaa.Pk
open Go Go.Proofs Go.Proofs.Ytmgjjhpkhjebbaa.Ab Go.Sort
set_option linter.unusedVariables false
set_option linter.unusedSimpArgs false
set_option maxRecDepth 10000 in
theorem pSameI (a b : List Int) (h : AHeap) (ha : a.length ≤ 2 ^ 60) : Pure Try.prog 31 [.imm a.length (i64V a), .imm b.length (i64V b)] h (.bool (decide (a = b))) := by
  refine Pure.val (Clo.bool _) ?_
  refine SCalls.enterI (c := _) Try.func31 rfl (by kernel_rfl) (by simp) ?_
  by_cases hne : a.length = b.length
  rotate_left
  · have c1 : (((a.length : Nat) : Int) != ((b.length : Nat) : Int)) = true := by simp; omega
    have hG : decide (a = b) = false := by simp only [decide_eq_false_iff_not]; rintro rfl; exact hne rfl
    simp only [wpA_region, wpA_seq, wpA_cond, wpA_ret, condI_true, seqQ_normal, seqQ_ret, endI_mk, goI_out, goI_ops, opsA_nil, opsA_cons, stepA_move, stepA_assign, stepA_binOp, stepA_len, thenV_some, eval_tmp, eval_const, put_some, enterF_zero, enterF_succ, aBin_neq, absV_bool, aLen_imm, Nat.reduceEqDiff, reduceCtorEq, if_true, if_false, kt_61, c1, retA_ret, Try.results31, resultsA_1]
    exact hid_mk ⟨by rw [hG], Keep.refl _ _⟩
  have c1 : (((a.length : Nat) : Int) != ((b.length : Nat) : Int)) = false := by simp [hne]
  simp only [wpA_skip, wpA_region, wpA_seq, wpA_cond, wpA_block, wpA_loop, condI_false, seqQ_normal, goI_out, goI_ops, opsA_nil, opsA_cons, stepA_move, stepA_assign, stepA_binOp, stepA_len, thenV_some, eval_tmp, eval_const, put_some, enterF_zero, enterF_succ, aBin_neq, absV_int, absV_bool, aLen_imm, Nat.reduceEqDiff, reduceCtorEq, if_true, if_false, kt_61, c1]
  refine SWp.loopG (α := Nat) (fun i f h' => f 0 = .imm a.length (i64V a) ∧ f 1 = .imm b.length (i64V b) ∧ f 5 = .int .i64 (i : Nat) ∧ Keep h h' none_ ∧ i ≤ a.length ∧ a.take i = b.take i) (fun i => a.length - i) 0
    ⟨rfl, rfl, rfl, Keep.refl _ _, Nat.zero_le _, rfl⟩ ?_
  rintro i f h1 ⟨f0, f1, f5, k1, hi, hT⟩
  refine wpI_sound (by kernel_rfl) ?_
  by_cases hlt : i < a.length
  rotate_left
  · have c3 : decide ((i : Int) < ((a.length : Nat) : Int)) = false := decide_eq_false (by omega)
    rw [List.take_of_length_le (by omega), List.take_of_length_le (by omega)] at hT
    simp only [wpA_region, wpA_seq, wpA_cond, wpA_exit, wpA_ret, condI_false, seqQ_normal, seqQ_exit, blkQ_exit, endI_mk, goE, andThen_exit, goI_out, goI_ops, opsA_nil, opsA_cons, stepA_move, stepA_assign, stepA_binOp, stepA_len, thenV_some, eval_tmp, eval_const, put_some, aBin_lss, absV_bool, aLen_imm, Nat.reduceEqDiff, reduceCtorEq, if_true, if_false, kt_61, f0, f5, c3, retA_ret, Try.results31, resultsA_1]
    exact hid_mk ⟨by rw [hT]; simp, k1⟩
  · have c3 : decide ((i : Int) < ((a.length : Nat) : Int)) = true := decide_eq_true (by omega)
    have hltb : i < b.length := by omega
    have w1 : IntKind.i64.wrap ((i : Int) + 1) = ((i + 1 : Nat) : Int) := by rw [Go.IntWalk.i64_in _ (by omega)]; omega
    have x0 : ∃ r, aIndexAddr Try.prog 61 (.imm a.length (i64V a)) (.int .i64 (i : Int)) = some (.at (.int .i64 a[i] :: r)) := ⟨_, Ab.row_ix (V.int .i64) hlt ss_61⟩
    have x1 : ∃ r, aIndexAddr Try.prog 61 (.imm b.length (i64V b)) (.int .i64 (i : Int)) = some (.at (.int .i64 b[i] :: r)) := ⟨_, Ab.row_ix (V.int .i64) hltb ss_61⟩
    obtain ⟨r0, x0⟩ := x0
    obtain ⟨r1, x1⟩ := x1
    have hT2 : a[i] = b[i] → a.take (i + 1) = b.take (i + 1) := fun heq => by rw [List.take_succ_eq_append_getElem hlt, List.take_succ_eq_append_getElem hltb, hT, heq]
    have hG2 : ¬ a[i] = b[i] → decide (a = b) = false := fun heq => by simp only [decide_eq_false_iff_not]; rintro rfl; exact heq rfl
    generalize a[i] = A at x0 hT2 hG2
    generalize b[i] = B at x1 hT2 hG2
    simp only [wpA_skip, wpA_region, wpA_seq, wpA_cond, wpA_block, wpA_draw, condI_true, seqQ_normal, goI_out, goI_ops, opsA_nil, opsA_cons, stepA_move, stepA_binOp, stepA_len, thenV_some, eval_tmp, put_some, aBin_lss, aLen_imm, Nat.reduceEqDiff, reduceCtorEq, if_true, if_false, kt_61, f0, f5, c3]
    refine SWp.drawnS none_ [] (.q 0 (.q 1 (.q 2 (.q 3 (.q 4 (.q 5 (.q 6 (.q 7 (.q 8 .done))))))))) (by kernel_rfl) (by kernel_rfl) (by kernel_rfl) ?_
    by_cases heq : A = B
    · have n1 : (A != B) = false := by simp [heq]
      simp only [siI_done, siI_q, sqI_some, mOk_none', implies_true, qI_nil, qI_cons, thenQ_some, q_move, q_load, q_binOp, q_indexAddr, wpA_skip, wpA_region, wpA_cond, condI_false, seqQ_normal, blkQ_normal, endI_mk, andThen_normal, goI_out, goI_ops, goI_mk, opsA_nil, opsA_cons, stepA_move, stepA_assign, stepA_binOp, thenV_some, eval_tmp, eval_const, put_some, aBin_add, aBin_neq, absV_int, aLoad_eq, loadGo_one, aPlace_at, List.getElem?_cons_zero, List.getElem?_cons_succ, Nat.reduceEqDiff, reduceCtorEq, true_and, if_true, if_false, lt_3, f0, f1, f5, x0, x1, n1, w1]
      exact hid_mk ⟨i + 1, ⟨f0, f1, rfl, k1, by omega, hT2 heq⟩, by omega⟩
    · have n1 : (A != B) = true := by simp [heq]
      simp only [siI_done, siI_q, sqI_some, mOk_none', implies_true, qI_nil, qI_cons, thenQ_some, q_move, q_load, q_binOp, q_indexAddr, wpA_region, wpA_seq, wpA_cond, wpA_ret, condI_true, seqQ_normal, seqQ_ret, blkQ_ret, endI_mk, goE, andThen_ret, goI_out, goI_ops, goI_mk, opsA_nil, opsA_cons, stepA_assign, eval_tmp, eval_const, put_some, aBin_neq, absV_bool, aLoad_eq, loadGo_one, aPlace_at, List.getElem?_cons_zero, List.getElem?_cons_succ, Nat.reduceEqDiff, reduceCtorEq, true_and, if_true, if_false, lt_3, f0, f1, f5, x0, x1, n1, retA_ret, Try.results31, resultsA_1]
      exact hid_mk ⟨by rw [hG2 heq], k1⟩
theorem litB (h : AHeap) (a : Int) : aBuildSlice Try.prog 34 1 [(0, .int .u8 a)] h = some (.sl h.n 0 1 1, h.push (.cells [.int .u8 a] 5 none)) := by rw [buildSlice_go sl_34]; rfl
theorem cvB (h : AHeap) (a : Int) : aConvM Try.prog 34 34 (.sl h.n 0 1 1) (h.push (.cells [.int .u8 a] 5 none)) = some (.imm 1 [.int .u8 a], h.push .dead) := convM_lit (by kernel_rfl) rfl
theorem cvN (h : AHeap) (i : Nat) : aConv Try.prog 34 34 (.sl i 0 1 1) h = none := aConv_sl (by kernel_rfl)
theorem litC1 (h : AHeap) (a b x : Int) : aBuildSlice Try.prog 39 1 [(0, .agg [.int .i64 a, .int .i64 b, .imm 1 [.int .u8 x]])] h = some (.sl h.n 0 1 1, h.push (.cells (celE ⟨a, b, [x]⟩) 36 none)) := by rw [buildSlice_go sl_39]; rfl
theorem litC2 (h : AHeap) (a b c d : Int) : aBuildSlice Try.prog 39 2 [(0, .agg [.int .i64 a, .int .i64 b, .snil]), (1, .agg [.int .i64 c, .int .i64 d, .snil])] h = some (.sl h.n 0 2 2, h.push (.cells [.int .i64 a, .int .i64 b, .snil, .int .i64 c, .int .i64 d, .snil] 36 none)) := by rw [buildSlice_go sl_39]; rfl
theorem litR2 (h : AHeap) (i j : Nat) : aBuildSlice Try.prog 37 2 [(0, .sl i 0 1 1), (1, .sl j 0 1 1)] h = some (.sl h.n 0 2 2, h.push (.cells [.sl i 0 1 1, .sl j 0 1 1] 39 none)) := by rw [buildSlice_go sl_37]; rfl
theorem ownL {h : AHeap} {i n : Nat} {cs : List V} {e : TypeId} {sz : Nat} (hi : i < h.n) (hg : h.get i = .cells cs e none) (hl : cs.length = n * sz) (hn : n < unk) : Own h e sz (.sl i 0 n n) cs :=
  .inr ⟨i, n, n, cs, none, rfl, hi, hg, hl, by rw [← hl]; exact List.take_length, .inl ⟨hn, by omega, Nat.le_refl _⟩⟩
theorem mergeShown {out : List Cel} (w : IsMerge [⟨1, 2, [97]⟩, ⟨1, 3, [98]⟩] out) : out = [⟨1, 3, [98]⟩] := by
  have w2 : IsMerge [⟨1, 2, [97]⟩, ⟨1, 3, [98]⟩] [⟨1, 3, [98]⟩] := by
    refine ⟨fun c => ?_, List.pairwise_singleton _ _⟩
    by_cases hk : c.at_ = 1
    · have : bestOf (atOf [⟨1, 2, [97]⟩, ⟨1, 3, [98]⟩] c.at_) = some ⟨1, 3, [98]⟩ := by rw [hk]; rfl
      rw [this]
      simp [eq_comm]
    · have : atOf [⟨1, 2, [97]⟩, ⟨1, 3, [98]⟩] c.at_ = [] := by
        unfold atOf
        rw [List.filter_eq_nil_iff]
        intro d hd
        simp at hd
        rcases hd with rfl | rfl <;> simp <;> exact fun h => hk h.symm
      rw [this]
      constructor
      · intro h; simp at h; subst h; exact absurd rfl hk
      · intro h; cases h
  exact w.unique w2 fun _ => rfl
set_option maxHeartbeats 1000000 in
set_option maxRecDepth 10000 in
theorem pShown9 (h : AHeap) : SCalls Try.prog 15 [] h (fun r h' => r = .bool true ∧ Keep h h' none_) := by
  refine SCalls.enterI (c := _) Try.func15 rfl (by kernel_rfl) (by simp) ?_
  have lB := litB
  have c1 := cvB
  have c0 := cvN
  have l1 := litC1
  have l2 := litC2
  have lR := litR2
  have c2 := cvB ((h.push .dead).push (.cells (celE ⟨1, 2, [97]⟩) 36 none)) 98
  simp only [push_n] at c2
  simp only [wpA_region, wpA_seq, seqQ_normal, goI_out, goI_ops, opsA_nil, opsA_cons, stepA_assign, stepA_build, stepA_buildSlice, stepA_convert, stepA_call, thenV_some, thenC_mark, thenH_some, eval_tmp, eval_const, put_some, absV_int, absV_bool, cells_int, cells_imm, setAll_nil, setAll_cons, aBuild_go, aFill_nil, aFill_cons, fillGo_some, buildGo_struct, push_n, List.getElem?_cons_zero, List.getElem?_cons_succ, Nat.reduceEqDiff, Nat.reduceAdd, Nat.reduceLeDiff, reduceCtorEq, List.map_cons, List.map_nil, Option.map_some, Nat.zero_add, List.length_cons, List.length_nil, List.set_cons_zero, List.set_cons_succ, and_self, if_true, if_false, Nat.le_refl, pl_36, zc_36, lB, c0, c1, c2, l1, lR]
  have hA : ∀ x : AObj, Keep h (((((h.push .dead).push (.cells (celE ⟨1, 2, [97]⟩) 36 none)).push .dead).push (.cells (celE ⟨1, 3, [98]⟩) 36 none)).push x) none_ := fun x => (Keep.push _ _ _).then_push _ |>.then_push _ |>.then_push _ |>.then_push _
  have gA : ((((h.push .dead).push (.cells (celE ⟨1, 2, [97]⟩) 36 none)).push .dead).push (.cells (celE ⟨1, 3, [98]⟩) 36 none)).get (h.n + 1) = .cells (celE ⟨1, 2, [97]⟩) 36 none := (get_push_lt (by simp only [push_n]; omega)).trans ((get_push_lt (by simp only [push_n]; omega)).trans get_push_new)
  have gB : ((((h.push .dead).push (.cells (celE ⟨1, 2, [97]⟩) 36 none)).push .dead).push (.cells (celE ⟨1, 3, [98]⟩) 36 none)).get (h.n + 3) = .cells (celE ⟨1, 3, [98]⟩) 36 none := get_push_new
  have nA : ((((h.push .dead).push (.cells (celE ⟨1, 2, [97]⟩) 36 none)).push .dead).push (.cells (celE ⟨1, 3, [98]⟩) 36 none)).n = h.n + 4 := rfl
  generalize hQ : (((h.push .dead).push (.cells (celE ⟨1, 2, [97]⟩) 36 none)).push .dead).push (.cells (celE ⟨1, 3, [98]⟩) 36 none) = H at hA gA gB nA ⊢
  have kP := hA (.cells [.sl (h.n + 1) 0 1 1, .sl (h.n + 3) 0 1 1] 39 none)
  have gP1 := (get_push_lt (o := .cells [.sl (h.n + 1) 0 1 1, .sl (h.n + 3) 0 1 1] 39 none) (show h.n + 1 < H.n by omega)).trans gA
  have gP3 := (get_push_lt (o := .cells [.sl (h.n + 1) 0 1 1, .sl (h.n + 3) 0 1 1] 39 none) (show h.n + 3 < H.n by omega)).trans gB
  have gP4 : (H.push (.cells [.sl (h.n + 1) 0 1 1, .sl (h.n + 3) 0 1 1] 39 none)).get (h.n + 4) = .cells [.sl (h.n + 1) 0 1 1, .sl (h.n + 3) 0 1 1] 39 none := by
    have := get_push_new (h := H) (o := .cells [.sl (h.n + 1) 0 1 1, .sl (h.n + 3) 0 1 1] 39 none)
    rw [nA] at this
    exact this
  have nP : (H.push (.cells [.sl (h.n + 1) 0 1 1, .sl (h.n + 3) 0 1 1] 39 none)).n = h.n + 5 := by rw [push_n, nA]
  generalize H.push (.cells [.sl (h.n + 1) 0 1 1, .sl (h.n + 3) 0 1 1] 39 none) = HP at kP gP1 gP3 gP4 nP ⊢
  obtain ⟨h2, k2, q2⟩ := Cast.own (ownL (e := 36) (sz := 3) (n := 1) (by omega) gP1 rfl (by simp [unk])) (n := 1) rfl (by decide)
  have g3' := (q2.get (h.n + 3) (by omega) (by simp [isId, idOf])).trans gP3
  have n2 := q2.n
  obtain ⟨h3, k3, q3⟩ := Cast.own (ownL (h := h2) (e := 36) (sz := 3) (n := 1) (by omega) g3' rfl (by simp [unk])) (n := 1) rfl (by decide)
  have q23 : Keep HP h3 (fun q => q = h.n + 1 ∨ q = h.n + 3) := (q2.mono fun q hq => .inl (by simpa [isId, idOf, eq_comm] using hq)).trans' (q3.mono fun q hq => .inr (by simpa [isId, idOf, eq_comm] using hq))
  obtain ⟨h4, k4, q4⟩ := Cast.rowC (ownL (h := HP) (e := 39) (sz := 1) (n := 2) (by omega) gP4 rfl (by simp [unk])) (CastL.cons k2 (CastL.cons k3 (CastL.refl _ _))) q23 (by omega) rfl
  have kk4 : Keep h h4 none_ := (kP.trans q23 fun q hq e => by omega).trans q4 fun q hq e => by omega
  refine callI_of cal17 (SCalls.args (CastL.cons k4 (CastL.refl _ _)) (mergeI [[⟨1, 2, [97]⟩], [⟨1, 3, [98]⟩]] ⟨by simp, by simp⟩ (by simp) h4)) fun r h5 ⟨out, io, k5, er⟩ => ?_
  subst er
  have e5 := mergeShown io
  subst e5
  have kk5 : Keep h h5 none_ := kk4.trans' k5
  simp only [wpA_region, wpA_seq, seqQ_normal, goI_out, goI_ops, opsA_nil, opsA_cons, stepA_assign, stepA_build, stepA_buildSlice, stepA_call, thenV_some, thenH_some, eval_tmp, eval_const, put_some, absV_int, cells_int, setAll_nil, setAll_cons, aBuild_go, aFill_nil, aFill_cons, fillGo_some, buildGo_struct, List.getElem?_cons_zero, Nat.reduceEqDiff, Nat.reduceAdd, Nat.reduceLeDiff, reduceCtorEq, List.map_cons, List.map_nil, Option.map_some, Nat.zero_add, List.length_cons, List.length_nil, List.set_cons_zero, and_self, if_true, if_false, pl_36, zc_36, l2]
  have kP6 := kk5.then_push (.cells [.int .i64 0, .int .i64 0, .snil, .int .i64 2, .int .i64 0, .snil] 36 none)
  have o6 : Own (h5.push (.cells [.int .i64 0, .int .i64 0, .snil, .int .i64 2, .int .i64 0, .snil] 36 none)) 36 3 (.sl h5.n 0 2 2) [.int .i64 0, .int .i64 0, .snil, .int .i64 2, .int .i64 0, .snil] := ownL (Nat.lt_succ_self _) get_push_new rfl (by simp [unk])
  have n5 := kk5.n
  obtain ⟨h7, k7, q7⟩ := Cast.rowC (es := [⟨0, 0, []⟩, ⟨2, 0, []⟩].flatMap celE) o6 (CastL.cons (Cast.refl _ _) (CastL.cons (Cast.refl _ _) (CastL.cons (Cast.snil0 _) (CastL.cons (Cast.refl _ _) (CastL.cons (Cast.refl _ _) (CastL.cons (Cast.snil0 _) (CastL.refl _ _))))))) (Keep.refl _ none_) (fun h => h) rfl
  have kk7 : Keep h h7 none_ := kP6.trans q7 fun q hq e => by omega
  refine callI_of cal30 (SCalls.args (CastL.cons k7 (CastL.refl _ _)) (pHoles [⟨0, 0, []⟩, ⟨2, 0, []⟩] (by simp) h7)) fun r h8 ⟨e8, e9⟩ => ?_
  subst e8 e9
  have hh : holesL [⟨0, 0, []⟩, ⟨2, 0, []⟩] = [1] := by decide
  rw [hh]
  simp only [wpA_region, wpA_seq, seqQ_normal, goI_out, goI_ops, opsA_nil, opsA_cons, stepA_assign, stepA_call, eval_tmp, eval_const, put_some, absV_int, Nat.reduceEqDiff, reduceCtorEq, List.map_cons, List.map_nil, Nat.zero_add, List.length_cons, List.length_nil, if_true, if_false]
  refine callI_pure cal16 (pNeed 3 (by decide) (by decide) h8) ?_
  have t1 : ((3 : Int) / 2 + 1 == 2) = true := by decide
  have x1 : aIndexAddr Try.prog 39 (.imm 1 ([⟨1, 3, [98]⟩].flatMap celE)) (.int .i64 ((0 : Nat) : Int)) = _ := cel_ix (l := [⟨1, 3, [98]⟩]) (k := 0) (by decide)
  have x1' : aIndexAddr Try.prog 39 (.imm 1 ([⟨1, 3, [98]⟩].flatMap celE)) (.int .i64 0) = some (.at (celE ⟨1, 3, [98]⟩)) := x1
  have fd : (if 1 ≤ (celE ⟨1, 3, [98]⟩).length then some (V.at (List.drop 1 (celE ⟨1, 3, [98]⟩))) else none) = some (.at [.int .i64 3, .imm 1 [.int .u8 98]]) := rfl
  have lit := lit1i h8 1
  have t2 : (((1 : Nat) : Int) == 1) = true := rfl
  simp only [goI_ops, opsA_cons, opsA_guardS, gvI_same, slotAt_zero, slotAt_succ, stepA_move, stepA_pick, stepA_buildSlice, stepA_load, stepA_binOp, stepA_fieldAddr, stepA_indexAddr, stepA_len, stepA_call, thenV_some, thenH_some, pickV_true, eval_tmp, eval_const, put_some, aBin_eql, absV_int, absV_bool, aField_eq, fieldGo_at, aLoad_eq, loadGo_one, aPlace_at, aLen_imm, beq_self_eq_true, Nat.reduceEqDiff, reduceCtorEq, List.map_cons, List.map_nil, if_true, if_false, ft_36_1, kt_39, lt_3, t1, t2, x1', fd, lit]
  obtain ⟨hX, cX, kX⟩ := Cast.lit (h := h8) (c := i64V [1]) (e := 3) (n := 1) (sz := 1) rfl (by decide) (by decide)
  refine callI_of cal31 (SCalls.args (CastL.cons (Cast.refl _ _) (CastL.cons cX (CastL.refl _ _))) (pSameI [1] [1] hX (by decide))) fun r h10 ⟨e10, e11⟩ => ?_
  subst e10 e11
  simp only [wpA_ret, seqQ_normal, endI_mk, goI_out, goI_ops, opsA_nil, opsA_cons, stepA_assign, stepA_pick, thenV_some, pickV_true, eval_tmp, eval_const, put_some, absV_bool, decide_true, Nat.reduceEqDiff, reduceCtorEq, if_true, if_false, decide_true, retA_ret, Try.results15, resultsA_1]
  exact hid_mk ⟨rfl, kk7.trans' kX⟩
end Go.Proofs.Ytmgjjhpkhjebbaa.Pk
