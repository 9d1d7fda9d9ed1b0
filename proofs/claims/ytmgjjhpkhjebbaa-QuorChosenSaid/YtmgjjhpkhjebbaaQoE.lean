/-
  What functions of the program do, told of abstract states. Conditions: as each theorem says.
-/
import Derived.Test.YtmgjjhpkhjebbaaQoD
import Derived.Test.YtmgjjhpkhjebbaaAbD
namespace Go.Proofs.Ytmgjjhpkhjebbaa.Pk
open Go Go.Proofs Go.Proofs.Ytmgjjhpkhjebbaa.Ab Go.Sort
set_option linter.unusedVariables false
set_option linter.unusedSimpArgs false
theorem rowE_clo (l : List Cel) : CloL (rowE l) := CloL.cons (Clo.imm (rows_clo celE_clo l)) CloL.nil
theorem rowE_one (l : List Cel) : (rowE l).all (·.one) = true := rfl
/-- Merge, its answer being read alone. -/
theorem mergeI (rows : List (List Cel)) (hs : smallC rows.flatten) (hr : rows.length ≤ 2 ^ 30) (h : AHeap) : SCalls Try.prog 17 [.imm rows.length (rows.flatMap rowE)] h (fun r h' => ∃ out, IsMerge rows.flatten out ∧ Keep h h' none_ ∧ r = .imm out.length (out.flatMap celE)) :=
  SCalls.cast ((merge rows hs hr h).mono fun r h' ⟨out, io, acc⟩ => by
    obtain ⟨h2, c, k2⟩ := acc.cast (n := out.length) (rows_len celE_len _) (by decide)
    exact ⟨_, h2, c, out, io, k2, rfl⟩)
theorem IsMerge.sub {cs out : List Cel} (w : IsMerge cs out) : ∀ c ∈ out, c ∈ cs := fun c hc => (atOf_mem.1 (bestOf_mem ((w.mem c).1 hc))).1
theorem IsMerge.unique {cs ds a b : List Cel} (wa : IsMerge cs a) (wb : IsMerge ds b) (h : ∀ k, bestOf (atOf cs k) = bestOf (atOf ds k)) : a = b :=
  strict_unique (r := fun a b : Cel => a.at_ < b.at_) (fun a h => by omega) (fun a b h1 h2 => by omega) wa.up wb.up fun c => by rw [wa.mem, wb.mem, h]
theorem IsMerge.len {cs out : List Cel} (w : IsMerge cs out) : out.length ≤ cs.length := by
  have hn : out.Nodup := w.up.imp fun {a b} hab e => by subst e; omega
  exact hn.length_le_of_subset w.sub
theorem IsMerge.small {cs out : List Cel} (w : IsMerge cs out) (h : smallC cs) : smallC out := ⟨Nat.le_trans w.len h.1, fun c hc => h.2 c (w.sub c hc)⟩
theorem up_atOf : ∀ {l : List Cel}, (l.Pairwise fun a b => a.at_ < b.at_) → ∀ {c}, c ∈ l → atOf l c.at_ = [c]
  | [], _, c, h => by cases h
  | x :: l, hp, c, h => by
    have hp' := List.pairwise_cons.1 hp
    unfold atOf
    rcases List.mem_cons.1 h with rfl | h
    · rw [List.filter_cons_of_pos (by simp), List.filter_eq_nil_iff.2 (fun y hy => by have := hp'.1 y hy; simp; omega)]
    · have := hp'.1 c h
      rw [List.filter_cons_of_neg (by simp; omega)]
      exact up_atOf hp'.2 h
theorem IsMerge.at_eq {cs out : List Cel} (w : IsMerge cs out) (k : Int) : atOf out k = (bestOf (atOf cs k)).toList := by
  cases hb : bestOf (atOf cs k) with
  | some d =>
    have hd := (atOf_mem.1 (bestOf_mem hb)).2
    have hm : d ∈ out := (w.mem d).2 (by rw [hd]; exact hb)
    have := up_atOf w.up hm
    rw [hd] at this
    exact this
  | none =>
    unfold atOf
    rw [List.filter_eq_nil_iff.2]
    · rfl
    · intro c hc hk
      have hk' : c.at_ = k := by simpa using hk
      have := (w.mem c).1 hc
      rw [hk', hb] at this
      cases this
theorem atOf_append (a b : List Cel) (k : Int) : atOf (a ++ b) k = atOf a k ++ atOf b k := List.filter_append ..
/-- Merged again it is itself. -/
theorem IsMerge.again {cs out out2 : List Cel} (w : IsMerge cs out) (w2 : IsMerge out out2) : out2 = out :=
  w2.unique w fun k => by rw [w.at_eq]; cases bestOf (atOf cs k) <;> rfl
theorem IsMerge.twice {cs out out2 : List Cel} (w : IsMerge cs out) (w2 : IsMerge (out ++ out) out2) : out2 = out :=
  w2.unique w fun k => by
    rw [atOf_append, w.at_eq]
    cases bestOf (atOf cs k) with
    | none => rfl
    | some d => show bestF (some d) d = some d; unfold bestF; simp
theorem bestF_ge {t : Option Cel} {c d : Cel} (h : bestF t c = some d) : c.ep ≤ d.ep ∧ ∀ t', t = some t' → t'.ep ≤ d.ep := by
  cases t with
  | none => cases h; exact ⟨Int.le_refl _, fun t' e => by cases e⟩
  | some t =>
    unfold bestF at h
    simp only at h
    split at h
    · cases h; exact ⟨Int.le_refl _, fun t' e => by cases e; omega⟩
    · cases h; exact ⟨by omega, fun t' e => by cases e; exact Int.le_refl _⟩
theorem bestFold_ge : ∀ (l : List Cel) (t : Option Cel) {d : Cel}, l.foldl bestF t = some d → (∀ c ∈ l, c.ep ≤ d.ep) ∧ ∀ t', t = some t' → t'.ep ≤ d.ep
  | [], t, d, h => ⟨by simp, fun t' e => by rw [show t = some d from h] at e; cases e; exact Int.le_refl _⟩
  | c :: l, t, d, h => by
    obtain ⟨h1, h2⟩ := bestFold_ge l (bestF t c) h
    obtain ⟨x, hx⟩ := bestF_some t c
    obtain ⟨h3, h4⟩ := bestF_ge hx
    have h5 := h2 x hx
    refine ⟨fun y hy => ?_, fun t' e => Int.le_trans (h4 t' e) h5⟩
    rcases List.mem_cons.1 hy with rfl | hy
    · omega
    · exact h1 y hy
theorem bestOf_ge {l : List Cel} {d : Cel} (h : bestOf l = some d) : ∀ c ∈ l, c.ep ≤ d.ep := (bestFold_ge l none h).1
/-! ### Cells compared -/
theorem cnvB (l : List Int) (h : AHeap) : aConv Try.prog 34 9 (.imm l.length (u8V l)) h = some (.string (strOfNums l)) := conv_imm (by kernel_rfl) st_9 rfl
set_option maxRecDepth 10000 in
theorem pSameC (c : Cel) (h : AHeap) : Pure Try.prog 18 [.agg (celE c), .agg (celE c)] h (.bool true) := by
  refine Pure.val (Clo.bool _) ?_
  refine SCalls.enterI (c := _) Try.func18 rfl (by kernel_rfl) (by simp) ?_
  have cc := cel_cells
  have l0 := cel_ld0'
  have l1 : ∀ c : Cel, List.drop 1 (celE c) = [.int .i64 c.ep, .imm c.by_.length (u8V c.by_)] := fun _ => rfl
  have l2 : ∀ c : Cel, List.drop 2 (celE c) = [.imm c.by_.length (u8V c.by_)] := fun _ => rfl
  have cl := celE_len
  have e1 : (c.at_ == c.at_) = true := by simp
  have e2 : (c.ep == c.ep) = true := by simp
  have e3 : ((strOfNums c.by_).toList == (strOfNums c.by_).toList) = true := by simp
  have kk : Keep h ((h.push (.cells (celE c) 36 none)).push (.cells (celE c) 36 none)) none_ := (Keep.push _ _ _).then_push _
  simp only [wpA_region, wpA_seq, wpA_ret, seqQ_normal, endI_mk, goI_out, goI_ops, opsA_nil, opsA_cons, opsA_guardS, gvI_same, slotAt_zero, slotAt_succ, stepA_move, stepA_assign, stepA_pick, stepA_box, stepA_load, stepA_binOp, stepA_convert, stepA_fieldAddr, thenV_some, thenC_some, thenH_some, pickV_true, eval_tmp, eval_const, put_some, enterF_zero, enterF_succ, aBin_eql, aBin_str_eql, absV_bool, aField_eq, fieldGo_ptr, aLoad_eq, loadGo_one, aPlace_ptr, dropC_cells, aBox_eq, push_n, get_push2, get_push2', beq_self_eq_true, Nat.reduceEqDiff, Nat.reduceLeDiff, Option.map_some, Nat.add_zero, Nat.zero_add, Nat.zero_le, List.drop_zero, if_true, if_false, ft_36_0, ft_36_1, ft_36_2, lt_3, lt_34, cc, l0, l1, l2, cl, cnvB, retA_ret, Try.results18, resultsA_1]
  exact hid_mk ⟨rfl, kk⟩
set_option maxRecDepth 10000 in
theorem pCellsC (l : List Cel) (hl : l.length ≤ 2 ^ 40) (h : AHeap) : Pure Try.prog 21 [.imm l.length (l.flatMap celE), .imm l.length (l.flatMap celE)] h (.bool true) := by
  refine Pure.val (Clo.bool _) ?_
  refine SCalls.enterI (c := _) Try.func21 rfl (by kernel_rfl) (by simp) ?_
  have c1 : (((l.length : Nat) : Int) != ((l.length : Nat) : Int)) = false := by simp
  simp only [wpA_skip, wpA_region, wpA_seq, wpA_cond, wpA_block, wpA_loop, condI_false, seqQ_normal, goI_out, goI_ops, opsA_nil, opsA_cons, stepA_move, stepA_assign, stepA_binOp, stepA_len, thenV_some, eval_tmp, eval_const, put_some, enterF_zero, enterF_succ, aBin_neq, absV_int, absV_bool, aLen_imm, bne_self_eq_false, Nat.reduceEqDiff, reduceCtorEq, if_true, if_false, kt_39]
  refine SWp.loopG (α := Nat) (fun i f h' => f 0 = .imm l.length (l.flatMap celE) ∧ f 1 = .imm l.length (l.flatMap celE) ∧ f 5 = .int .i64 (i : Nat) ∧ i ≤ l.length ∧ Keep h h' none_) (fun i => l.length - i) 0
    ⟨rfl, rfl, rfl, Nat.zero_le _, Keep.refl _ _⟩ ?_
  rintro i f h1 ⟨f0, f1, f5, hi, k1⟩
  refine wpI_sound (by kernel_rfl) ?_
  by_cases hlt : i < l.length
  · have d1 : decide ((i : Int) < ((l.length : Nat) : Int)) = true := decide_eq_true (by omega)
    have hw : IntKind.i64.wrap ((i : Int) + 1) = ((i + 1 : Nat) : Int) := by rw [Go.IntWalk.i64_in _ (by omega)]; omega
    have x1 := cel_ix (kk := .i64) hlt
    generalize l[i] = c at x1
    have ld := cel_ld
    simp only [wpA_skip, wpA_region, wpA_seq, wpA_cond, wpA_block, wpA_draw, condI_true, seqQ_normal, goI_out, goI_ops, opsA_nil, opsA_cons, stepA_move, stepA_binOp, stepA_len, thenV_some, eval_tmp, put_some, aBin_lss, aLen_imm, Nat.reduceEqDiff, reduceCtorEq, if_true, if_false, kt_39, f0, f5, d1]
    refine SWp.drawnS none_ [] (.q 0 (.q 1 (.q 2 (.q 3 (.q 4 (.q 5 (.q 6 (.q 7 (.c 8 (.q 9 .done)))))))))) (by kernel_rfl) (by kernel_rfl) (by kernel_rfl) ?_
    simp only [siI_q, sqI_some, mOk_none', implies_true, qI_nil, qI_cons, thenQ_some, q_move, q_load, q_indexAddr, goI_mk, eval_tmp, put_some, aLoad_eq, loadGo_row, aPlace_at, List.getElem?_cons_zero, List.getElem?_cons_succ, Nat.reduceEqDiff, reduceCtorEq, true_and, if_true, if_false, lt_36, f0, f1, f5, x1, ld]
    refine siI_c rfl rfl rfl (fun h' _ => pSameC c h') ?_
    simp only [siI_done, siI_q, sqI_some, mOk_none', implies_true, qI_nil, qI_cons, thenQ_some, q_unOp, wpA_skip, wpA_region, wpA_cond, condI_false, seqQ_normal, blkQ_normal, endI_mk, andThen_normal, goI_out, goI_ops, goI_mk, opsA_nil, opsA_cons, stepA_move, stepA_assign, stepA_binOp, thenV_some, eval_tmp, eval_const, put_some, aBin_add, aUn_not, absV_int, List.getElem?_cons_zero, List.getElem?_cons_succ, Nat.reduceEqDiff, true_and, if_true, if_false, Bool.not_true, f5, hw]
    exact hid_mk ⟨i + 1, ⟨f0, f1, rfl, hlt, k1⟩, by omega⟩
  · have d1 : decide ((i : Int) < ((l.length : Nat) : Int)) = false := decide_eq_false (by omega)
    simp only [wpA_region, wpA_seq, wpA_cond, wpA_exit, wpA_ret, condI_false, seqQ_normal, seqQ_exit, blkQ_exit, endI_mk, goE, andThen_exit, goI_out, goI_ops, opsA_nil, opsA_cons, stepA_move, stepA_assign, stepA_binOp, stepA_len, thenV_some, eval_tmp, eval_const, put_some, aBin_lss, absV_bool, aLen_imm, Nat.reduceEqDiff, reduceCtorEq, if_true, if_false, kt_39, f0, f5, d1, retA_ret, Try.results21, resultsA_1]
    exact hid_mk ⟨rfl, k1⟩
set_option maxRecDepth 10000 in
theorem pFirst9 (l : List Cel) (at_ : Int) (hl : l.length ≤ 2 ^ 40) (h : AHeap) : Pure Try.prog 20 [.imm l.length (l.flatMap celE), .int .i64 at_] h (.tuple [.agg (celE ((l.find? fun c => c.at_ == at_).getD cel0)), .bool (l.find? fun c => c.at_ == at_).isSome]) := by
  refine Pure.of (Clo.tuple (CloL.cons (Clo.agg (celE_clo _)) (CloL.cons (Clo.bool _) CloL.nil))) ?_
  refine SCalls.enterI (c := _) Try.func20 rfl (by kernel_rfl) (by simp) ?_
  simp only [wpA_region, wpA_seq, wpA_block, wpA_loop, seqQ_normal, goI_out, goI_ops, opsA_nil, opsA_cons, stepA_assign, stepA_alloc, thenH_some, eval_const, absV_int, absV_bool, aAlloc_eq, Option.map_some, zc_36]
  have cc := cel_cells
  have st := cel_store
  have ldc := cel_ldc
  have ld := cel_ld
  have ld0 := cel_ld0
  refine SWp.loopG (α := Nat) (fun i f h' => f 0 = .imm l.length (l.flatMap celE) ∧ f 1 = .int .i64 at_ ∧ f 4 = .ptr h.n 0 ∧ f 6 = .int .i64 (i : Nat) ∧ i ≤ l.length ∧ h' = h.push (.cells [.int .i64 0, .int .i64 0, .snil] 36 none) ∧ (l.take i).find? (fun c => c.at_ == at_) = none) (fun i => l.length - i) 0
    ⟨rfl, rfl, rfl, rfl, Nat.zero_le _, rfl, rfl⟩ ?_
  rintro i f h1 ⟨f0, f1, f4, f6, hi, rfl, hf⟩
  refine wpI_sound (by kernel_rfl) ?_
  by_cases hlt : i < l.length
  · have d1 : decide ((i : Int) < ((l.length : Nat) : Int)) = true := decide_eq_true (by omega)
    have hw : IntKind.i64.wrap ((i : Int) + 1) = ((i + 1 : Nat) : Int) := by rw [Go.IntWalk.i64_in _ (by omega)]; omega
    have x1 := cel_ix (kk := .i64) hlt
    have hs : (l.take (i + 1)).find? (fun c => c.at_ == at_) = if l[i].at_ == at_ then some l[i] else none := by
      rw [List.take_succ_eq_append_getElem hlt, List.find?_append, hf]
      simp [List.find?_cons]
      split <;> simp_all
    have hall : (l.find? fun c => c.at_ == at_) = ((l.take (i + 1)).find? fun c => c.at_ == at_).or ((l.drop (i + 1)).find? fun c => c.at_ == at_) := by
      conv => lhs; rw [← List.take_append_drop (i + 1) l, List.find?_append]
    rw [hs] at hall
    generalize l[i] = c at x1 hall hs
    cases hc : (c.at_ == at_)
    · rw [hc] at hs
      simp only [wpA_skip, wpA_region, wpA_seq, wpA_cond, wpA_block, condI_true, condI_false, seqQ_normal, blkQ_normal, endI_mk, andThen_normal, goI_out, goI_ops, opsA_nil, opsA_cons, stepA_move, stepA_assign, stepA_load, stepA_binOp, stepA_fieldAddr, stepA_indexAddr, stepA_len, thenV_some, eval_tmp, eval_const, put_some, aBin_add, aBin_eql, aBin_lss, absV_int, aField_eq, fieldGo_at, aLoad_eq, aPlace_at, aLen_imm, Nat.reduceEqDiff, reduceCtorEq, Nat.zero_le, List.drop_zero, if_true, if_false, ft_36_0, kt_39, lt_3, f0, f1, f6, d1, x1, ld0, hc, hw]
      exact hid_mk ⟨i + 1, ⟨f0, f1, f4, rfl, hlt, rfl, hs⟩, by omega⟩
    · rw [hc, if_pos rfl, Option.some_or] at hall
      rw [hall]
      simp only [wpA_skip, wpA_region, wpA_seq, wpA_cond, wpA_block, wpA_ret, condI_true, seqQ_normal, seqQ_ret, blkQ_ret, endI_mk, goE, andThen_ret, goI_out, goI_ops, opsA_nil, opsA_cons, stepA_move, stepA_assign, stepA_load, stepA_store, stepA_binOp, stepA_fieldAddr, stepA_indexAddr, stepA_len, thenV_some, thenS_some, eval_tmp, eval_const, put_some, put_none, aBin_eql, aBin_lss, absV_bool, aField_eq, fieldGo_at, aLoad_eq, loadGo_row, aPlace_ptr, aPlace_at, dropC_cells, aStore_eq, storeGo_ptr, aLen_imm, get_push_new, set_push, Nat.reduceEqDiff, reduceCtorEq, Option.map_some, Nat.zero_le, List.drop_zero, if_true, if_false, ft_36_0, kt_39, lt_3, lt_36, zt_36, f0, f1, f4, f6, d1, x1, ld0, ld, hc, cc, st, ldc, retA_ret, Try.results20, resultsC_2, resultA_tmp, resultA_cell, res2_some]
      exact hid_mk ⟨_, Cast.refl _ _, Keep.push _ _ _⟩
  · have d1 : decide ((i : Int) < ((l.length : Nat) : Int)) = false := decide_eq_false (by omega)
    rw [List.take_of_length_le (by omega)] at hf
    rw [hf]
    have st0 : setC (some 3) (AObj.cells [V.int .i64 0, V.int .i64 0, V.snil] 36 none) 0 [V.int .i64 0, V.int .i64 0, V.snil] = some (.cells [V.int .i64 0, V.int .i64 0, V.snil] 36 none) := rfl
    simp only [wpA_region, wpA_seq, wpA_cond, wpA_exit, wpA_ret, condI_false, seqQ_normal, seqQ_exit, blkQ_exit, endI_mk, goE, andThen_exit, goI_out, goI_ops, opsA_nil, opsA_cons, stepA_move, stepA_assign, stepA_build, stepA_store, stepA_binOp, stepA_len, thenV_some, thenS_some, eval_tmp, eval_const, put_some, put_none, aBin_lss, absV_bool, cells_agg, aLoad_eq, loadGo_row, aPlace_ptr, dropC_cells, aStore_eq, storeGo_ptr, aLen_imm, aBuild_go, aFill_nil, buildGo_struct, get_push_new, set_push, Nat.reduceEqDiff, Nat.reduceAdd, reduceCtorEq, List.map_nil, Option.map_some, Nat.zero_add, Nat.zero_le, List.length_cons, List.length_nil, List.drop_zero, List.take_succ_cons, List.take_nil, if_true, if_false, Nat.le_refl, kt_39, lt_36, pl_36, zc_36, zt_36, f0, f4, f6, d1, st0, retA_ret, Try.results20, resultsC_2, resultA_tmp, resultA_cell, res2_some]
    exact hid_mk ⟨_, topC_cast none false _, Keep.push _ _ _⟩
end Go.Proofs.Ytmgjjhpkhjebbaa.Pk
