/-
  What functions of the program do, told of abstract states. Conditions: as each theorem says.
-/
import Derived.Test.YthnleejpeocaeaaDoorFlQ
namespace Go.Proofs.YthnleejpeocaeaaDoor.Pk
open Go Go.Proofs Go.Proofs.YthnleejpeocaeaaDoor.Ab
set_option linter.unusedVariables false
set_option linter.unusedSimpArgs false
/-- What a chain makes of a record. -/
def chainX (L : List Vx) (r : Rec) : List Rec × Int × Int :=
  if (passX L 0 r ([], List.replicate L.length 0)).1.2 ≠ 0 then ([], (passX L 0 r ([], List.replicate L.length 0)).1)
  else ((passX L 0 r ([], List.replicate L.length 0)).2.1, (passX L 0 r ([], List.replicate L.length 0)).1.1, 0)
def chV (p : List Rec × Int × Int) : V := .tuple [.imm p.1.length (p.1.flatMap recE), .int .i64 p.2.1, .int .i64 p.2.2]
theorem chV_clo (p : List Rec × Int × Int) : Clo (chV p) := Clo.tuple (CloL.cons (immR _) (CloL.cons (Clo.int _ _) (CloL.cons (Clo.int _ _) CloL.nil)))
section
variable {h : AHeap} {a b c d e g o : AObj}
theorem get_push5e : (((((h.push a).push b).push c).push d).push e).get (h.n + 1 + 1 + 1 + 1) = e := by
  simp only [get_push, push_n]
  rw [if_pos trivial]
theorem set_push5e : (((((h.push a).push b).push c).push d).push e).set (h.n + 1 + 1 + 1 + 1) o = ((((h.push a).push b).push c).push d).push o := by
  rw [show h.n + 1 + 1 + 1 + 1 = ((((h.push a).push b).push c).push d).n from rfl, set_push]
theorem get_push6f : ((((((h.push a).push b).push c).push d).push e).push g).get (h.n + 1 + 1 + 1 + 1 + 1) = g := by
  simp only [get_push, push_n]
  rw [if_pos trivial]
theorem set_push6f : ((((((h.push a).push b).push c).push d).push e).push g).set (h.n + 1 + 1 + 1 + 1 + 1) o = (((((h.push a).push b).push c).push d).push e).push o := by
  rw [show h.n + 1 + 1 + 1 + 1 + 1 = (((((h.push a).push b).push c).push d).push e).n from rfl, set_push]
theorem get_push6a : ((((((h.push a).push b).push c).push d).push e).push g).get h.n = a := by
  simp only [get_push, push_n]
  rw [if_neg (by omega), if_neg (by omega), if_neg (by omega), if_neg (by omega), if_neg (by omega), if_pos trivial]
theorem get_push6b : ((((((h.push a).push b).push c).push d).push e).push g).get (h.n + 1) = b := by
  simp only [get_push, push_n]
  rw [if_neg (by omega), if_neg (by omega), if_neg (by omega), if_neg (by omega), if_pos trivial]
theorem get_push6c : ((((((h.push a).push b).push c).push d).push e).push g).get (h.n + 1 + 1) = c := by
  simp only [get_push, push_n]
  rw [if_neg (by omega), if_neg (by omega), if_neg (by omega), if_pos trivial]
theorem get_push6d : ((((((h.push a).push b).push c).push d).push e).push g).get (h.n + 1 + 1 + 1) = d := by
  simp only [get_push, push_n]
  rw [if_neg (by omega), if_neg (by omega), if_pos trivial]
theorem get_push6e : ((((((h.push a).push b).push c).push d).push e).push g).get (h.n + 1 + 1 + 1 + 1) = e := by
  simp only [get_push, push_n]
  rw [if_neg (by omega), if_pos trivial]
end
set_option maxHeartbeats 2000000 in
set_option maxRecDepth 10000 in
theorem pChain (L : List Vx) (hL : L.length ≤ 8) (r : Rec) (h : AHeap) (hg : KG h) : Pure Tryd.prog 6 [.imm L.length (L.flatMap encX), .agg (recE r)] h (chV (chainX L r)) := by
  refine Pure.of (chV_clo _) ?_
  refine SCalls.enterI (c := _) Tryd.func6 rfl (by kernel_rfl) (by simp) ?_
  have hcr : (V.agg (recE r)).cells = some (recE r) := rfl
  have mk : ∀ H : AHeap, aMake Tryd.prog 42 (.int .i64 ((L.length : Nat) : Int)) (.int .i64 ((L.length : Nat) : Int)) H = some (.sl H.n 0 L.length L.length, H.push (.cells (i64V (List.replicate L.length 0)) 3 none)) := fun H => by
    rw [make_go sl_42 (Nat.le_refl _) (by simp only; omega) (by omega), made_one]
    simp [i64V]
  obtain ⟨HH, hHH⟩ : ∃ x, x = (((((h.push (.cells [.imm L.length (L.flatMap encX)] 22 none)).push (.cells (recE r) 24 none)).push (.cells [.snil] 28 none)).push (.cells (i64V (List.replicate L.length 0)) 3 none)).push
    (.cells [.sl (h.n + 1 + 1 + 1) 0 L.length L.length] 42 none)).push (.cells [.func (.func 12) [] [.ptr h.n 0, .ptr (h.n + 1 + 1) 0, .ptr (h.n + 1 + 1 + 1 + 1) 0, .ptr (h.n + 1 + 1 + 1 + 1 + 1) 0]] 46 none) := ⟨_, rfl⟩
  have g0 : HH.get h.n = .cells [.imm L.length (L.flatMap encX)] 22 none := by rw [hHH]; exact get_push6a
  have g1 : HH.get (h.n + 1) = .cells (recE r) 24 none := by rw [hHH]; exact get_push6b
  have g2 : HH.get (h.n + 1 + 1) = .cells [.snil] 28 none := by rw [hHH]; exact get_push6c
  have g3 : HH.get (h.n + 1 + 1 + 1) = .cells (i64V (List.replicate L.length 0)) 3 none := by rw [hHH]; exact get_push6d
  have g4 : HH.get (h.n + 1 + 1 + 1 + 1) = .cells [.sl (h.n + 1 + 1 + 1) 0 L.length L.length] 42 none := by rw [hHH]; exact get_push6e
  have g5 : HH.get (h.n + 1 + 1 + 1 + 1 + 1) = .cells [.func (.func 12) [] [.ptr h.n 0, .ptr (h.n + 1 + 1) 0, .ptr (h.n + 1 + 1 + 1 + 1) 0, .ptr (h.n + 1 + 1 + 1 + 1 + 1) 0]] 46 none := by rw [hHH]; exact get_push6f
  have kH : Keep h HH none_ := by rw [hHH]; exact (((((Keep.push _ _ _).then_push _).then_push _).then_push _).then_push _).then_push _
  have nH : HH.n = h.n + 6 := by rw [hHH]; rfl
  have st : St h L ([], List.replicate L.length 0) HH := ⟨kH, by omega, g0, ⟨.snil, g2, Own.snil _ _ _, fun k hk => by simp [idOf] at hk⟩, g3, by simp only [List.length_replicate]; exact g4, g5⟩
  have hc : SCalls Tryd.prog 12 [.int .i64 0, .agg (recE r), .ptr h.n 0, .ptr (h.n + 1 + 1) 0, .ptr (h.n + 1 + 1 + 1 + 1) 0, .ptr (h.n + 1 + 1 + 1 + 1 + 1) 0] HH (fun q h' => q = .tuple [.int .i64 (passX L 0 r ([], List.replicate L.length 0)).1.1, .int .i64 (passX L 0 r ([], List.replicate L.length 0)).1.2] ∧ St h L (passX L 0 r ([], List.replicate L.length 0)).2 h') :=
    passC h hg L hL L 0 rfl (by omega) r ([], List.replicate L.length 0) (by simp) (by
      have : 4 ^ L.length ≤ 4 ^ 8 := Nat.pow_le_pow_right (by decide) hL
      simp only [List.length_nil, Nat.zero_add]
      omega) HH st
  have r0 : dropC (AObj.cells (recE r) 24 none) 0 = some (recE r) := rfl
  have lr0 : loadGo (some (some 3)) (some (recE r)) = some (.agg (recE r)) := rfl
  simp only [wpA_region, wpA_seq, seqQ_normal, goI_out, goI_ops, opsA_nil, opsA_cons, stepA_assign, stepA_alloc, stepA_box, stepA_load, stepA_store, stepA_makeSlice, stepA_makeFunc, stepA_len, thenV_some, thenH_some, thenS_some, eval_tmp, eval_const, put_some, put_none, enterF_zero, enterF_succ, absV_int, absV_snil, cells_sl, cells_imm, cells_func, one_sl, one_func, all_nil, all_cons, aLoad_eq, loadGo_one, aPlace_ptr, dropC_cells, aStore_eq, storeGo_ptr, setC_row, setAll_nil, setAll_cons, aAlloc_eq, aBox_eq, aLen_imm, push_n, get_push3a, Nat.reduceEqDiff, List.map_cons, List.map_nil, Option.map_some, Nat.zero_add, Nat.zero_le, List.length_cons, List.length_nil, List.drop_zero, List.set_cons_zero, if_true, if_false, Bool.and_self, Nat.le_refl, kt_22, lt_22, lt_24, lt_46, zc_28, zc_42, zc_46, zt_42, zt_46, hcr, mk, get_push5e, set_push5e, get_push6f, set_push6f]
  rw [← hHH]
  simp only [goI_ops, opsA_cons, stepA_callv, callvI_func, thenV_some, eval_tmp, eval_const, put_some, put_none, enterF_succ, absV_int, Nat.reduceEqDiff, List.map_cons, List.map_nil, List.nil_append, List.cons_append, if_true, if_false, g1, r0, lr0]
  refine callI_of cal12 hc (fun q h' ⟨e1, e2⟩ => ?_)
  subst e1
  obtain ⟨p, hp⟩ : ∃ p, p = passX L 0 r ([], List.replicate L.length 0) := ⟨_, rfl⟩
  have hG : chainX L r = if p.1.2 ≠ 0 then ([], p.1) else (p.2.1, p.1.1, 0) := by rw [hp]; rfl
  rw [← hp] at e2 ⊢
  by_cases he : p.1.2 = 0
  · have ce : (p.1.2 != 0) = false := by simp [he]
    rw [if_neg (by simp [he])] at hG
    obtain ⟨v, gv, ov, dv⟩ := e2.go
    obtain ⟨h2, cc, kk⟩ := Acc.cast (h0 := h) ⟨ov, e2.k, fun k hk => by have := dv k hk; omega⟩ (n := p.2.1.length) (recs_len _) (by decide)
    simp only [wpA_skip, wpA_region, wpA_seq, wpA_cond, wpA_ret, condI_false, seqQ_normal, endI_mk, goI_out, goI_ops, opsA_nil, opsA_cons, stepA_move, stepA_assign, stepA_load, stepA_binOp, stepA_extract, thenV_some, extV_zero, extV_succ, eval_tmp, eval_const, put_some, put_none, enterF_succ, aBin_neq, absV_int, aLoad_eq, loadGo_one, aPlace_ptr, dropC_cells, Nat.reduceEqDiff, Nat.zero_add, Nat.zero_le, List.length_cons, List.length_nil, List.drop_zero, if_true, if_false, lt_28, ce, gv, retA_ret, Tryd.results6, resultsA_3]
    exact hid_mk ⟨h2, by rw [hG]; exact Cast.tuple (CastL.cons cc (CastL.refl _ _)), kk⟩
  · have ce : (p.1.2 != 0) = true := by simp [he]
    rw [if_pos he] at hG
    simp only [wpA_region, wpA_seq, wpA_cond, wpA_ret, condI_true, seqQ_normal, seqQ_ret, endI_mk, goI_out, goI_ops, opsA_nil, opsA_cons, stepA_move, stepA_assign, stepA_binOp, stepA_extract, thenV_some, extV_zero, extV_succ, eval_tmp, eval_const, put_some, put_none, enterF_succ, aBin_neq, absV_int, absV_snil, Nat.reduceEqDiff, if_true, if_false, ce, retA_ret, Tryd.results6, resultsA_3]
    exact hid_mk ⟨_, by rw [hG]; exact Cast.tuple (CastL.cons (Cast.nil0 _) (CastL.refl _ _)), e2.k⟩
end Go.Proofs.YthnleejpeocaeaaDoor.Pk
