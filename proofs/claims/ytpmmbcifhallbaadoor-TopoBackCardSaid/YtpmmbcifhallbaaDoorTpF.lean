/-
  What functions of the program do, told of abstract states. Conditions: as each theorem says.
-/
import Derived.Test.YtpmmbcifhallbaaDoorTpE
namespace Go.Proofs.YtpmmbcifhallbaaDoor.Pk
open Go Go.Proofs Go.Proofs.YtpmmbcifhallbaaDoor.Ab
set_option linter.unusedVariables false
set_option linter.unusedSimpArgs false

/-! ### The same, of vertices that the caller has just laid -/
theorem rows_dropC {l : List Vx} {z : List V} {q : Nat} (hq : q < l.length) {e : TypeId} {ex : Option Nat} : dropC (AObj.cells (l.flatMap encX ++ z) e ex) (q * 6) = some (encX l[q] ++ ((l.drop (q + 1)).flatMap encX ++ z)) := by
  have hlen : (l.flatMap encX).length = l.length * 6 := rows_len encX_len l
  show (if q * 6 ≤ (l.flatMap encX ++ z).length then some ((l.flatMap encX ++ z).drop (q * 6)) else none) = _
  rw [if_pos (by rw [List.length_append]; omega), List.drop_append_of_le_length (by omega), rows_drop encX_len, List.drop_eq_getElem_cons hq, List.flatMap_cons, List.append_assoc]
theorem own_ix {F cap : Nat} {z : List V} {ex : Option Nat} {l : List Vx} {q : Nat} (hq : q < l.length) : aIndexAddr Tryd.prog 22 (.sl F 0 l.length cap) (.int .i64 (q : Int)) = some (.ptr F (q * 6)) ∧ dropC (AObj.cells (l.flatMap encX ++ z) 47 ex) (q * 6) = some (encX l[q] ++ ((l.drop (q + 1)).flatMap encX ++ z)) := by
  refine ⟨?_, rows_dropC hq⟩
  rw [aIndexAddr_eq, ss_22]
  rw [ixGo_sl]
  rw [if_pos (by omega)]
  simp
theorem kind_ixO {F cap : Nat} {z : List V} {ex : Option Nat} {l : List Vx} {q : Nat} (hq : q < l.length) : aIndexAddr Tryd.prog 22 (.sl F 0 l.length cap) (.int .i64 (q : Int)) = some (.ptr F (q * 6)) ∧ dropC (AObj.cells (l.flatMap encX ++ z) 47 ex) (q * 6) = some (encX l[q] ++ ((l.drop (q + 1)).flatMap encX ++ z)) ∧ (∀ r, loadGo (some none) (some (encX l[q] ++ r)) = some (.int .i64 (kindAt l (q : Int)))) :=
  ⟨(own_ix (F := F) (cap := cap) (z := z) (ex := ex) hq).1, (own_ix (F := F) (cap := cap) (z := z) (ex := ex) hq).2, (kind_ix hq).2.1⟩
set_option maxHeartbeats 2000000 in
set_option maxRecDepth 10000 in
theorem pCheck1O (F cap : Nat) (z : List V) (ex : Option Nat) (l : List Vx) (i m cl : Nat) (es : EntT) (hi : i < l.length) (hl24 : l.length ≤ 24) (v : Vx) (hv : l[i] = v) (hok : OkE v.e) (hfl : v.frm.length < 2 ^ 47) (h : AHeap) (hg : TG h) (hF : F < h.n) (gF : h.get F = .cells (l.flatMap encX ++ z) 47 ex) (hFm : F ≠ m) (hm : m < h.n) (gm : h.get m = .map (wT es) cl) (hT : TK (l.take i) es) :
    SCalls Tryd.prog 40 [.sl F 0 l.length cap, .int .i64 (i : Nat), .map m] h (fun r h' => r = .int .i64 (chkV l i v) ∧ Keep h h' (· = m) ∧ (chkV l i v = 0 → ∃ es' cl', h'.get m = .map (wT es') cl' ∧ TK (l.take (i + 1)) es')) := by
  have hX := encX_eq v
  obtain ⟨x0, xd⟩ := own_ix (F := F) (cap := cap) (z := z) (ex := ex) hi
  rw [hv] at xd
  have htk : l.take (i + 1) = l.take i ++ [v] := by rw [List.take_succ_eq_append_getElem hi, hv]
  have lr : ∀ (q : List V), loadGo (some (some 6)) (some (encX v ++ q)) = some (.agg (encX v)) := fun q => load_row (encX_len v)
  have hone : (V.agg (encX v)).cells = some (encX v) := rfl
  have hset : setC (some 6) (AObj.cells [.int .i64 0, .snil, .int .i64 0, .int .i64 0, .snil, .int .i64 0] 47 none) 0 (encX v) = some (.cells (encX v) 47 none) := by
    rw [setC_row (n := 6) (encX_len v) (encX_one v), if_pos (by decide), hX]; rfl
  have hl0 : loadGo (some none) (some (encX v)) = some (.int .i64 v.kind) := by rw [hX]; rfl
  have hd0 : dropC (AObj.cells (encX v) 47 none) 0 = some (encX v) := by rw [hX]; rfl
  have hd1 : dropC (AObj.cells (encX v) 47 none) 1 = some [.imm v.frm.length (i64V v.frm), .int .i64 v.e.op, .int .i64 v.e.num, .imm v.e.ks.length (v.e.ks.flatMap encE), .int .i64 v.n] := by rw [hX]; rfl
  have hd5 : dropC (AObj.cells (encX v) 47 none) 5 = some [.int .i64 v.n] := by rw [hX]; rfl
  have hld : loadGo (some (some 6)) (some (encX v)) = some (.agg (encX v)) := by rw [hX]; rfl
  obtain ⟨H, hH⟩ : ∃ x, x = h.push (.cells (encX v) 47 none) := ⟨_, rfl⟩
  have gv : H.get h.n = .cells (encX v) 47 none := by rw [hH]; exact get_push_new
  have kH : Keep h H none_ := by rw [hH]; exact Keep.push _ _ _
  have nH : H.n = h.n + 1 := by rw [hH]; rfl
  have gFH : H.get F = .cells (l.flatMap encX ++ z) 47 ex := (kH.get F hF (by simp [none_])).trans gF
  have gH : TG H := hg.keep kH
  have gmH : H.get m = .map (wT es) cl := (kH.get m hm (by simp [none_])).trans gm
  refine SCalls.enterI (c := _) Tryd.func40 rfl (by kernel_rfl) (by simp) ?_
  by_cases h1 : v.kind < 1
  · have c1 : decide (v.kind < 1) = true := by simpa using h1
    have hG : chkV l i v = 1 := by unfold chkV; rw [if_pos (.inl h1)]
    simp only [wpA_region, wpA_seq, wpA_cond, wpA_ret, condI_true, seqQ_normal, seqQ_ret, endI_mk, goI_out, goI_ops, opsA_nil, opsA_cons, opsA_guardS, gvI_tf, slotAt_zero, slotAt_succ, stepA_move, stepA_assign, stepA_pick, stepA_alloc, stepA_load, stepA_store, stepA_binOp, stepA_fieldAddr, stepA_indexAddr, thenV_some, thenH_some, thenS_some, pickV_true, eval_tmp, eval_const, put_some, put_none, enterF_zero, enterF_succ, aBin_lss, absV_int, absV_bool, aField_eq, fieldGo_ptr, aLoad_eq, aPlace_ptr, aStore_eq, storeGo_ptr, aAlloc_eq, get_push_new, set_push, Nat.reduceEqDiff, reduceCtorEq, Option.map_some, Nat.add_zero, if_true, if_false, ft_47_0, lt_3, lt_47, zc_47, zt_47, x0, gF, xd, lr, hone, hset, ← hH, gv, hl0, hd0, c1, retA_ret, Tryd.results40, resultsA_1]
    exact hid_mk ⟨by rw [hG], kH.up, fun hh => by rw [hG] at hh; cases hh⟩
  have c1 : decide (v.kind < 1) = false := by simpa using h1
  by_cases h2 : 10 < v.kind
  · have c2 : decide (10 < v.kind) = true := by simpa using h2
    have hG : chkV l i v = 1 := by unfold chkV; rw [if_pos (.inr h2)]
    simp only [wpA_region, wpA_seq, wpA_cond, wpA_ret, condI_true, seqQ_normal, seqQ_ret, endI_mk, goI_out, goI_ops, opsA_nil, opsA_cons, opsA_guardS, gvI_same, slotAt_zero, slotAt_succ, stepA_move, stepA_assign, stepA_pick, stepA_alloc, stepA_load, stepA_store, stepA_binOp, stepA_fieldAddr, stepA_indexAddr, thenV_some, thenH_some, thenS_some, pickV_false, eval_tmp, eval_const, put_some, put_none, enterF_zero, enterF_succ, aBin_lss, aBin_gtr, absV_int, absV_bool, aField_eq, fieldGo_ptr, aLoad_eq, aPlace_ptr, aStore_eq, storeGo_ptr, aAlloc_eq, get_push_new, set_push, Nat.reduceEqDiff, reduceCtorEq, Option.map_some, Nat.add_zero, if_true, if_false, ft_47_0, lt_3, lt_47, zc_47, zt_47, x0, gF, xd, lr, hone, hset, ← hH, gv, hl0, hd0, c1, c2, retA_ret, Tryd.results40, resultsA_1]
    exact hid_mk ⟨by rw [hG], kH.up, fun hh => by rw [hG] at hh; cases hh⟩
  have c2 : decide (10 < v.kind) = false := by simpa using h2
  simp only [wpA_skip, wpA_region, wpA_seq, wpA_cond, wpA_block, wpA_loop, condI_false, seqQ_normal, goI_out, goI_ops, opsA_nil, opsA_cons, opsA_guardS, gvI_same, slotAt_zero, slotAt_succ, stepA_move, stepA_assign, stepA_pick, stepA_alloc, stepA_load, stepA_store, stepA_binOp, stepA_fieldAddr, stepA_indexAddr, stepA_len, thenV_some, thenH_some, thenS_some, pickV_false, eval_tmp, eval_const, put_some, put_none, enterF_zero, enterF_succ, aBin_lss, aBin_gtr, absV_int, absV_bool, aField_eq, fieldGo_ptr, aLoad_eq, loadGo_one, aPlace_ptr, aStore_eq, storeGo_ptr, aAlloc_eq, aLen_imm, get_push_new, set_push, Nat.reduceEqDiff, reduceCtorEq, Option.map_some, Nat.add_zero, Nat.zero_add, if_true, if_false, ft_47_0, ft_47_1, kt_33, lt_3, lt_33, lt_47, zc_47, zt_47, x0, gF, xd, lr, hone, hset, ← hH, gv, hl0, hd0, hd1, c1, c2]
  refine SWp.loopG (α := Nat) (fun j f h' => f 0 = .sl F 0 l.length cap ∧ f 1 = .int .i64 (i : Nat) ∧ f 2 = .map m ∧ f 7 = .ptr h.n 0 ∧ f 28 = .imm v.frm.length (i64V v.frm) ∧ f 29 = .int .i64 ((v.frm.length : Nat) : Int) ∧ f 30 = .int .i64 (j : Nat) ∧ j ≤ v.frm.length ∧ h' = H ∧ ((v.frm.take j).any fun f => decide (f < 0 ∨ (i : Int) ≤ f)) = false) (fun j => v.frm.length - j) 0 ⟨rfl, rfl, rfl, rfl, rfl, rfl, rfl, Nat.zero_le _, rfl, rfl⟩ ?_
  rintro j f h' ⟨f0, f1, f2, f7, f28, f29, f30, hj, rfl, hA⟩
  refine wpI_sound (by kernel_rfl) ?_
  by_cases hlt : j < v.frm.length
  · have c3 : decide ((j : Int) < ((v.frm.length : Nat) : Int)) = true := by simp only [decide_eq_true_eq]; omega
    have x1 := i64V_ix' (P := Tryd.prog) (kk := .i64) hlt ss_33
    have w2 : IntKind.i64.wrap (((j : Nat) : Int) + 1) = ((j + 1 : Nat) : Int) := by rw [Go.IntWalk.i64_in _ (by omega)]; omega
    have hsn := any_take_succ (fun f => decide (f < 0 ∨ (i : Int) ≤ f)) hlt
    have hin : v.frm[j] ∈ v.frm := List.getElem_mem hlt
    generalize v.frm[j] = A at x1 hsn hin
    have bad : ∀ hb : A < 0 ∨ (i : Int) ≤ A, chkV l i v = 2 := fun hb => by
      unfold chkV
      rw [if_neg (by omega), if_pos (List.any_eq_true.2 ⟨A, hin, by simpa using hb⟩)]
    by_cases n1 : A < 0
    · have d1 : decide (A < 0) = true := by simpa using n1
      simp only [wpA_skip, wpA_region, wpA_seq, wpA_cond, wpA_block, wpA_ret, condI_true, seqQ_normal, seqQ_ret, blkQ_ret, endI_mk, goE, andThen_ret, goI_out, goI_ops, opsA_nil, opsA_cons, opsA_guardS, gvI_tf, slotAt_zero, slotAt_succ, stepA_move, stepA_assign, stepA_pick, stepA_load, stepA_binOp, stepA_indexAddr, thenV_some, pickV_true, eval_tmp, eval_const, put_some, aBin_lss, absV_int, absV_bool, aLoad_eq, loadGo_one, aPlace_at, Nat.reduceEqDiff, if_true, if_false, lt_3, f28, f29, f30, c3, x1, d1, retA_ret, Tryd.results40, resultsA_1]
      exact hid_mk ⟨by rw [bad (.inl n1)], kH.up, fun hh => by rw [bad (.inl n1)] at hh; cases hh⟩
    have d1 : decide (A < 0) = false := by simpa using n1
    by_cases n2 : (i : Int) ≤ A
    · have d2 : decide ((i : Int) ≤ A) = true := by simpa using n2
      simp only [wpA_skip, wpA_region, wpA_seq, wpA_cond, wpA_block, wpA_ret, condI_true, seqQ_normal, seqQ_ret, blkQ_ret, endI_mk, goE, andThen_ret, goI_out, goI_ops, opsA_nil, opsA_cons, opsA_guardS, gvI_same, slotAt_zero, slotAt_succ, stepA_move, stepA_assign, stepA_pick, stepA_load, stepA_binOp, stepA_indexAddr, thenV_some, pickV_false, eval_tmp, eval_const, put_some, aBin_lss, aBin_geq, absV_int, absV_bool, aLoad_eq, loadGo_one, aPlace_at, Nat.reduceEqDiff, if_true, if_false, lt_3, f1, f28, f29, f30, c3, x1, d1, d2, retA_ret, Tryd.results40, resultsA_1]
      exact hid_mk ⟨by rw [bad (.inr n2)], kH.up, fun hh => by rw [bad (.inr n2)] at hh; cases hh⟩
    have d2 : decide ((i : Int) ≤ A) = false := by simpa using n2
    simp only [wpA_skip, wpA_region, wpA_seq, wpA_cond, wpA_block, condI_true, condI_false, seqQ_normal, blkQ_normal, endI_mk, andThen_normal, goI_out, goI_ops, opsA_nil, opsA_cons, opsA_guardS, gvI_same, slotAt_zero, slotAt_succ, stepA_move, stepA_assign, stepA_pick, stepA_load, stepA_binOp, stepA_indexAddr, thenV_some, pickV_false, eval_tmp, eval_const, put_some, aBin_add, aBin_lss, aBin_geq, absV_int, absV_bool, aLoad_eq, loadGo_one, aPlace_at, Nat.reduceEqDiff, if_true, if_false, lt_3, f1, f28, f29, f30, c3, x1, d1, d2, w2]
    exact hid_mk ⟨j + 1, ⟨f0, f1, f2, f7, f28, f29, rfl, by omega, rfl, by rw [hsn, hA]; simp [n1, n2]⟩, by omega⟩
  have c3 : decide ((j : Int) < ((v.frm.length : Nat) : Int)) = false := by simp only [decide_eq_false_iff_not]; omega
  rw [List.take_of_length_le (by omega)] at hA
  have hrg : ∀ x ∈ v.frm, 0 ≤ x ∧ x < i := fun x hx => by
    rw [List.any_eq_false] at hA
    have := hA x hx
    simp only [decide_eq_true_eq] at this
    omega
  simp only [wpA_region, wpA_seq, wpA_cond, wpA_exit, wpA_draw, condI_false, seqQ_normal, seqQ_exit, blkQ_exit, endI_mk, goE, andThen_exit, goI_out, goI_ops, opsA_nil, opsA_cons, stepA_binOp, thenV_some, eval_tmp, put_some, aBin_lss, if_true, f29, f30, c3]
  have hgl : ∀ f : AFrame, AFrame.eval f h' (.global 0) = .at needsC := fun f => eval_glob gH.2
  have hix : (if (0 : Int) ≤ v.kind ∧ v.kind < ((11 : Nat) : Int) ∧ (v.kind.toNat * 4) ≤ needsC.length then some (V.at (needsC.drop (v.kind.toNat * 4))) else none) = some (.at (needsC.drop (v.kind.toNat * 4))) := if_pos ⟨by omega, by omega, by show _ ≤ 44; omega⟩
  have hld4 := need_ld v.kind.toNat (by omega)
  have hno : ¬ (v.kind < 1 ∨ 10 < v.kind) := by omega
  have hA2 : ¬ ((v.frm.any fun f => decide (f < 0 ∨ (i : Int) ≤ f)) = true) := by rw [hA]; simp
  refine SWp.drawnS none_ [] (.q 0 (.q 1 (.q 2 (.q 3 (.q 4 (.c 5 (.q 6 .done))))))) (by kernel_rfl) (by kernel_rfl) (by kernel_rfl) ?_
  simp only [siI_q, sqI_some, mOk_none', implies_true, qI_nil, qI_cons, thenQ_some, q_load, q_fieldAddr, q_indexAddr, goI_mk, eval_tmp, put_some, aField_eq, fieldGo_ptr, aLoad_eq, aPlace_ptr, aPlace_at, aIndexAddr_eq, ixGo_at, List.getElem?_cons_zero, List.getElem?_cons_succ, Nat.reduceEqDiff, Nat.add_zero, true_and, if_true, if_false, as_91, ft_47_0, lt_3, lt_47, lt_90, ss_91, f7, gv, hd0, hl0, hld, hgl, hix, hld4]
  refine siI_c rfl rfl rfl (fun h'' hk => pMeets v _ hok h'' (gH.or gH hk).1) ?_
  have hHas : meetsX v (needsR.getD v.kind.toNat (0, 0, 0, 0)) = hasX v := rfl
  cases c4 : hasX v
  · have hG : chkV l i v = 5 := by unfold chkV; rw [if_neg hno, if_neg hA2, if_pos c4]
    simp only [siI_done, siI_q, sqI_some, mOk_none', implies_true, qI_nil, qI_cons, thenQ_some, q_unOp, wpA_region, wpA_seq, wpA_cond, wpA_ret, condI_true, seqQ_normal, seqQ_ret, endI_mk, goI_out, goI_ops, goI_mk, opsA_nil, opsA_cons, stepA_assign, eval_tmp, eval_const, put_some, aUn_not, absV_int, List.getElem?_cons_zero, List.getElem?_cons_succ, Nat.reduceEqDiff, true_and, if_true, if_false, Bool.not_false, hHas, c4, retA_ret, Tryd.results40, resultsA_1]
    exact hid_mk ⟨by rw [hG], kH.up, fun hh => by rw [hG] at hh; cases hh⟩
  simp only [siI_done, siI_q, sqI_some, mOk_none', implies_true, qI_nil, qI_cons, thenQ_some, q_unOp, wpA_skip, wpA_region, wpA_seq, wpA_cond, condI_false, seqQ_normal, goI_out, goI_mk, opsA_cons, stepA_fieldAddr, eval_tmp, put_some, aUn_not, aField_eq, List.getElem?_cons_zero, List.getElem?_cons_succ, Nat.reduceEqDiff, true_and, if_true, if_false, Bool.not_true, ft_47_0, hHas, c4]
  have hno5 : ¬ (hasX v = false) := by rw [c4]; simp
  have hn : (V.agg [.int .i64 v.kind, .int .i64 v.n]).cells = some [.int .i64 v.kind, .int .i64 v.n] := rfl
  by_cases hs : v.kind = 1 ∨ v.kind = 10
  · obtain ⟨Hp, hHp⟩ : ∃ x, x = h'.push (.cells [.int .i64 v.kind, .int .i64 v.n] 93 none) := ⟨_, rfl⟩
    have gp : Hp.get h'.n = .cells [.int .i64 v.kind, .int .i64 v.n] 93 none := by rw [hHp]; exact get_push_new
    have kp : Keep h' Hp none_ := by rw [hHp]; exact Keep.push _ _ _
    have gvp : Hp.get h.n = .cells (encX v) 47 none := (kp.get h.n (by omega) (by simp [none_])).trans gv
    have gmp : Hp.get m = .map (wT es) cl := (kp.get m (by omega) (by simp [none_])).trans gmH
    have hlk := lookT es v.kind v.n gmp
    have hup := updT es v.kind v.n (i : Nat) gmp
    have htk2 : (kget es (v.kind, v.n)).isSome = takenX l i v := by
      rw [hT v.kind v.n hs]
      unfold takenX
      rcases hs with hs | hs <;> rw [hs] <;> rfl
    rw [htk2] at hlk
    have c56 : ((v.kind == 1) = true ∧ (v.kind == 10) = false) ∨ ((v.kind == 1) = false ∧ (v.kind == 10) = true) := by
      rcases hs with hs | hs <;> rw [hs] <;> simp
    cases c7 : takenX l i v
    · rw [c7] at hlk
      obtain ⟨HX, hHX⟩ : ∃ x, x = Hp.set m (.map (wT (kset cl es (v.kind, v.n) (i : Nat))) (kclk cl es (v.kind, v.n))) := ⟨_, rfl⟩
      have kS : Keep Hp HX (· = m) := by rw [hHX]; exact Keep.set _ _ _
      have gX : HX.get h.n = .cells (encX v) 47 none := (kS.get h.n (by rw [hHp, push_n]; omega) (by omega)).trans gvp
      have gmX : HX.get m = .map (wT (kset cl es (v.kind, v.n) (i : Nat))) (kclk cl es (v.kind, v.n)) := by rw [hHX]; exact get_set_same
      have gFX : HX.get F = .cells (l.flatMap encX ++ z) 47 ex := (kS.get F (by rw [hHp, push_n]; omega) hFm).trans ((kp.get F (by omega) (by simp [none_])).trans gFH)
      have kX : Keep h HX (· = m) := ((kH.trans' kp).up).trans' kS
      have hfin : ∃ es' cl', HX.get m = .map (wT es') cl' ∧ TK (l.take (i + 1)) es' := ⟨_, _, gmX, by rw [htk]; exact hT.set v _ _⟩
      rcases c56 with ⟨c5, c6⟩ | ⟨c5, c6⟩
      · simp only [wpA_skip, wpA_region, wpA_seq, wpA_cond, wpA_block, wpA_loop, condI_true, condI_false, seqQ_normal, goI_out, goI_ops, opsA_nil, opsA_cons, opsA_guardS, gvI_tf, slotAt_zero, slotAt_succ, stepA_move, stepA_assign, stepA_pick, stepA_alloc, stepA_build, stepA_load, stepA_store, stepA_binOp, stepA_fieldAddr, stepA_lookup, stepA_mapUpdate, stepA_extract, stepA_len, thenV_some, thenH_some, thenS_some, pickV_true, extV_zero, extV_succ, eval_tmp, eval_const, put_some, put_none, aBin_eql, absV_int, absV_bool, cells_int, one_int, all_nil, all_cons, aField_eq, fieldGo_ptr, aLoad_eq, loadGo_one, loadGo_row, aPlace_ptr, dropC_cells, aStore_eq, storeGo_ptr, setC_row, setAll_nil, setAll_cons, aAlloc_eq, aLen_imm, aBuild_go, aFill_nil, aFill_cons, fillGo_some, buildGo_struct, get_push_new, set_push, List.getElem?_cons_zero, List.getElem?_cons_succ, Nat.reduceEqDiff, Nat.reduceAdd, Nat.reduceLeDiff, List.map_cons, List.map_nil, Option.map_some, Nat.add_zero, Nat.zero_add, Nat.zero_le, List.length_cons, List.length_nil, List.drop_zero, List.take_succ_cons, List.take_nil, List.set_cons_zero, List.set_cons_succ, and_self, if_true, if_false, Bool.and_self, Nat.le_refl, ft_47_0, ft_47_1, ft_47_3, kt_33, lt_2, lt_3, lt_33, lt_93, pl_93, zc_93, zt_93, f1, f2, f7, gv, hl0, hd0, hd1, hd5, c5, hn, ← hHp, gp, hlk, hup, ← hHX, gX]
        refine SWp.loopG (α := Nat) (fun j f h1 => f 0 = .sl F 0 l.length cap ∧ f 7 = .ptr h.n 0 ∧ f 73 = .imm v.frm.length (i64V v.frm) ∧ f 74 = .int .i64 ((v.frm.length : Nat) : Int) ∧ f 75 = .int .i64 (j : Nat) ∧ j ≤ v.frm.length ∧ h1 = HX ∧ ((v.frm.take j).any fun f => kindAt l f == 10) = false) (fun j => v.frm.length - j) 0 ⟨f0, f7, rfl, rfl, rfl, Nat.zero_le _, rfl, rfl⟩ ?_
        rintro j2 f2' h1 ⟨g0, g7, g73, g74, g75, hj2, rfl, hB⟩
        refine wpI_sound (by kernel_rfl) ?_
        by_cases hlt2 : j2 < v.frm.length
        · have c8 : decide ((j2 : Int) < ((v.frm.length : Nat) : Int)) = true := by simp only [decide_eq_true_eq]; omega
          have x1 := i64V_ix' (P := Tryd.prog) (kk := .i64) hlt2 ss_33
          have w2 : IntKind.i64.wrap (((j2 : Nat) : Int) + 1) = ((j2 + 1 : Nat) : Int) := by rw [Go.IntWalk.i64_in _ (by omega)]; omega
          have hsn := any_take_succ (fun f => kindAt l f == 10) hlt2
          have hin : v.frm[j2] ∈ v.frm := List.getElem_mem hlt2
          generalize v.frm[j2] = A at x1 hsn hin
          obtain ⟨p1, p2⟩ := hrg A hin
          obtain ⟨q, rfl⟩ : ∃ q : Nat, A = (q : Int) := ⟨A.toNat, by omega⟩
          obtain ⟨x2, xd2, lu0⟩ := kind_ixO (F := F) (cap := cap) (z := z) (ex := ex) (l := l) (q := q) (by omega)
          cases c9 : (kindAt l (q : Int) == 10)
          · simp only [wpA_skip, wpA_region, wpA_seq, wpA_cond, wpA_block, condI_true, condI_false, seqQ_normal, blkQ_normal, endI_mk, andThen_normal, goI_out, goI_ops, opsA_nil, opsA_cons, stepA_move, stepA_assign, stepA_load, stepA_binOp, stepA_fieldAddr, stepA_indexAddr, thenV_some, eval_tmp, eval_const, put_some, aBin_add, aBin_eql, aBin_lss, absV_int, aField_eq, fieldGo_ptr, aLoad_eq, loadGo_one, aPlace_ptr, aPlace_at, Nat.reduceEqDiff, reduceCtorEq, Nat.add_zero, if_true, if_false, ft_47_0, lt_3, g0, g73, g74, g75, c8, x1, x2, gFX, xd2, lu0, c9, w2]
            exact hid_mk ⟨j2 + 1, ⟨g0, g7, g73, g74, rfl, by omega, rfl, by rw [hsn, hB, c9]; rfl⟩, by omega⟩
          · have hG : chkV l i v = 5 := by
              unfold chkV
              rw [if_neg hno, if_neg hA2, if_neg hno5, if_neg (by rw [c7]; simp), if_pos (List.any_eq_true.2 ⟨_, hin, c9⟩)]
            simp only [wpA_skip, wpA_region, wpA_seq, wpA_cond, wpA_block, wpA_ret, condI_true, seqQ_normal, seqQ_ret, blkQ_ret, endI_mk, goE, andThen_ret, goI_out, goI_ops, opsA_nil, opsA_cons, stepA_move, stepA_assign, stepA_load, stepA_binOp, stepA_fieldAddr, stepA_indexAddr, thenV_some, eval_tmp, eval_const, put_some, aBin_eql, aBin_lss, absV_int, aField_eq, fieldGo_ptr, aLoad_eq, loadGo_one, aPlace_ptr, aPlace_at, Nat.reduceEqDiff, reduceCtorEq, Nat.add_zero, if_true, if_false, ft_47_0, lt_3, g0, g73, g74, g75, c8, x1, x2, gFX, xd2, lu0, c9, retA_ret, Tryd.results40, resultsA_1]
            exact hid_mk ⟨by rw [hG], kX, fun hh => by rw [hG] at hh; cases hh⟩
        have c8 : decide ((j2 : Int) < ((v.frm.length : Nat) : Int)) = false := by simp only [decide_eq_false_iff_not]; omega
        rw [List.take_of_length_le (by omega)] at hB
        have hB2 : ¬ ((v.frm.any fun f => kindAt l f == 10) = true) := by rw [hB]; simp
        by_cases h9 : v.kind = 9
        · have c9 : (v.kind == 9) = true := by simp [h9]
          have hlen : v.frm.length = 2 := has9 h9 c4
          have x1 := frm_1 (l := v.frm) (by omega)
          have hge : v.frm.getD 1 0 = v.frm[1] := by rw [List.getD, List.getElem?_eq_getElem (by omega)]; rfl
          have hin : v.frm[1] ∈ v.frm := List.getElem_mem _
          have hG : chkV l i v = if v.kind = 9 ∧ kindAt l v.frm[1] ≠ 6 then 5 else 0 := by
            unfold chkV
            rw [if_neg hno, if_neg hA2, if_neg hno5, if_neg (by rw [c7]; simp), if_neg hB2, hge]
          generalize v.frm[1] = A at x1 hin hG
          obtain ⟨p1, p2⟩ := hrg A hin
          obtain ⟨q, rfl⟩ : ∃ q : Nat, A = (q : Int) := ⟨A.toNat, by omega⟩
          obtain ⟨x2, xd2, lu0⟩ := kind_ixO (F := F) (cap := cap) (z := z) (ex := ex) (l := l) (q := q) (by omega)
          by_cases h6 : kindAt l (q : Int) = 6
          · have c10 : (kindAt l (q : Int) != 6) = false := by simp [h6]
            rw [if_neg (by simp [h6])] at hG
            simp only [wpA_skip, wpA_region, wpA_seq, wpA_cond, wpA_exit, wpA_ret, condI_false, seqQ_normal, seqQ_exit, blkQ_exit, endI_mk, goE, andThen_exit, goI_out, goI_ops, opsA_nil, opsA_cons, opsA_guardS, gvI_same, slotAt_zero, slotAt_succ, stepA_move, stepA_assign, stepA_pick, stepA_load, stepA_binOp, stepA_fieldAddr, stepA_indexAddr, thenV_some, pickV_true, eval_tmp, eval_const, put_some, aBin_eql, aBin_neq, aBin_lss, absV_int, absV_bool, aField_eq, fieldGo_ptr, aLoad_eq, loadGo_one, aPlace_ptr, aPlace_at, aIndexAddr_eq, ixGo_imm, Int.reduceLE, Nat.reduceEqDiff, reduceCtorEq, Nat.add_zero, Nat.zero_add, true_and, if_true, if_false, as_33, ft_47_0, ft_47_1, lt_3, lt_33, ss_33, g0, g7, g74, g75, c8, c9, gX, hl0, hd0, hd1, x1, x2, gFX, xd2, lu0, c10, retA_ret, Tryd.results40, resultsA_1]
            exact hid_mk ⟨by rw [hG], kX, fun _ => hfin⟩
          · have c10 : (kindAt l (q : Int) != 6) = true := by simp [h6]
            rw [if_pos ⟨h9, h6⟩] at hG
            simp only [wpA_region, wpA_seq, wpA_cond, wpA_exit, wpA_ret, condI_true, condI_false, seqQ_normal, seqQ_exit, seqQ_ret, blkQ_exit, endI_mk, goE, andThen_exit, goI_out, goI_ops, opsA_nil, opsA_cons, opsA_guardS, gvI_same, slotAt_zero, slotAt_succ, stepA_move, stepA_assign, stepA_pick, stepA_load, stepA_binOp, stepA_fieldAddr, stepA_indexAddr, thenV_some, pickV_true, eval_tmp, eval_const, put_some, aBin_eql, aBin_neq, aBin_lss, absV_int, absV_bool, aField_eq, fieldGo_ptr, aLoad_eq, loadGo_one, aPlace_ptr, aPlace_at, aIndexAddr_eq, ixGo_imm, Int.reduceLE, Nat.reduceEqDiff, reduceCtorEq, Nat.add_zero, Nat.zero_add, true_and, if_true, if_false, as_33, ft_47_0, ft_47_1, lt_3, lt_33, ss_33, g0, g7, g74, g75, c8, c9, gX, hl0, hd0, hd1, x1, x2, gFX, xd2, lu0, c10, retA_ret, Tryd.results40, resultsA_1]
            exact hid_mk ⟨by rw [hG], kX, fun hh => by rw [hG] at hh; cases hh⟩
        · have c9 : (v.kind == 9) = false := by simp [h9]
          have hG : chkV l i v = 0 := by
            unfold chkV
            rw [if_neg hno, if_neg hA2, if_neg hno5, if_neg (by rw [c7]; simp), if_neg hB2, if_neg (by simp [h9])]
          simp only [wpA_skip, wpA_region, wpA_seq, wpA_cond, wpA_exit, wpA_ret, condI_false, seqQ_normal, seqQ_exit, blkQ_exit, endI_mk, goE, andThen_exit, goI_out, goI_ops, opsA_nil, opsA_cons, opsA_guardS, gvI_ft, slotAt_zero, slotAt_succ, stepA_move, stepA_assign, stepA_pick, stepA_load, stepA_binOp, stepA_fieldAddr, thenV_some, pickV_false, eval_tmp, eval_const, put_some, aBin_eql, aBin_lss, absV_int, absV_bool, aField_eq, fieldGo_ptr, aLoad_eq, aPlace_ptr, Nat.reduceEqDiff, Nat.add_zero, if_true, if_false, ft_47_0, lt_3, g7, g74, g75, c8, c9, gX, hl0, hd0, retA_ret, Tryd.results40, resultsA_1]
          exact hid_mk ⟨by rw [hG], kX, fun _ => hfin⟩
      · simp only [wpA_skip, wpA_region, wpA_seq, wpA_cond, wpA_block, wpA_loop, condI_true, condI_false, seqQ_normal, goI_out, goI_ops, opsA_nil, opsA_cons, opsA_guardS, gvI_same, slotAt_zero, slotAt_succ, stepA_move, stepA_assign, stepA_pick, stepA_alloc, stepA_build, stepA_load, stepA_store, stepA_binOp, stepA_fieldAddr, stepA_lookup, stepA_mapUpdate, stepA_extract, stepA_len, thenV_some, thenH_some, thenS_some, pickV_false, extV_zero, extV_succ, eval_tmp, eval_const, put_some, put_none, aBin_eql, absV_int, absV_bool, cells_int, one_int, all_nil, all_cons, aField_eq, fieldGo_ptr, aLoad_eq, loadGo_one, loadGo_row, aPlace_ptr, dropC_cells, aStore_eq, storeGo_ptr, setC_row, setAll_nil, setAll_cons, aAlloc_eq, aLen_imm, aBuild_go, aFill_nil, aFill_cons, fillGo_some, buildGo_struct, get_push_new, set_push, List.getElem?_cons_zero, List.getElem?_cons_succ, Nat.reduceEqDiff, Nat.reduceAdd, Nat.reduceLeDiff, List.map_cons, List.map_nil, Option.map_some, Nat.add_zero, Nat.zero_add, Nat.zero_le, List.length_cons, List.length_nil, List.drop_zero, List.take_succ_cons, List.take_nil, List.set_cons_zero, List.set_cons_succ, and_self, if_true, if_false, Bool.and_self, Nat.le_refl, ft_47_0, ft_47_1, ft_47_3, kt_33, lt_2, lt_3, lt_33, lt_93, pl_93, zc_93, zt_93, f1, f2, f7, gv, hl0, hd0, hd1, hd5, c5, c6, hn, ← hHp, gp, hlk, hup, ← hHX, gX]
        refine SWp.loopG (α := Nat) (fun j f h1 => f 0 = .sl F 0 l.length cap ∧ f 7 = .ptr h.n 0 ∧ f 73 = .imm v.frm.length (i64V v.frm) ∧ f 74 = .int .i64 ((v.frm.length : Nat) : Int) ∧ f 75 = .int .i64 (j : Nat) ∧ j ≤ v.frm.length ∧ h1 = HX ∧ ((v.frm.take j).any fun f => kindAt l f == 10) = false) (fun j => v.frm.length - j) 0 ⟨f0, f7, rfl, rfl, rfl, Nat.zero_le _, rfl, rfl⟩ ?_
        rintro j2 f2' h1 ⟨g0, g7, g73, g74, g75, hj2, rfl, hB⟩
        refine wpI_sound (by kernel_rfl) ?_
        by_cases hlt2 : j2 < v.frm.length
        · have c8 : decide ((j2 : Int) < ((v.frm.length : Nat) : Int)) = true := by simp only [decide_eq_true_eq]; omega
          have x1 := i64V_ix' (P := Tryd.prog) (kk := .i64) hlt2 ss_33
          have w2 : IntKind.i64.wrap (((j2 : Nat) : Int) + 1) = ((j2 + 1 : Nat) : Int) := by rw [Go.IntWalk.i64_in _ (by omega)]; omega
          have hsn := any_take_succ (fun f => kindAt l f == 10) hlt2
          have hin : v.frm[j2] ∈ v.frm := List.getElem_mem hlt2
          generalize v.frm[j2] = A at x1 hsn hin
          obtain ⟨p1, p2⟩ := hrg A hin
          obtain ⟨q, rfl⟩ : ∃ q : Nat, A = (q : Int) := ⟨A.toNat, by omega⟩
          obtain ⟨x2, xd2, lu0⟩ := kind_ixO (F := F) (cap := cap) (z := z) (ex := ex) (l := l) (q := q) (by omega)
          cases c9 : (kindAt l (q : Int) == 10)
          · simp only [wpA_skip, wpA_region, wpA_seq, wpA_cond, wpA_block, condI_true, condI_false, seqQ_normal, blkQ_normal, endI_mk, andThen_normal, goI_out, goI_ops, opsA_nil, opsA_cons, stepA_move, stepA_assign, stepA_load, stepA_binOp, stepA_fieldAddr, stepA_indexAddr, thenV_some, eval_tmp, eval_const, put_some, aBin_add, aBin_eql, aBin_lss, absV_int, aField_eq, fieldGo_ptr, aLoad_eq, loadGo_one, aPlace_ptr, aPlace_at, Nat.reduceEqDiff, reduceCtorEq, Nat.add_zero, if_true, if_false, ft_47_0, lt_3, g0, g73, g74, g75, c8, x1, x2, gFX, xd2, lu0, c9, w2]
            exact hid_mk ⟨j2 + 1, ⟨g0, g7, g73, g74, rfl, by omega, rfl, by rw [hsn, hB, c9]; rfl⟩, by omega⟩
          · have hG : chkV l i v = 5 := by
              unfold chkV
              rw [if_neg hno, if_neg hA2, if_neg hno5, if_neg (by rw [c7]; simp), if_pos (List.any_eq_true.2 ⟨_, hin, c9⟩)]
            simp only [wpA_skip, wpA_region, wpA_seq, wpA_cond, wpA_block, wpA_ret, condI_true, seqQ_normal, seqQ_ret, blkQ_ret, endI_mk, goE, andThen_ret, goI_out, goI_ops, opsA_nil, opsA_cons, stepA_move, stepA_assign, stepA_load, stepA_binOp, stepA_fieldAddr, stepA_indexAddr, thenV_some, eval_tmp, eval_const, put_some, aBin_eql, aBin_lss, absV_int, aField_eq, fieldGo_ptr, aLoad_eq, loadGo_one, aPlace_ptr, aPlace_at, Nat.reduceEqDiff, reduceCtorEq, Nat.add_zero, if_true, if_false, ft_47_0, lt_3, g0, g73, g74, g75, c8, x1, x2, gFX, xd2, lu0, c9, retA_ret, Tryd.results40, resultsA_1]
            exact hid_mk ⟨by rw [hG], kX, fun hh => by rw [hG] at hh; cases hh⟩
        have c8 : decide ((j2 : Int) < ((v.frm.length : Nat) : Int)) = false := by simp only [decide_eq_false_iff_not]; omega
        rw [List.take_of_length_le (by omega)] at hB
        have hB2 : ¬ ((v.frm.any fun f => kindAt l f == 10) = true) := by rw [hB]; simp
        by_cases h9 : v.kind = 9
        · have c9 : (v.kind == 9) = true := by simp [h9]
          have hlen : v.frm.length = 2 := has9 h9 c4
          have x1 := frm_1 (l := v.frm) (by omega)
          have hge : v.frm.getD 1 0 = v.frm[1] := by rw [List.getD, List.getElem?_eq_getElem (by omega)]; rfl
          have hin : v.frm[1] ∈ v.frm := List.getElem_mem _
          have hG : chkV l i v = if v.kind = 9 ∧ kindAt l v.frm[1] ≠ 6 then 5 else 0 := by
            unfold chkV
            rw [if_neg hno, if_neg hA2, if_neg hno5, if_neg (by rw [c7]; simp), if_neg hB2, hge]
          generalize v.frm[1] = A at x1 hin hG
          obtain ⟨p1, p2⟩ := hrg A hin
          obtain ⟨q, rfl⟩ : ∃ q : Nat, A = (q : Int) := ⟨A.toNat, by omega⟩
          obtain ⟨x2, xd2, lu0⟩ := kind_ixO (F := F) (cap := cap) (z := z) (ex := ex) (l := l) (q := q) (by omega)
          by_cases h6 : kindAt l (q : Int) = 6
          · have c10 : (kindAt l (q : Int) != 6) = false := by simp [h6]
            rw [if_neg (by simp [h6])] at hG
            simp only [wpA_skip, wpA_region, wpA_seq, wpA_cond, wpA_exit, wpA_ret, condI_false, seqQ_normal, seqQ_exit, blkQ_exit, endI_mk, goE, andThen_exit, goI_out, goI_ops, opsA_nil, opsA_cons, opsA_guardS, gvI_same, slotAt_zero, slotAt_succ, stepA_move, stepA_assign, stepA_pick, stepA_load, stepA_binOp, stepA_fieldAddr, stepA_indexAddr, thenV_some, pickV_true, eval_tmp, eval_const, put_some, aBin_eql, aBin_neq, aBin_lss, absV_int, absV_bool, aField_eq, fieldGo_ptr, aLoad_eq, loadGo_one, aPlace_ptr, aPlace_at, aIndexAddr_eq, ixGo_imm, Int.reduceLE, Nat.reduceEqDiff, reduceCtorEq, Nat.add_zero, Nat.zero_add, true_and, if_true, if_false, as_33, ft_47_0, ft_47_1, lt_3, lt_33, ss_33, g0, g7, g74, g75, c8, c9, gX, hl0, hd0, hd1, x1, x2, gFX, xd2, lu0, c10, retA_ret, Tryd.results40, resultsA_1]
            exact hid_mk ⟨by rw [hG], kX, fun _ => hfin⟩
          · have c10 : (kindAt l (q : Int) != 6) = true := by simp [h6]
            rw [if_pos ⟨h9, h6⟩] at hG
            simp only [wpA_region, wpA_seq, wpA_cond, wpA_exit, wpA_ret, condI_true, condI_false, seqQ_normal, seqQ_exit, seqQ_ret, blkQ_exit, endI_mk, goE, andThen_exit, goI_out, goI_ops, opsA_nil, opsA_cons, opsA_guardS, gvI_same, slotAt_zero, slotAt_succ, stepA_move, stepA_assign, stepA_pick, stepA_load, stepA_binOp, stepA_fieldAddr, stepA_indexAddr, thenV_some, pickV_true, eval_tmp, eval_const, put_some, aBin_eql, aBin_neq, aBin_lss, absV_int, absV_bool, aField_eq, fieldGo_ptr, aLoad_eq, loadGo_one, aPlace_ptr, aPlace_at, aIndexAddr_eq, ixGo_imm, Int.reduceLE, Nat.reduceEqDiff, reduceCtorEq, Nat.add_zero, Nat.zero_add, true_and, if_true, if_false, as_33, ft_47_0, ft_47_1, lt_3, lt_33, ss_33, g0, g7, g74, g75, c8, c9, gX, hl0, hd0, hd1, x1, x2, gFX, xd2, lu0, c10, retA_ret, Tryd.results40, resultsA_1]
            exact hid_mk ⟨by rw [hG], kX, fun hh => by rw [hG] at hh; cases hh⟩
        · have c9 : (v.kind == 9) = false := by simp [h9]
          have hG : chkV l i v = 0 := by
            unfold chkV
            rw [if_neg hno, if_neg hA2, if_neg hno5, if_neg (by rw [c7]; simp), if_neg hB2, if_neg (by simp [h9])]
          simp only [wpA_skip, wpA_region, wpA_seq, wpA_cond, wpA_exit, wpA_ret, condI_false, seqQ_normal, seqQ_exit, blkQ_exit, endI_mk, goE, andThen_exit, goI_out, goI_ops, opsA_nil, opsA_cons, opsA_guardS, gvI_ft, slotAt_zero, slotAt_succ, stepA_move, stepA_assign, stepA_pick, stepA_load, stepA_binOp, stepA_fieldAddr, thenV_some, pickV_false, eval_tmp, eval_const, put_some, aBin_eql, aBin_lss, absV_int, absV_bool, aField_eq, fieldGo_ptr, aLoad_eq, aPlace_ptr, Nat.reduceEqDiff, Nat.add_zero, if_true, if_false, ft_47_0, lt_3, g7, g74, g75, c8, c9, gX, hl0, hd0, retA_ret, Tryd.results40, resultsA_1]
          exact hid_mk ⟨by rw [hG], kX, fun _ => hfin⟩
    · rw [c7] at hlk
      have hG : chkV l i v = 12 := by unfold chkV; rw [if_neg hno, if_neg hA2, if_neg hno5, if_pos c7]
      rcases c56 with ⟨c5, c6⟩ | ⟨c5, c6⟩
      · simp only [wpA_region, wpA_seq, wpA_cond, wpA_ret, condI_true, seqQ_normal, seqQ_ret, endI_mk, goI_out, goI_ops, opsA_nil, opsA_cons, opsA_guardS, gvI_tf, slotAt_zero, slotAt_succ, stepA_move, stepA_assign, stepA_pick, stepA_alloc, stepA_build, stepA_load, stepA_store, stepA_binOp, stepA_fieldAddr, stepA_lookup, stepA_extract, thenV_some, thenH_some, thenS_some, pickV_true, extV_zero, extV_succ, eval_tmp, eval_const, put_some, put_none, aBin_eql, absV_int, absV_bool, cells_int, one_int, all_nil, all_cons, aField_eq, fieldGo_ptr, aLoad_eq, loadGo_one, loadGo_row, aPlace_ptr, dropC_cells, aStore_eq, storeGo_ptr, setC_row, setAll_nil, setAll_cons, aAlloc_eq, aBuild_go, aFill_nil, aFill_cons, fillGo_some, buildGo_struct, get_push_new, set_push, List.getElem?_cons_zero, List.getElem?_cons_succ, Nat.reduceEqDiff, Nat.reduceAdd, Nat.reduceLeDiff, List.map_cons, List.map_nil, Option.map_some, Nat.add_zero, Nat.zero_add, Nat.zero_le, List.length_cons, List.length_nil, List.drop_zero, List.take_succ_cons, List.take_nil, List.set_cons_zero, List.set_cons_succ, and_self, if_true, if_false, Bool.and_self, Nat.le_refl, ft_47_0, ft_47_3, lt_2, lt_3, lt_93, pl_93, zc_93, zt_93, f2, f7, gv, hl0, hd0, hd5, c5, hn, ← hHp, gp, hlk, retA_ret, Tryd.results40, resultsA_1]
        exact hid_mk ⟨by rw [hG], (kH.trans' kp).up, fun hh => by rw [hG] at hh; cases hh⟩
      · simp only [wpA_region, wpA_seq, wpA_cond, wpA_ret, condI_true, seqQ_normal, seqQ_ret, endI_mk, goI_out, goI_ops, opsA_nil, opsA_cons, opsA_guardS, gvI_same, slotAt_zero, slotAt_succ, stepA_move, stepA_assign, stepA_pick, stepA_alloc, stepA_build, stepA_load, stepA_store, stepA_binOp, stepA_fieldAddr, stepA_lookup, stepA_extract, thenV_some, thenH_some, thenS_some, pickV_false, extV_zero, extV_succ, eval_tmp, eval_const, put_some, put_none, aBin_eql, absV_int, absV_bool, cells_int, one_int, all_nil, all_cons, aField_eq, fieldGo_ptr, aLoad_eq, loadGo_one, loadGo_row, aPlace_ptr, dropC_cells, aStore_eq, storeGo_ptr, setC_row, setAll_nil, setAll_cons, aAlloc_eq, aBuild_go, aFill_nil, aFill_cons, fillGo_some, buildGo_struct, get_push_new, set_push, List.getElem?_cons_zero, List.getElem?_cons_succ, Nat.reduceEqDiff, Nat.reduceAdd, Nat.reduceLeDiff, List.map_cons, List.map_nil, Option.map_some, Nat.add_zero, Nat.zero_add, Nat.zero_le, List.length_cons, List.length_nil, List.drop_zero, List.take_succ_cons, List.take_nil, List.set_cons_zero, List.set_cons_succ, and_self, if_true, if_false, Bool.and_self, Nat.le_refl, ft_47_0, ft_47_3, lt_2, lt_3, lt_93, pl_93, zc_93, zt_93, f2, f7, gv, hl0, hd0, hd5, c5, c6, hn, ← hHp, gp, hlk, retA_ret, Tryd.results40, resultsA_1]
        exact hid_mk ⟨by rw [hG], (kH.trans' kp).up, fun hh => by rw [hG] at hh; cases hh⟩
  · have c5 : (v.kind == 1) = false := by simp; omega
    have c6 : (v.kind == 10) = false := by simp; omega
    have c7 : takenX l i v = false := by unfold takenX; rw [c5, c6]; rfl
    obtain ⟨HX, hHX⟩ : ∃ x, x = h' := ⟨_, rfl⟩
    have hfin : ∃ es' cl', HX.get m = .map (wT es') cl' ∧ TK (l.take (i + 1)) es' := ⟨_, _, by rw [hHX]; exact gmH, by rw [htk]; exact hT.skip hs⟩
    have gFX : HX.get F = .cells (l.flatMap encX ++ z) 47 ex := by rw [hHX]; exact gFH
    have kX : Keep h HX (· = m) := by rw [hHX]; exact kH.up
    have gX : HX.get h.n = .cells (encX v) 47 none := by rw [hHX]; exact gv
    simp only [wpA_skip, wpA_region, wpA_seq, wpA_cond, wpA_block, wpA_loop, condI_false, seqQ_normal, goI_out, goI_ops, opsA_nil, opsA_cons, opsA_guardS, gvI_same, slotAt_zero, slotAt_succ, stepA_move, stepA_pick, stepA_load, stepA_binOp, stepA_fieldAddr, stepA_len, thenV_some, pickV_false, eval_tmp, eval_const, put_some, aBin_eql, absV_int, absV_bool, aField_eq, fieldGo_ptr, aLoad_eq, loadGo_one, aPlace_ptr, aLen_imm, Nat.reduceEqDiff, Nat.add_zero, Nat.zero_add, if_true, if_false, ft_47_0, ft_47_1, kt_33, lt_3, lt_33, f7, ← hHX, gX, hl0, hd0, hd1, c5, c6]
    refine SWp.loopG (α := Nat) (fun j f h1 => f 0 = .sl F 0 l.length cap ∧ f 7 = .ptr h.n 0 ∧ f 73 = .imm v.frm.length (i64V v.frm) ∧ f 74 = .int .i64 ((v.frm.length : Nat) : Int) ∧ f 75 = .int .i64 (j : Nat) ∧ j ≤ v.frm.length ∧ h1 = HX ∧ ((v.frm.take j).any fun f => kindAt l f == 10) = false) (fun j => v.frm.length - j) 0 ⟨f0, f7, rfl, rfl, rfl, Nat.zero_le _, rfl, rfl⟩ ?_
    rintro j2 f2' h1 ⟨g0, g7, g73, g74, g75, hj2, rfl, hB⟩
    refine wpI_sound (by kernel_rfl) ?_
    by_cases hlt2 : j2 < v.frm.length
    · have c8 : decide ((j2 : Int) < ((v.frm.length : Nat) : Int)) = true := by simp only [decide_eq_true_eq]; omega
      have x1 := i64V_ix' (P := Tryd.prog) (kk := .i64) hlt2 ss_33
      have w2 : IntKind.i64.wrap (((j2 : Nat) : Int) + 1) = ((j2 + 1 : Nat) : Int) := by rw [Go.IntWalk.i64_in _ (by omega)]; omega
      have hsn := any_take_succ (fun f => kindAt l f == 10) hlt2
      have hin : v.frm[j2] ∈ v.frm := List.getElem_mem hlt2
      generalize v.frm[j2] = A at x1 hsn hin
      obtain ⟨p1, p2⟩ := hrg A hin
      obtain ⟨q, rfl⟩ : ∃ q : Nat, A = (q : Int) := ⟨A.toNat, by omega⟩
      obtain ⟨x2, xd2, lu0⟩ := kind_ixO (F := F) (cap := cap) (z := z) (ex := ex) (l := l) (q := q) (by omega)
      cases c9 : (kindAt l (q : Int) == 10)
      · simp only [wpA_skip, wpA_region, wpA_seq, wpA_cond, wpA_block, condI_true, condI_false, seqQ_normal, blkQ_normal, endI_mk, andThen_normal, goI_out, goI_ops, opsA_nil, opsA_cons, stepA_move, stepA_assign, stepA_load, stepA_binOp, stepA_fieldAddr, stepA_indexAddr, thenV_some, eval_tmp, eval_const, put_some, aBin_add, aBin_eql, aBin_lss, absV_int, aField_eq, fieldGo_ptr, aLoad_eq, loadGo_one, aPlace_ptr, aPlace_at, Nat.reduceEqDiff, reduceCtorEq, Nat.add_zero, if_true, if_false, ft_47_0, lt_3, g0, g73, g74, g75, c8, x1, x2, gFX, xd2, lu0, c9, w2]
        exact hid_mk ⟨j2 + 1, ⟨g0, g7, g73, g74, rfl, by omega, rfl, by rw [hsn, hB, c9]; rfl⟩, by omega⟩
      · have hG : chkV l i v = 5 := by
          unfold chkV
          rw [if_neg hno, if_neg hA2, if_neg hno5, if_neg (by rw [c7]; simp), if_pos (List.any_eq_true.2 ⟨_, hin, c9⟩)]
        simp only [wpA_skip, wpA_region, wpA_seq, wpA_cond, wpA_block, wpA_ret, condI_true, seqQ_normal, seqQ_ret, blkQ_ret, endI_mk, goE, andThen_ret, goI_out, goI_ops, opsA_nil, opsA_cons, stepA_move, stepA_assign, stepA_load, stepA_binOp, stepA_fieldAddr, stepA_indexAddr, thenV_some, eval_tmp, eval_const, put_some, aBin_eql, aBin_lss, absV_int, aField_eq, fieldGo_ptr, aLoad_eq, loadGo_one, aPlace_ptr, aPlace_at, Nat.reduceEqDiff, reduceCtorEq, Nat.add_zero, if_true, if_false, ft_47_0, lt_3, g0, g73, g74, g75, c8, x1, x2, gFX, xd2, lu0, c9, retA_ret, Tryd.results40, resultsA_1]
        exact hid_mk ⟨by rw [hG], kX, fun hh => by rw [hG] at hh; cases hh⟩
    have c8 : decide ((j2 : Int) < ((v.frm.length : Nat) : Int)) = false := by simp only [decide_eq_false_iff_not]; omega
    rw [List.take_of_length_le (by omega)] at hB
    have hB2 : ¬ ((v.frm.any fun f => kindAt l f == 10) = true) := by rw [hB]; simp
    by_cases h9 : v.kind = 9
    · have c9 : (v.kind == 9) = true := by simp [h9]
      have hlen : v.frm.length = 2 := has9 h9 c4
      have x1 := frm_1 (l := v.frm) (by omega)
      have hge : v.frm.getD 1 0 = v.frm[1] := by rw [List.getD, List.getElem?_eq_getElem (by omega)]; rfl
      have hin : v.frm[1] ∈ v.frm := List.getElem_mem _
      have hG : chkV l i v = if v.kind = 9 ∧ kindAt l v.frm[1] ≠ 6 then 5 else 0 := by
        unfold chkV
        rw [if_neg hno, if_neg hA2, if_neg hno5, if_neg (by rw [c7]; simp), if_neg hB2, hge]
      generalize v.frm[1] = A at x1 hin hG
      obtain ⟨p1, p2⟩ := hrg A hin
      obtain ⟨q, rfl⟩ : ∃ q : Nat, A = (q : Int) := ⟨A.toNat, by omega⟩
      obtain ⟨x2, xd2, lu0⟩ := kind_ixO (F := F) (cap := cap) (z := z) (ex := ex) (l := l) (q := q) (by omega)
      by_cases h6 : kindAt l (q : Int) = 6
      · have c10 : (kindAt l (q : Int) != 6) = false := by simp [h6]
        rw [if_neg (by simp [h6])] at hG
        simp only [wpA_skip, wpA_region, wpA_seq, wpA_cond, wpA_exit, wpA_ret, condI_false, seqQ_normal, seqQ_exit, blkQ_exit, endI_mk, goE, andThen_exit, goI_out, goI_ops, opsA_nil, opsA_cons, opsA_guardS, gvI_same, slotAt_zero, slotAt_succ, stepA_move, stepA_assign, stepA_pick, stepA_load, stepA_binOp, stepA_fieldAddr, stepA_indexAddr, thenV_some, pickV_true, eval_tmp, eval_const, put_some, aBin_eql, aBin_neq, aBin_lss, absV_int, absV_bool, aField_eq, fieldGo_ptr, aLoad_eq, loadGo_one, aPlace_ptr, aPlace_at, aIndexAddr_eq, ixGo_imm, Int.reduceLE, Nat.reduceEqDiff, reduceCtorEq, Nat.add_zero, Nat.zero_add, true_and, if_true, if_false, as_33, ft_47_0, ft_47_1, lt_3, lt_33, ss_33, g0, g7, g74, g75, c8, c9, gX, hl0, hd0, hd1, x1, x2, gFX, xd2, lu0, c10, retA_ret, Tryd.results40, resultsA_1]
        exact hid_mk ⟨by rw [hG], kX, fun _ => hfin⟩
      · have c10 : (kindAt l (q : Int) != 6) = true := by simp [h6]
        rw [if_pos ⟨h9, h6⟩] at hG
        simp only [wpA_region, wpA_seq, wpA_cond, wpA_exit, wpA_ret, condI_true, condI_false, seqQ_normal, seqQ_exit, seqQ_ret, blkQ_exit, endI_mk, goE, andThen_exit, goI_out, goI_ops, opsA_nil, opsA_cons, opsA_guardS, gvI_same, slotAt_zero, slotAt_succ, stepA_move, stepA_assign, stepA_pick, stepA_load, stepA_binOp, stepA_fieldAddr, stepA_indexAddr, thenV_some, pickV_true, eval_tmp, eval_const, put_some, aBin_eql, aBin_neq, aBin_lss, absV_int, absV_bool, aField_eq, fieldGo_ptr, aLoad_eq, loadGo_one, aPlace_ptr, aPlace_at, aIndexAddr_eq, ixGo_imm, Int.reduceLE, Nat.reduceEqDiff, reduceCtorEq, Nat.add_zero, Nat.zero_add, true_and, if_true, if_false, as_33, ft_47_0, ft_47_1, lt_3, lt_33, ss_33, g0, g7, g74, g75, c8, c9, gX, hl0, hd0, hd1, x1, x2, gFX, xd2, lu0, c10, retA_ret, Tryd.results40, resultsA_1]
        exact hid_mk ⟨by rw [hG], kX, fun hh => by rw [hG] at hh; cases hh⟩
    · have c9 : (v.kind == 9) = false := by simp [h9]
      have hG : chkV l i v = 0 := by
        unfold chkV
        rw [if_neg hno, if_neg hA2, if_neg hno5, if_neg (by rw [c7]; simp), if_neg hB2, if_neg (by simp [h9])]
      simp only [wpA_skip, wpA_region, wpA_seq, wpA_cond, wpA_exit, wpA_ret, condI_false, seqQ_normal, seqQ_exit, blkQ_exit, endI_mk, goE, andThen_exit, goI_out, goI_ops, opsA_nil, opsA_cons, opsA_guardS, gvI_ft, slotAt_zero, slotAt_succ, stepA_move, stepA_assign, stepA_pick, stepA_load, stepA_binOp, stepA_fieldAddr, thenV_some, pickV_false, eval_tmp, eval_const, put_some, aBin_eql, aBin_lss, absV_int, absV_bool, aField_eq, fieldGo_ptr, aLoad_eq, aPlace_ptr, Nat.reduceEqDiff, Nat.add_zero, if_true, if_false, ft_47_0, lt_3, g7, g74, g75, c8, c9, gX, hl0, hd0, retA_ret, Tryd.results40, resultsA_1]
      exact hid_mk ⟨by rw [hG], kX, fun _ => hfin⟩
end Go.Proofs.YtpmmbcifhallbaaDoor.Pk
