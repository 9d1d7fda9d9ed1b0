/-
  What functions of the program do, told of abstract states. Conditions: as each theorem says.
-/
import Derived.Test.YtedkjhifbibpmaaGreatDoorMeX
import Derived.Test.YtedkjhifbibpmaaGreatDoorMeK
namespace Go.Proofs.YtedkjhifbibpmaaGreatDoor.Pk
open Go Go.Proofs Go.Proofs.YtedkjhifbibpmaaGreatDoor.Ab
set_option linter.unusedVariables false
set_option linter.unusedSimpArgs false
structure Rec where
  k : Int
  v : Int
  t : Int
  deriving DecidableEq
def recE (r : Rec) : List V := [.int .i64 r.k, .int .i64 r.v, .int .i64 r.t]
theorem recE_len (r : Rec) : (recE r).length = 3 := rfl
structure Vx where
  kind : Int
  frm : List Int
  e : Ex
  n : Int
def encX (v : Vx) : List V := [.int .i64 v.kind, .imm v.frm.length (i64V v.frm)] ++ encE v.e ++ [.int .i64 v.n]
theorem encX_len (v : Vx) : (encX v).length = 6 := by simp [encX, encE_len]
theorem encX_clo (v : Vx) : CloL (encX v) :=
  ((CloL.cons (Clo.int _ _) (CloL.cons (Clo.imm (i64V_clo _)) CloL.nil)).append (encE_clo v.e)).append (CloL.cons (Clo.int _ _) CloL.nil)
theorem wkX (kind : Int) (e : Ex) (n : Int) : WkL ([.int .i64 kind, .snil] ++ encE e ++ [.int .i64 n]) (encX ⟨kind, [], e, n⟩) :=
  WkL.append (WkL.append (WkL.cons (.refl _) (.cons .snil (.refl _))) rfl (.refl _)) (by simp) (.refl _)
theorem castX (kind : Int) (e : Ex) (n : Int) (h : AHeap) : Cast (.agg ([.int .i64 kind, .snil] ++ encE e ++ [.int .i64 n])) h (.agg (encX ⟨kind, [], e, n⟩)) h := fun ρ B w0 w r' hw hv => by
  cases hv with
  | agg hs hx =>
    rename_i xs
    exact ⟨ρ, Ren.le.refl ρ, hw, (wkX kind e n ρ xs.toList ⟨by simpa using hs, by simpa using hx⟩).arr'.agg⟩
/-! ### The sum -/
def sumE : Ex := .mk 6 0 [.mk 5 0 [], .mk 3 0 []]
theorem sum_may : mayX sumE = true := by decide
theorem sum_ok : OkE sumE := .mk _ _ _ (by decide) (fun k hk => by
  simp only [List.mem_cons, List.not_mem_nil, or_false] at hk
  rcases hk with rfl | rfl <;> exact .mk _ _ _ (by decide) (by simp) (by decide) (by decide)) (by decide) (by decide)
theorem litS (h : AHeap) : aBuildSlice Tryz.prog 25 2 [(0, .agg [.int .i64 5, .int .i64 0, .snil]), (1, .agg [.int .i64 3, .int .i64 0, .snil])] h = some (.sl h.n 0 2 2, h.push (.cells ([.int .i64 5, .int .i64 0, .snil] ++ [.int .i64 3, .int .i64 0, .snil]) 27 none)) := by
  rw [buildSlice_go sl_25]; rfl
theorem castEw (o n : Int) (ks : List Ex) {cs : List V} (hw : WkL cs (ks.flatMap encE)) (hcl : cs.length = ks.length * 3) (hk : ks.length < 64) (m : Nat) (hm : ks.length = m) (h : AHeap) :
    ∃ h2, Cast (.agg [.int .i64 o, .int .i64 n, .sl h.n 0 m m]) (h.push (.cells cs 27 none)) (.agg (encE (.mk o n ks))) h2 ∧ Keep h h2 none_ := by
  subst hm
  obtain ⟨h2, c, k⟩ := Cast.lit (h := h) (c := cs) (e := 27) (n := ks.length) (sz := 3) hcl (by unfold unk; omega) (by decide)
  refine ⟨h2, ?_, k⟩
  rw [encE_eq]
  exact Pk.Cast.agg (CastL.cons (Cast.refl _ _) (CastL.cons (Cast.refl _ _) (CastL.cons (c.trans ((WkV.imm hw (by rw [hcl, rows_len encE_len])).cast h2)) (CastL.refl _ _))))
theorem pSum (h : AHeap) : Pure Tryz.prog 51 [] h (.agg (encE sumE)) := by
  refine Pure.of (Clo.agg (encE_clo _)) ?_
  refine SCalls.enterI (c := _) Tryz.func51 rfl (by kernel_rfl) (by simp) ?_
  simp only [wpA_region, wpA_seq, wpA_ret, seqQ_normal, endI_mk, goI_out, goI_ops, opsA_nil, opsA_cons, stepA_alloc, stepA_build, stepA_buildSlice, stepA_store, thenV_some, thenH_some, thenS_some, eval_tmp, eval_const, put_some, put_none, absV_int, cells_int, cells_sl, cells_agg, one_int, one_sl, all_nil, all_cons, aLoad_eq, loadGo_row, aPlace_ptr, dropC_cells, aStore_eq, storeGo_ptr, setC_row, setAll_nil, setAll_cons, aAlloc_eq, aBuild_go, aFill_nil, aFill_cons, fillGo_some, buildGo_struct, push_n, get_push2', set_push2', List.getElem?_cons_zero, List.getElem?_cons_succ, Nat.reduceEqDiff, Nat.reduceAdd, Nat.reduceLeDiff, reduceCtorEq, List.map_cons, List.map_nil, Option.map_some, Nat.zero_add, Nat.zero_le, List.length_cons, List.length_nil, List.drop_zero, List.take_succ_cons, List.take_nil, List.set_cons_zero, List.set_cons_succ, List.nil_append, List.cons_append, and_self, if_true, if_false, Bool.and_self, Nat.le_refl, lt_27, pl_27, zc_27, zt_27, litS, resultsC_1, retA_ret, Tryz.results51, resultsC_1, resultA_cell]
  obtain ⟨h2, c, k⟩ := castEw 6 0 [.mk 5 0 [], .mk 3 0 []] (WkL.append (wkE0 5 0) rfl (wkE0 3 0)) rfl (by decide) 2 rfl (h.push (.cells [.int .i64 6, .int .i64 0, .sl (h.n + 1) 0 2 2] 27 none))
  exact hid_mk ⟨h2, c, (Keep.push h _ none_).trans' k⟩
/-! ### usual -/
def kindN (k : Nat) : Int := if k % 3 = 0 then 6 else if k % 3 = 1 then 7 else 8
theorem lit3k (h : AHeap) : aBuildSlice Tryz.prog 24 3 [(0, .int .i64 6), (1, .int .i64 7), (2, .int .i64 8)] h = some (.sl h.n 0 3 3, h.push (.cells [.int .i64 6, .int .i64 7, .int .i64 8] 3 none)) := by rw [buildSlice_go sl_24]; rfl
set_option maxRecDepth 10000 in
theorem pUsual (k n : Nat) (hk : k < 256) (hn : n < 256) (h : AHeap) : Pure Tryz.prog 16 [.int .u8 (k : Nat), .int .u8 (n : Nat)] h (.agg (encX ⟨kindN k, [], sumE, 1 + (n : Int)⟩)) := by
  refine Pure.of (Clo.agg (encX_clo _)) ?_
  refine SCalls.enterI (c := _) Tryz.func16 rfl (by kernel_rfl) (by simp) ?_
  have w1 : IntKind.i64.wrap (k : Int) = (k : Int) := Go.IntWalk.i64_in _ (by omega)
  have w2 : IntKind.i64.wrap (n : Int) = (n : Int) := Go.IntWalk.i64_in _ (by omega)
  have w3 : IntKind.i64.wrap (1 + (n : Int)) = 1 + (n : Int) := Go.IntWalk.i64_in _ (by omega)
  have hrem : (k : Int).tmod 3 = ((k % 3 : Nat) : Int) := by rw [Int.tmod_eq_emod_of_nonneg (by omega)]; rfl
  have l3 : (encE sumE).length = 3 := rfl
  have s1 : ∀ kd : Int, (setAll [V.int .i64 kd, .snil, .int .i64 0, .int .i64 0, .snil, .int .i64 0] 2 (encE sumE)).length = 6 := fun _ => rfl
  have s2 : ∀ kd : Int, (setAll [V.int .i64 kd, .snil, .int .i64 0, .int .i64 0, .snil, .int .i64 0] 2 (encE sumE)).set 5 (.int .i64 (1 + (n : Int))) = [V.int .i64 kd, .snil] ++ encE sumE ++ [.int .i64 (1 + (n : Int))] := fun _ => rfl
  have cX : ∀ kd : Int, (V.agg ([V.int .i64 kd, .snil] ++ encE sumE ++ [.int .i64 (1 + (n : Int))])).cells = some ([V.int .i64 kd, .snil] ++ encE sumE ++ [.int .i64 (1 + (n : Int))]) := fun _ => rfl

  simp only [wpA_region, wpA_seq, wpA_draw, seqQ_normal, goI_out, goI_ops, opsA_nil, opsA_cons, stepA_assign, stepA_alloc, stepA_buildSlice, thenH_some, eval_tmp, eval_const, put_some, enterF_succ, absV_int, aAlloc_eq, push_n, Nat.reduceEqDiff, List.map_cons, List.map_nil, Option.map_some, if_true, if_false, zc_29, lit3k]
  refine SWp.drawnS none_ [11] (.q 0 (.q 1 (.q 2 (.q 3 (.q 4 (.q 5 (.c 6 (.q 7 (.q 8 (.q 9 (.q 10 (.a 11 .done)))))))))))) (by kernel_rfl) (by kernel_rfl) (by kernel_rfl) ?_
  have s3 : ∀ kd : Int, setC (some 6) (AObj.cells [.int .i64 0, .snil, .int .i64 0, .int .i64 0, .snil, .int .i64 0] 29 none) 0 (V.int .i64 kd :: V.snil :: (encE sumE ++ [.int .i64 (1 + (n : Int))])) = some (.cells (V.int .i64 kd :: V.snil :: (encE sumE ++ [.int .i64 (1 + (n : Int))])) 29 none) := fun _ => rfl
  have s4 : ∀ kd : Int, loadGo (some (some 6)) (some (V.int .i64 kd :: V.snil :: (encE sumE ++ [.int .i64 (1 + (n : Int))]))) = some (.agg (V.int .i64 kd :: V.snil :: (encE sumE ++ [.int .i64 (1 + (n : Int))]))) := fun _ => rfl
  have s5 : ∀ kd : Int, dropC (AObj.cells (V.int .i64 kd :: V.snil :: (encE sumE ++ [.int .i64 (1 + (n : Int))])) 29 none) 0 = some (V.int .i64 kd :: V.snil :: (encE sumE ++ [.int .i64 (1 + (n : Int))])) := fun _ => rfl
  have fin : ∀ kd : Int, kindN k = kd → ∀ H : AHeap, Keep h H none_ → ∃ h2, Cast (.agg ([.int .i64 kd, .snil] ++ encE sumE ++ [.int .i64 (1 + (n : Int))])) H (.agg (encX ⟨kindN k, [], sumE, 1 + (n : Int)⟩)) h2 ∧ Keep h h2 none_ := fun kd hk H kH => ⟨H, hk ▸ castX _ _ _ _, kH⟩
  have h3 : k % 3 = 0 ∨ k % 3 = 1 ∨ k % 3 = 2 := by omega
  rcases h3 with h3 | h3 | h3
  · have hr : (k : Int).tmod 3 = 0 := by rw [hrem, h3]; rfl
    have ix : (if 0 ≤ (0 : Int) ∧ (0 : Int) < ((3 : Nat) : Int) then some (V.ptr (h.n + 1) ((0 : Int).toNat * 1)) else none) = some (.ptr (h.n + 1) 0) := rfl
    have ix2 : (if (0 : Int) < ((3 : Nat) : Int) then some (V.ptr (h.n + 1) ((0 : Int).toNat * 1)) else none) = some (.ptr (h.n + 1) 0) := rfl
    simp only [siI_q, sqI_some, mOk_none', implies_true, qI_nil, qI_cons, thenQ_some, q_move, q_load, q_binOp, q_convert, q_indexAddr, goI_mk, eval_tmp, eval_const, put_some, enterF_zero, enterF_succ, absV_int, aLoad_eq, loadGo_one, aPlace_ptr, dropC_cells, aIndexAddr_eq, ixGo_sl, get_push2, List.getElem?_cons_zero, List.getElem?_cons_succ, Int.reduceLE, Nat.reduceEqDiff, Nat.reduceAdd, reduceCtorEq, Nat.zero_add, Nat.zero_le, List.length_cons, List.length_nil, List.drop_zero, true_and, if_true, if_false, as_24, lt_3, ss_24, aConv_int it_5 it_3, aBin_rem (show (3 : Int) ≠ 0 by decide), w1, hr, ix2]
    refine siI_c rfl rfl rfl (fun h' _ => pSum h') ?_
    simp only [siI_done, siI_q, siI_a, sqI_some, saI_some, mOk_none', implies_true, qI_nil, qI_cons, thenQ_some, q_move, q_build, q_binOp, q_convert, wpA_ret, seqQ_normal, endI_mk, goI_out, goI_ops, goI_mk, opsA_nil, opsA_cons, stepA_store, thenS_some, eval_tmp, eval_const, put_some, put_none, enterF_zero, enterF_succ, aBin_add, absV_int, cells_int, cells_agg, aLoad_eq, aPlace_ptr, aStore_eq, storeGo_ptr, setAll_nil, setAll_cons, aBuild_go, aFill_nil, aFill_cons, fillGo_some, buildGo_struct, get_push2', set_push2', List.getElem?_cons_zero, List.getElem?_cons_succ, Nat.reduceEqDiff, Nat.reduceAdd, Nat.reduceLeDiff, List.map_cons, List.map_nil, Option.map_some, Nat.zero_add, List.length_cons, List.length_nil, List.set_cons_zero, List.nil_append, List.cons_append, true_and, and_self, if_true, if_false, Nat.le_refl, lt_29, pl_29, zc_29, zt_29, aConv_int it_5 it_2, w2, w3, l3, s1, s2, s3, s4, s5, retA_ret, Tryz.results16, resultsC_1, resultA_cell]
    exact hid_mk (fin 6 (by simp [kindN, h3]) _ ((Keep.push h _ none_).then_push _))
  · have hr : (k : Int).tmod 3 = 1 := by rw [hrem, h3]; rfl
    have ix : (if 0 ≤ (1 : Int) ∧ (1 : Int) < ((3 : Nat) : Int) then some (V.ptr (h.n + 1) ((1 : Int).toNat * 1)) else none) = some (.ptr (h.n + 1) 1) := rfl
    have ix2 : (if (1 : Int) < ((3 : Nat) : Int) then some (V.ptr (h.n + 1) ((1 : Int).toNat * 1)) else none) = some (.ptr (h.n + 1) 1) := rfl
    simp only [siI_q, sqI_some, mOk_none', implies_true, qI_nil, qI_cons, thenQ_some, q_move, q_load, q_binOp, q_convert, q_indexAddr, goI_mk, eval_tmp, eval_const, put_some, enterF_zero, enterF_succ, absV_int, aLoad_eq, loadGo_one, aPlace_ptr, dropC_cells, aIndexAddr_eq, ixGo_sl, get_push2, List.getElem?_cons_zero, List.getElem?_cons_succ, Int.reduceLE, Nat.reduceEqDiff, Nat.reduceAdd, Nat.reduceLeDiff, reduceCtorEq, Nat.zero_add, List.length_cons, List.length_nil, List.drop_zero, List.drop_succ_cons, true_and, if_true, if_false, as_24, lt_3, ss_24, aConv_int it_5 it_3, aBin_rem (show (3 : Int) ≠ 0 by decide), w1, hr, ix2]
    refine siI_c rfl rfl rfl (fun h' _ => pSum h') ?_
    simp only [siI_done, siI_q, siI_a, sqI_some, saI_some, mOk_none', implies_true, qI_nil, qI_cons, thenQ_some, q_move, q_build, q_binOp, q_convert, wpA_ret, seqQ_normal, endI_mk, goI_out, goI_ops, goI_mk, opsA_nil, opsA_cons, stepA_store, thenS_some, eval_tmp, eval_const, put_some, put_none, enterF_zero, enterF_succ, aBin_add, absV_int, cells_int, cells_agg, aLoad_eq, aPlace_ptr, aStore_eq, storeGo_ptr, setAll_nil, setAll_cons, aBuild_go, aFill_nil, aFill_cons, fillGo_some, buildGo_struct, get_push2', set_push2', List.getElem?_cons_zero, List.getElem?_cons_succ, Nat.reduceEqDiff, Nat.reduceAdd, Nat.reduceLeDiff, List.map_cons, List.map_nil, Option.map_some, Nat.zero_add, List.length_cons, List.length_nil, List.set_cons_zero, List.nil_append, List.cons_append, true_and, and_self, if_true, if_false, Nat.le_refl, lt_29, pl_29, zc_29, zt_29, aConv_int it_5 it_2, w2, w3, l3, s1, s2, s3, s4, s5, retA_ret, Tryz.results16, resultsC_1, resultA_cell]
    exact hid_mk (fin 7 (by simp [kindN, h3]) _ ((Keep.push h _ none_).then_push _))
  · have hr : (k : Int).tmod 3 = 2 := by rw [hrem, h3]; rfl
    have ix : (if 0 ≤ (2 : Int) ∧ (2 : Int) < ((3 : Nat) : Int) then some (V.ptr (h.n + 1) ((2 : Int).toNat * 1)) else none) = some (.ptr (h.n + 1) 2) := rfl
    have ix2 : (if (2 : Int) < ((3 : Nat) : Int) then some (V.ptr (h.n + 1) ((2 : Int).toNat * 1)) else none) = some (.ptr (h.n + 1) 2) := rfl
    simp only [siI_q, sqI_some, mOk_none', implies_true, qI_nil, qI_cons, thenQ_some, q_move, q_load, q_binOp, q_convert, q_indexAddr, goI_mk, eval_tmp, eval_const, put_some, enterF_zero, enterF_succ, absV_int, aLoad_eq, loadGo_one, aPlace_ptr, dropC_cells, aIndexAddr_eq, ixGo_sl, get_push2, List.getElem?_cons_zero, List.getElem?_cons_succ, Int.reduceLE, Nat.reduceEqDiff, Nat.reduceAdd, Nat.reduceLeDiff, reduceCtorEq, Nat.zero_add, List.length_cons, List.length_nil, List.drop_zero, List.drop_succ_cons, true_and, if_true, if_false, as_24, lt_3, ss_24, aConv_int it_5 it_3, aBin_rem (show (3 : Int) ≠ 0 by decide), w1, hr, ix2]
    refine siI_c rfl rfl rfl (fun h' _ => pSum h') ?_
    simp only [siI_done, siI_q, siI_a, sqI_some, saI_some, mOk_none', implies_true, qI_nil, qI_cons, thenQ_some, q_move, q_build, q_binOp, q_convert, wpA_ret, seqQ_normal, endI_mk, goI_out, goI_ops, goI_mk, opsA_nil, opsA_cons, stepA_store, thenS_some, eval_tmp, eval_const, put_some, put_none, enterF_zero, enterF_succ, aBin_add, absV_int, cells_int, cells_agg, aLoad_eq, aPlace_ptr, aStore_eq, storeGo_ptr, setAll_nil, setAll_cons, aBuild_go, aFill_nil, aFill_cons, fillGo_some, buildGo_struct, get_push2', set_push2', List.getElem?_cons_zero, List.getElem?_cons_succ, Nat.reduceEqDiff, Nat.reduceAdd, Nat.reduceLeDiff, List.map_cons, List.map_nil, Option.map_some, Nat.zero_add, List.length_cons, List.length_nil, List.set_cons_zero, List.nil_append, List.cons_append, true_and, and_self, if_true, if_false, Nat.le_refl, lt_29, pl_29, zc_29, zt_29, aConv_int it_5 it_2, w2, w3, l3, s1, s2, s3, s4, s5, retA_ret, Tryz.results16, resultsC_1, resultA_cell]
    exact hid_mk (fin 8 (by simp [kindN, h3]) _ ((Keep.push h _ none_).then_push _))
/-! ### The store -/
/-- The store of a vertex that sums by key. -/
structure IsAg (h : AHeap) (a : Nat) (i : Nat) (v : V) (e : Ex) (n : Int) (l : List Pr) : Prop where
  lt : a < h.n
  get : h.get a = .cells (encE e ++ [.int .i64 n, .iface 194 (.ptr i 0)]) 124 none
  kv : IsKv h i v 1024 l
  ne : a ≠ i
  nev : idOf v ≠ some a
set_option maxRecDepth 10000 in
theorem pKeeper6 (x : Vx) (hx : x.kind = 6) (h : AHeap) : SCalls Tryz.prog 54 [.agg (encX x)] h (fun r h' => ∃ i, r = .tuple [.iface 194 (.ptr i 0), .int .i64 0] ∧ h.n ≤ i ∧ IsKv h' i .snil 1024 [] ∧ Keep h h' none_) := by
  refine SCalls.enterI (c := _) Tryz.func54 rfl (by kernel_rfl) (by simp) ?_
  obtain ⟨kd, fr, ⟨o, m, ks⟩, n⟩ := x
  have hx : kd = 6 := hx
  subst hx
  have hx : encX ⟨6, fr, .mk o m ks, n⟩ = [.int .i64 6, .imm fr.length (i64V fr), .int .i64 o, .int .i64 m, .imm ks.length (ks.flatMap encE), .int .i64 n] := by simp [encX, encE_eq]
  rw [hx]
  have hk : Keep h (h.push (.cells [.int .i64 6, .imm fr.length (i64V fr), .int .i64 o, .int .i64 m, .imm ks.length (ks.flatMap encE), .int .i64 n] 29 none)) none_ := Keep.push _ _ _
  simp only [wpA_region, wpA_seq, wpA_cond, wpA_block, condI_true, seqQ_normal, goI_out, goI_ops, opsA_nil, opsA_cons, stepA_assign, stepA_box, stepA_load, stepA_binOp, stepA_fieldAddr, stepA_call, thenV_some, thenH_some, eval_tmp, eval_const, put_some, enterF_zero, enterF_succ, aBin_eql, absV_int, absV_nilIface, cells_agg, aField_eq, fieldGo_ptr, aLoad_eq, loadGo_one, aPlace_ptr, dropC_cells, aBox_eq, get_push_new, beq_self_eq_true, Nat.reduceEqDiff, Nat.reduceAdd, List.map_cons, List.map_nil, Option.map_some, Nat.add_zero, Nat.zero_add, Nat.zero_le, List.length_cons, List.length_nil, List.drop_zero, if_true, if_false, ft_29_0, lt_3]
  refine callI_of cal106 (kvNew _ 1024 (by decide) (by decide)) fun r h1 ⟨e1, k1, p1⟩ => ?_
  subst e1
  simp only [wpA_ret, seqQ_normal, seqQ_ret, blkQ_ret, endI_mk, goI_out, goI_ops, opsA_nil, opsA_cons, stepA_assign, stepA_extract, stepA_makeInterface, ifcV_false, thenV_some, extV_zero, extV_succ, eval_tmp, put_some, enterF_succ, push_n, Nat.reduceEqDiff, if_true, if_false, if_194, retA_ret, Tryz.results54, resultsA_2]
  exact hid_mk ⟨_, rfl, by omega, k1, hk.trans' p1⟩
end Go.Proofs.YtedkjhifbibpmaaGreatDoor.Pk
namespace Go.Proofs.YtedkjhifbibpmaaGreatDoor.Pk
open Go Go.Proofs Go.Proofs.YtedkjhifbibpmaaGreatDoor.Ab
set_option linter.unusedVariables false
set_option linter.unusedSimpArgs false
mutual
theorem encB_lt : (e : Ex) → ∀ b ∈ encB e, b < 256
  | .mk o n l => fun b hb => by
    rw [encB] at hb
    simp only [List.mem_append] at hb
    rcases hb with (hb | hb) | hb
    · exact enc_lt _ _ (Nat.le_refl _) b hb
    · split at hb
      · exact enc_lt _ _ (Nat.le_refl _) b hb
      · cases hb
    · exact encBL_lt l b hb
theorem encBL_lt : (l : List Ex) → ∀ b ∈ encBL l, b < 256
  | [] => fun b hb => by rw [encBL] at hb; cases hb
  | k :: r => fun b hb => by
    rw [encBL] at hb
    rcases List.mem_append.1 hb with hb | hb
    · exact encB_lt k b hb
    · exact encBL_lt r b hb
end
theorem asrK (i : Nat) : aAssert Tryz.prog (.iface 194 (.ptr i 0)) 194 true = some (.tuple [.ptr i 0, .bool true]) := by
  unfold aAssert; rw [Tryz.underlying194]; rfl
/-! ### New -/
/-! ### missing, gathered, put, Value -/
set_option maxRecDepth 10000 in
theorem pMayTa (t : Int) (h : AHeap) : Pure Tryz.prog 58 [.int .i64 t] h (.bool (decide (0 ≤ t ∧ t ≤ 1099511627776))) := by
  refine SCalls.enterI (c := _) Tryz.func58 rfl (by kernel_rfl) (by simp) ?_
  by_cases h1 : 0 ≤ t
  · have d1 : decide (0 ≤ t) = true := decide_eq_true h1
    by_cases h2 : t ≤ 1099511627776
    · have d2 : decide (t ≤ 1099511627776) = true := decide_eq_true h2
      simp only [wpA_region, wpA_seq, wpA_ret, seqQ_normal, endI_mk, goI_out, goI_ops, opsA_nil, opsA_cons, opsA_guardS, gvI_same, slotAt_zero, slotAt_succ, stepA_move, stepA_assign, stepA_pick, stepA_binOp, thenV_some, pickV_true, eval_tmp, eval_const, put_some, enterF_zero, enterF_succ, aBin_leq, aBin_geq, absV_int, absV_bool, Nat.reduceEqDiff, reduceCtorEq, if_true, if_false, d1, d2, retA_ret, Tryz.results58, resultsA_1]
      exact hid_mk ⟨by rw [decide_eq_true (⟨h1, h2⟩ : 0 ≤ t ∧ t ≤ 1099511627776)], rfl⟩
    · have d2 : decide (t ≤ 1099511627776) = false := decide_eq_false h2
      simp only [wpA_region, wpA_seq, wpA_ret, seqQ_normal, endI_mk, goI_out, goI_ops, opsA_nil, opsA_cons, opsA_guardS, gvI_same, slotAt_zero, slotAt_succ, stepA_move, stepA_assign, stepA_pick, stepA_binOp, thenV_some, pickV_true, eval_tmp, eval_const, put_some, enterF_zero, enterF_succ, aBin_leq, aBin_geq, absV_int, absV_bool, Nat.reduceEqDiff, reduceCtorEq, if_true, if_false, d1, d2, retA_ret, Tryz.results58, resultsA_1]
      exact hid_mk ⟨by rw [decide_eq_false (fun q : 0 ≤ t ∧ t ≤ 1099511627776 => h2 q.2)], rfl⟩
  · have d1 : decide (0 ≤ t) = false := decide_eq_false h1
    simp only [wpA_region, wpA_seq, wpA_ret, seqQ_normal, endI_mk, goI_out, goI_ops, opsA_nil, opsA_cons, opsA_guardS, gvI_ft, slotAt_zero, slotAt_succ, stepA_move, stepA_assign, stepA_pick, stepA_binOp, thenV_some, pickV_false, eval_tmp, eval_const, put_some, enterF_zero, enterF_succ, aBin_geq, absV_int, absV_bool, Nat.reduceEqDiff, reduceCtorEq, if_true, if_false, d1, retA_ret, Tryz.results58, resultsA_1]
    exact hid_mk ⟨by rw [decide_eq_false (fun q : 0 ≤ t ∧ t ≤ 1099511627776 => h1 q.1)], rfl⟩
set_option maxRecDepth 10000 in
theorem pGath6 {h : AHeap} {i : Nat} {v : V} {room : Int} {l : List Pr} (k : IsKv h i v room l) (r : Rec) : Pure Tryz.prog 60 [.iface 194 (.ptr i 0), .agg (recE r)] h (.int .i64 ((look l r.k).getD 0)) := by
  refine Pure.val (Clo.int _ _) ?_
  obtain ⟨rk, rv, rt⟩ := r
  refine SCalls.enterI (c := _) Tryz.func60 rfl (by kernel_rfl) (by simp) ?_
  unfold recE
  have kk : Keep h (h.push (.cells [.int .i64 rk, .int .i64 rv, .int .i64 rt] 38 none)) none_ := Keep.push _ _ _
  simp only [wpA_region, wpA_seq, wpA_cond, wpA_block, condI_true, seqQ_normal, goI_out, goI_ops, opsA_nil, opsA_cons, stepA_move, stepA_assign, stepA_box, stepA_load, stepA_fieldAddr, stepA_typeAssert, stepA_extract, stepA_call, thenV_some, thenH_some, extV_zero, extV_succ, eval_tmp, eval_const, put_some, enterF_zero, enterF_succ, absV_int, cells_agg, aField_eq, fieldGo_ptr, aLoad_eq, loadGo_one, aPlace_ptr, dropC_cells, aBox_eq, get_push_new, Nat.reduceEqDiff, Nat.reduceAdd, reduceCtorEq, List.map_cons, List.map_nil, Option.map_some, Nat.add_zero, Nat.zero_add, Nat.zero_le, List.length_cons, List.length_nil, List.drop_zero, if_true, if_false, ft_38_0, lt_2, asrK]
  refine callI_pure cal116 (kvGet _ i v room rk l (k.keepN kk)) ?_
  simp only [wpA_region, wpA_seq, wpA_ret, seqQ_normal, blkQ_normal, endI_mk, goI_out, goI_ops, opsA_nil, opsA_cons, stepA_move, stepA_assign, stepA_extract, thenV_some, extV_zero, extV_succ, eval_tmp, put_some, enterF_succ, Nat.reduceEqDiff, if_true, if_false, retA_ret, Tryz.results60, resultsA_1]
  exact hid_mk ⟨rfl, kk⟩
set_option maxRecDepth 10000 in
theorem pTable6 {h : AHeap} {i : Nat} {v : V} {room : Int} {l : List Pr} (k : IsKv h i v room l) (key : Int) : Pure Tryz.prog 103 [.iface 194 (.ptr i 0), .int .i64 key] h (.int .i64 ((look l key).getD 0)) := by
  refine SCalls.enterI (c := _) Tryz.func103 rfl (by kernel_rfl) (by simp) ?_
  simp only [wpA_skip, wpA_region, wpA_seq, wpA_cond, condI_false, seqQ_normal, goI_out, goI_ops, opsA_nil, opsA_cons, stepA_move, stepA_assign, stepA_unOp, stepA_typeAssert, stepA_extract, stepA_call, thenV_some, extV_zero, extV_succ, eval_tmp, eval_const, put_some, enterF_zero, enterF_succ, aUn_not, absV_int, Nat.reduceEqDiff, reduceCtorEq, List.map_cons, List.map_nil, if_true, if_false, Bool.not_true, asrK]
  refine callI_pure cal116 (kvGet _ i v room key l k) ?_
  simp only [wpA_region, wpA_seq, wpA_ret, seqQ_normal, endI_mk, goI_out, goI_ops, opsA_nil, opsA_cons, stepA_move, stepA_assign, stepA_extract, thenV_some, extV_zero, extV_succ, eval_tmp, put_some, enterF_succ, Nat.reduceEqDiff, if_true, if_false, retA_ret, Tryz.results103, resultsA_1]
  exact hid_mk ⟨rfl, rfl⟩
theorem lit1ca (h : AHeap) (c : Chg) : aBuildSlice Tryz.prog 35 1 [(0, .agg (chgE c))] h = some (.sl h.n 0 1 1, h.push (.cells (chgE c) 40 none)) := by rw [buildSlice_go sl_35]; rfl
set_option maxRecDepth 10000 in
theorem pPut6 {h : AHeap} {i : Nat} {v : V} {room : Int} {l : List Pr} (k : IsKv h i v room l) (r : Rec) (n : Int) :
    SCalls Tryz.prog 61 [.iface 194 (.ptr i 0), .agg (recE r), .int .i64 n] h (fun q h' => ∃ v' j, q = .tuple [.sl j 0 1 1, .int .i64 r.t, .int .i64 (putE room l r.k)] ∧ IsKv h' i v' room (putL room l r.k n) ∧ Keep h h' (kvO i v) ∧ NewOr h v v' ∧
      Own h' 40 5 (.sl j 0 1 1) (chgE (putX room l r.k n)) ∧ h.n ≤ j ∧ j ≠ i ∧ idOf v' ≠ some j) := by
  obtain ⟨rk, rv, rt⟩ := r
  refine SCalls.enterI (c := _) Tryz.func61 rfl (by kernel_rfl) (by simp) ?_
  unfold recE
  obtain ⟨H, hH⟩ : ∃ y, y = h.push (.cells [.int .i64 rk, .int .i64 rv, .int .i64 rt] 38 none) := ⟨_, rfl⟩
  have k0 : Keep h H none_ := by rw [hH]; exact Keep.push _ _ _
  have g0 : H.get h.n = .cells [.int .i64 rk, .int .i64 rv, .int .i64 rt] 38 none := by rw [hH]; exact get_push_new
  have n0 : H.n = h.n + 1 := by rw [hH]; rfl
  simp only [wpA_region, wpA_seq, wpA_cond, wpA_block, condI_true, seqQ_normal, goI_out, goI_ops, opsA_nil, opsA_cons, stepA_move, stepA_assign, stepA_box, stepA_load, stepA_fieldAddr, stepA_typeAssert, stepA_extract, stepA_call, thenV_some, thenH_some, extV_zero, extV_succ, eval_tmp, eval_const, put_some, enterF_zero, enterF_succ, absV_int, absV_snil, cells_agg, aField_eq, fieldGo_ptr, aLoad_eq, loadGo_one, aPlace_ptr, dropC_cells, aBox_eq, get_push_new, Nat.reduceEqDiff, Nat.reduceAdd, reduceCtorEq, List.map_cons, List.map_nil, Option.map_some, Nat.add_zero, Nat.zero_add, Nat.zero_le, List.length_cons, List.length_nil, List.drop_zero, if_true, if_false, ft_38_0, lt_2, asrK]
  rw [← hH]
  clear hH
  refine callI_of cal119 (kvPut H i v room rk n l (k.keepN k0)) fun q h1 ⟨v1, e1, k1, p1, d1⟩ => ?_
  subst e1
  have hlt := k.lt
  have g1 := (p1.get h.n (by omega) (by
    rintro (hh | hh)
    · omega
    · have := k.own.lt _ hh; omega)).trans g0
  have cc : ∀ c : Chg, (V.agg (chgE c)).cells = some (chgE c) := fun _ => rfl
  have st : ∀ c : Chg, setC (some 5) (AObj.cells [V.int .i64 0, V.int .i64 0, V.int .i64 0, V.int .i64 0, V.bool false] 40 none) 0 (chgE c) = some (.cells (chgE c) 40 none) := fun _ => rfl
  obtain ⟨H2, hH2⟩ : ∃ y, y = h1.push (.cells (chgE (putX room l rk n)) 40 none) := ⟨_, rfl⟩
  have k2 : Keep h1 H2 none_ := by rw [hH2]; exact Keep.push _ _ _
  have g2 : H2.get h1.n = .cells (chgE (putX room l rk n)) 40 none := by rw [hH2]; exact get_push_new
  have g3 := (k2.get h.n (by have := p1.n; omega) (by simp [none_])).trans g1
  have n2 : H2.n = h1.n + 1 := by rw [hH2]; rfl
  simp only [wpA_seq, wpA_draw, seqQ_normal, goI_out, goI_ops, opsA_nil, opsA_cons, stepA_move, stepA_assign, stepA_alloc, stepA_store, stepA_extract, thenV_some, thenH_some, thenS_some, extV_zero, extV_succ, eval_tmp, put_some, put_none, enterF_succ, aStore_eq, storeGo_ptr, aAlloc_eq, get_push_new, set_push, Nat.reduceEqDiff, Option.map_some, if_true, if_false, zc_40, zt_40, cc, st]
  rw [← hH2]
  clear hH2
  have l1 := lit1ca H2 (putX room l rk n)
  have ld : loadGo (some (some 5)) (some (chgE (putX room l rk n))) = some (.agg (chgE (putX room l rk n))) := rfl
  have d0 : dropC (.cells (chgE (putX room l rk n)) 40 none) 0 = some (chgE (putX room l rk n)) := rfl
  generalize hC : chgE (putX room l rk n) = C at *
  refine SWp.drawnS none_ [1] (.q 0 (.q 2 (.q 3 (.q 4 (.e 1 (.q 5 (.q 6 (.q 7 .done))) .stop))))) (by kernel_rfl) (by kernel_rfl) (by kernel_rfl) ?_
  simp only [siI_done, siI_stop, siI_q, siI_e, sqI_some, seI_some, mOk_none', keepT1, implies_true, qI_nil, qI_cons, thenQ_some, q_move, q_assign, q_load, q_fieldAddr, wpA_ret, seqQ_normal, seqQ_ret, blkQ_ret, endI_mk, goI_out, goI_ops, goI_mk, opsA_nil, opsA_cons, stepA_buildSlice, thenH_some, eval_tmp, put_some, put_none, enterF_succ, aField_eq, fieldGo_ptr, aLoad_eq, loadGo_one, aPlace_ptr, dropC_cells, List.getElem?_cons_zero, List.getElem?_cons_succ, Bool.false_eq_true, Nat.reduceEqDiff, Nat.reduceAdd, Nat.reduceLeDiff, List.map_cons, List.map_nil, Nat.zero_add, List.length_cons, List.length_nil, List.drop_zero, List.drop_succ_cons, and_true, true_and, if_true, if_false, ft_38_2, lt_2, lt_40, g2, g3, l1, ld, d0, retA_ret, Tryz.results61, resultsA_3]
  have k3 : Keep H2 (H2.push (.cells C 40 none)) none_ := Keep.push _ _ _
  have hn1 := p1.n
  have hCl : C.length = 5 := by rw [← hC]; rfl
  refine hid_mk ⟨v1, H2.n, rfl, (k1.keepN k2).keepN k3, ?_, NewOr.later d1 (by omega), Own.fresh' _ 1 hCl (by decide), by omega, by omega, fun hh => ?_⟩
  · exact ((k0.up).trans' p1).trans' ((k2.trans' k3).up)
  · have := k1.own.lt _ hh; omega
end Go.Proofs.YtedkjhifbibpmaaGreatDoor.Pk
namespace Go.Proofs.YtedkjhifbibpmaaGreatDoor.Pk
open Go Go.Proofs Go.Proofs.YtedkjhifbibpmaaGreatDoor.Ab
set_option linter.unusedVariables false
set_option linter.unusedSimpArgs false
/-! ### Apply -/
def mayTa (t : Int) : Bool := decide (0 ≤ t ∧ t ≤ 1099511627776)
theorem IsAg.keep {h h' : AHeap} {a i : Nat} {v : V} {e : Ex} {n : Int} {l : List Pr} {own : Nat → Prop} (s : IsAg h a i v e n l) (hk : Keep h h' own) (h0 : ¬ own a) (h1 : ¬ own i) (h2 : ∀ j, idOf v = some j → ¬ own j) : IsAg h' a i v e n l :=
  ⟨Nat.lt_of_lt_of_le s.lt hk.n, (hk.get a s.lt h0).trans s.get, s.kv.keep hk h1 h2, s.ne, s.nev⟩
theorem IsAg.keepN {h h' : AHeap} {a i : Nat} {v : V} {e : Ex} {n : Int} {l : List Pr} (s : IsAg h a i v e n l) (hk : Keep h h' none_) : IsAg h' a i v e n l := s.keep hk (by simp [none_]) (by simp [none_]) (by simp [none_])
end Go.Proofs.YtedkjhifbibpmaaGreatDoor.Pk
namespace Go.Proofs.YtedkjhifbibpmaaGreatDoor.Pk
open Go Go.Proofs Go.Proofs.YtedkjhifbibpmaaGreatDoor.Ab
set_option linter.unusedVariables false
set_option linter.unusedSimpArgs false
theorem rec_eql (a b : Rec) {xo yo : Operand} : aBin Tryz.prog .eql 38 xo yo (.agg [.int .i64 a.k, .int .i64 a.v, .int .i64 a.t]) (.agg [.int .i64 b.k, .int .i64 b.v, .int .i64 b.t]) = some (.bool (decide (a = b))) := by
  have h : eqK [0, 0, 0] (recE a) (recE b) = some (decide (a = b)) := by
    simp only [recE, eqK, if_true, Option.map_some, Option.some.injEq]
    rw [Bool.eq_iff_iff]
    simp only [Bool.and_eq_true, beq_iff_eq, decide_eq_true_eq, Bool.and_true]
    constructor
    · rintro ⟨h1, h2, h3⟩; cases a; cases b; simp_all
    · rintro rfl; simp
  exact aBin_sk_eql sk_38 h
end Go.Proofs.YtedkjhifbibpmaaGreatDoor.Pk
