/-
  What functions of the program do, told of abstract states. Conditions: as each theorem says.
-/
import Derived.Test.YtpjfhfmbhjghcaaDoorMeX
import Derived.Test.YtpjfhfmbhjghcaaDoorMeK
namespace Go.Proofs.YtpjfhfmbhjghcaaDoor.Pk
open Go Go.Proofs Go.Proofs.YtpjfhfmbhjghcaaDoor.Ab
set_option linter.unusedVariables false
set_option linter.unusedSimpArgs false
structure Rec where
  k : Int
  v : Int
  t : Int
  deriving DecidableEq
def recE (r : Rec) : List V := [.int .i64 r.k, .int .i64 r.v, .int .i64 r.t]
theorem recE_len (r : Rec) : (recE r).length = 3 := rfl
theorem recE_one (r : Rec) : (recE r).all (·.one) = true := rfl
theorem recE_clo (r : Rec) : CloL (recE r) := CloL.cons (Clo.int _ _) (CloL.cons (Clo.int _ _) (CloL.cons (Clo.int _ _) CloL.nil))
structure Vx where
  kind : Int
  frm : List Int
  e : Ex
  n : Int
def encX (v : Vx) : List V := [.int .i64 v.kind, .imm v.frm.length (i64V v.frm)] ++ encE v.e ++ [.int .i64 v.n]
theorem encX_len (v : Vx) : (encX v).length = 6 := by simp [encX, encE_len]
theorem encX_clo (v : Vx) : CloL (encX v) :=
  ((CloL.cons (Clo.int _ _) (CloL.cons (Clo.imm (i64V_clo _)) CloL.nil)).append (encE_clo v.e)).append (CloL.cons (Clo.int _ _) CloL.nil)
theorem wkX (kind : Int) (e : Ex) (n : Int) : WkL ([.int .i64 kind, .snil] ++ encE e ++ [.int .i64 n]) (encX ⟨kind, [], e, n⟩) :=
  WkL.append (WkL.append (WkL.cons (.refl _) (.cons .snil (.refl _))) rfl (.refl _)) (by simp) (.refl _)
theorem castX (kind : Int) (e : Ex) (n : Int) (h : AHeap) : Cast (.agg ([.int .i64 kind, .snil] ++ encE e ++ [.int .i64 n])) h (.agg (encX ⟨kind, [], e, n⟩)) h := fun ρ B w0 w r' hw hv => by
  cases hv with
  | agg hs hx =>
    rename_i xs
    exact ⟨ρ, Ren.le.refl ρ, hw, (wkX kind e n ρ xs.toList ⟨by simpa using hs, by simpa using hx⟩).arr'.agg⟩
/-! ### The sum -/
def sumE : Ex := .mk 6 0 [.mk 5 0 [], .mk 3 0 []]
theorem sum_may : mayX sumE = true := by decide
theorem sum_ok : OkE sumE := .mk _ _ _ (by decide) (fun k hk => by
  simp only [List.mem_cons, List.not_mem_nil, or_false] at hk
  rcases hk with rfl | rfl <;> exact .mk _ _ _ (by decide) (by simp) (by decide) (by decide)) (by decide) (by decide)
theorem sum_val (rk rv rt acc : Int) : valF rk rv rt acc 16 sumE = some (w64 (acc + rv)) := by
  simp [sumE, valF, combX]
theorem litS (h : AHeap) : aBuildSlice Tryd.prog 29 2 [(0, .agg [.int .i64 5, .int .i64 0, .snil]), (1, .agg [.int .i64 3, .int .i64 0, .snil])] h = some (.sl h.n 0 2 2, h.push (.cells ([.int .i64 5, .int .i64 0, .snil] ++ [.int .i64 3, .int .i64 0, .snil]) 31 none)) := by
  rw [buildSlice_go sl_29]; rfl
theorem castEw (o n : Int) (ks : List Ex) {cs : List V} (hw : WkL cs (ks.flatMap encE)) (hcl : cs.length = ks.length * 3) (hk : ks.length < 64) (m : Nat) (hm : ks.length = m) (h : AHeap) :
    ∃ h2, Cast (.agg [.int .i64 o, .int .i64 n, .sl h.n 0 m m]) (h.push (.cells cs 31 none)) (.agg (encE (.mk o n ks))) h2 ∧ Keep h h2 none_ := by
  subst hm
  obtain ⟨h2, c, k⟩ := Cast.lit (h := h) (c := cs) (e := 31) (n := ks.length) (sz := 3) hcl (by unfold unk; omega) (by decide)
  refine ⟨h2, ?_, k⟩
  rw [encE_eq]
  exact Pk.Cast.agg (CastL.cons (Cast.refl _ _) (CastL.cons (Cast.refl _ _) (CastL.cons (c.trans ((WkV.imm hw (by rw [hcl, rows_len encE_len])).cast h2)) (CastL.refl _ _))))
theorem pSum (h : AHeap) : Pure Tryd.prog 10 [] h (.agg (encE sumE)) := by
  refine Pure.of (Clo.agg (encE_clo _)) ?_
  refine SCalls.enterI (c := _) Tryd.func10 rfl (by kernel_rfl) (by simp) ?_
  simp only [wpA_region, wpA_seq, wpA_ret, seqQ_normal, endI_mk, goI_out, goI_ops, opsA_nil, opsA_cons, stepA_alloc, stepA_build, stepA_buildSlice, stepA_store, thenV_some, thenH_some, thenS_some, eval_tmp, eval_const, put_some, put_none, absV_int, cells_int, cells_sl, cells_agg, one_int, one_sl, all_nil, all_cons, aLoad_eq, loadGo_row, aPlace_ptr, dropC_cells, aStore_eq, storeGo_ptr, setC_row, setAll_nil, setAll_cons, aAlloc_eq, aBuild_go, aFill_nil, aFill_cons, fillGo_some, buildGo_struct, push_n, get_push2', set_push2', List.getElem?_cons_zero, List.getElem?_cons_succ, Nat.reduceEqDiff, Nat.reduceAdd, Nat.reduceLeDiff, reduceCtorEq, List.map_cons, List.map_nil, Option.map_some, Nat.zero_add, Nat.zero_le, List.length_cons, List.length_nil, List.drop_zero, List.take_succ_cons, List.take_nil, List.set_cons_zero, List.set_cons_succ, List.nil_append, List.cons_append, and_self, if_true, if_false, Bool.and_self, Nat.le_refl, lt_31, pl_31, zc_31, zt_31, litS, resultsC_1, retA_ret, Tryd.results10, resultsC_1, resultA_cell]
  obtain ⟨h2, c, k⟩ := castEw 6 0 [.mk 5 0 [], .mk 3 0 []] (WkL.append (wkE0 5 0) rfl (wkE0 3 0)) rfl (by decide) 2 rfl (h.push (.cells [.int .i64 6, .int .i64 0, .sl (h.n + 1) 0 2 2] 31 none))
  exact hid_mk ⟨h2, c, (Keep.push h _ none_).trans' k⟩
/-! ### usual -/
def kindN (k : Nat) : Int := if k % 3 = 0 then 6 else if k % 3 = 1 then 7 else 8
theorem lit3k (h : AHeap) : aBuildSlice Tryd.prog 28 3 [(0, .int .i64 6), (1, .int .i64 7), (2, .int .i64 8)] h = some (.sl h.n 0 3 3, h.push (.cells [.int .i64 6, .int .i64 7, .int .i64 8] 3 none)) := by rw [buildSlice_go sl_28]; rfl
set_option maxRecDepth 10000 in
theorem pUsual (k n : Nat) (hk : k < 256) (hn : n < 256) (h : AHeap) : Pure Tryd.prog 7 [.int .u8 (k : Nat), .int .u8 (n : Nat)] h (.agg (encX ⟨kindN k, [], sumE, 1 + (n : Int)⟩)) := by
  refine Pure.of (Clo.agg (encX_clo _)) ?_
  refine SCalls.enterI (c := _) Tryd.func7 rfl (by kernel_rfl) (by simp) ?_
  have w1 : IntKind.i64.wrap (k : Int) = (k : Int) := Go.IntWalk.i64_in _ (by omega)
  have w2 : IntKind.i64.wrap (n : Int) = (n : Int) := Go.IntWalk.i64_in _ (by omega)
  have w3 : IntKind.i64.wrap (1 + (n : Int)) = 1 + (n : Int) := Go.IntWalk.i64_in _ (by omega)
  have hrem : (k : Int).tmod 3 = ((k % 3 : Nat) : Int) := by rw [Int.tmod_eq_emod_of_nonneg (by omega)]; rfl
  have l3 : (encE sumE).length = 3 := rfl
  have s1 : ∀ kd : Int, (setAll [V.int .i64 kd, .snil, .int .i64 0, .int .i64 0, .snil, .int .i64 0] 2 (encE sumE)).length = 6 := fun _ => rfl
  have s2 : ∀ kd : Int, (setAll [V.int .i64 kd, .snil, .int .i64 0, .int .i64 0, .snil, .int .i64 0] 2 (encE sumE)).set 5 (.int .i64 (1 + (n : Int))) = [V.int .i64 kd, .snil] ++ encE sumE ++ [.int .i64 (1 + (n : Int))] := fun _ => rfl
  have cX : ∀ kd : Int, (V.agg ([V.int .i64 kd, .snil] ++ encE sumE ++ [.int .i64 (1 + (n : Int))])).cells = some ([V.int .i64 kd, .snil] ++ encE sumE ++ [.int .i64 (1 + (n : Int))]) := fun _ => rfl

  simp only [wpA_region, wpA_seq, wpA_draw, seqQ_normal, goI_out, goI_ops, opsA_nil, opsA_cons, stepA_assign, stepA_alloc, stepA_buildSlice, thenH_some, eval_tmp, eval_const, put_some, enterF_succ, absV_int, aAlloc_eq, push_n, Nat.reduceEqDiff, List.map_cons, List.map_nil, Option.map_some, if_true, if_false, zc_33, lit3k]
  refine SWp.drawnS none_ [11] (.q 0 (.q 1 (.q 2 (.q 3 (.q 4 (.q 5 (.c 6 (.q 7 (.q 8 (.q 9 (.q 10 (.a 11 .done)))))))))))) (by kernel_rfl) (by kernel_rfl) (by kernel_rfl) ?_
  have s3 : ∀ kd : Int, setC (some 6) (AObj.cells [.int .i64 0, .snil, .int .i64 0, .int .i64 0, .snil, .int .i64 0] 33 none) 0 (V.int .i64 kd :: V.snil :: (encE sumE ++ [.int .i64 (1 + (n : Int))])) = some (.cells (V.int .i64 kd :: V.snil :: (encE sumE ++ [.int .i64 (1 + (n : Int))])) 33 none) := fun _ => rfl
  have s4 : ∀ kd : Int, loadGo (some (some 6)) (some (V.int .i64 kd :: V.snil :: (encE sumE ++ [.int .i64 (1 + (n : Int))]))) = some (.agg (V.int .i64 kd :: V.snil :: (encE sumE ++ [.int .i64 (1 + (n : Int))]))) := fun _ => rfl
  have s5 : ∀ kd : Int, dropC (AObj.cells (V.int .i64 kd :: V.snil :: (encE sumE ++ [.int .i64 (1 + (n : Int))])) 33 none) 0 = some (V.int .i64 kd :: V.snil :: (encE sumE ++ [.int .i64 (1 + (n : Int))])) := fun _ => rfl
  have fin : ∀ kd : Int, kindN k = kd → ∀ H : AHeap, Keep h H none_ → ∃ h2, Cast (.agg ([.int .i64 kd, .snil] ++ encE sumE ++ [.int .i64 (1 + (n : Int))])) H (.agg (encX ⟨kindN k, [], sumE, 1 + (n : Int)⟩)) h2 ∧ Keep h h2 none_ := fun kd hk H kH => ⟨H, hk ▸ castX _ _ _ _, kH⟩
  have h3 : k % 3 = 0 ∨ k % 3 = 1 ∨ k % 3 = 2 := by omega
  rcases h3 with h3 | h3 | h3
  · have hr : (k : Int).tmod 3 = 0 := by rw [hrem, h3]; rfl
    have ix : (if 0 ≤ (0 : Int) ∧ (0 : Int) < ((3 : Nat) : Int) then some (V.ptr (h.n + 1) ((0 : Int).toNat * 1)) else none) = some (.ptr (h.n + 1) 0) := rfl
    have ix2 : (if (0 : Int) < ((3 : Nat) : Int) then some (V.ptr (h.n + 1) ((0 : Int).toNat * 1)) else none) = some (.ptr (h.n + 1) 0) := rfl
    simp only [siI_q, sqI_some, mOk_none', implies_true, qI_nil, qI_cons, thenQ_some, q_move, q_load, q_binOp, q_convert, q_indexAddr, goI_mk, eval_tmp, eval_const, put_some, enterF_zero, enterF_succ, absV_int, aLoad_eq, loadGo_one, aPlace_ptr, dropC_cells, aIndexAddr_eq, ixGo_sl, get_push2, List.getElem?_cons_zero, List.getElem?_cons_succ, Int.reduceLE, Nat.reduceEqDiff, Nat.reduceAdd, reduceCtorEq, Nat.zero_add, Nat.zero_le, List.length_cons, List.length_nil, List.drop_zero, true_and, if_true, if_false, as_28, lt_3, ss_28, aConv_int it_5 it_3, aBin_rem (show (3 : Int) ≠ 0 by decide), w1, hr, ix2]
    refine siI_c rfl rfl rfl (fun h' _ => pSum h') ?_
    simp only [siI_done, siI_q, siI_a, sqI_some, saI_some, mOk_none', implies_true, qI_nil, qI_cons, thenQ_some, q_move, q_build, q_binOp, q_convert, wpA_ret, seqQ_normal, endI_mk, goI_out, goI_ops, goI_mk, opsA_nil, opsA_cons, stepA_store, thenS_some, eval_tmp, eval_const, put_some, put_none, enterF_zero, enterF_succ, aBin_add, absV_int, cells_int, cells_agg, aLoad_eq, aPlace_ptr, aStore_eq, storeGo_ptr, setAll_nil, setAll_cons, aBuild_go, aFill_nil, aFill_cons, fillGo_some, buildGo_struct, get_push2', set_push2', List.getElem?_cons_zero, List.getElem?_cons_succ, Nat.reduceEqDiff, Nat.reduceAdd, Nat.reduceLeDiff, List.map_cons, List.map_nil, Option.map_some, Nat.zero_add, List.length_cons, List.length_nil, List.set_cons_zero, List.nil_append, List.cons_append, true_and, and_self, if_true, if_false, Nat.le_refl, lt_33, pl_33, zc_33, zt_33, aConv_int it_5 it_2, w2, w3, l3, s1, s2, s3, s4, s5, retA_ret, Tryd.results7, resultsC_1, resultA_cell]
    exact hid_mk (fin 6 (by simp [kindN, h3]) _ ((Keep.push h _ none_).then_push _))
  · have hr : (k : Int).tmod 3 = 1 := by rw [hrem, h3]; rfl
    have ix : (if 0 ≤ (1 : Int) ∧ (1 : Int) < ((3 : Nat) : Int) then some (V.ptr (h.n + 1) ((1 : Int).toNat * 1)) else none) = some (.ptr (h.n + 1) 1) := rfl
    have ix2 : (if (1 : Int) < ((3 : Nat) : Int) then some (V.ptr (h.n + 1) ((1 : Int).toNat * 1)) else none) = some (.ptr (h.n + 1) 1) := rfl
    simp only [siI_q, sqI_some, mOk_none', implies_true, qI_nil, qI_cons, thenQ_some, q_move, q_load, q_binOp, q_convert, q_indexAddr, goI_mk, eval_tmp, eval_const, put_some, enterF_zero, enterF_succ, absV_int, aLoad_eq, loadGo_one, aPlace_ptr, dropC_cells, aIndexAddr_eq, ixGo_sl, get_push2, List.getElem?_cons_zero, List.getElem?_cons_succ, Int.reduceLE, Nat.reduceEqDiff, Nat.reduceAdd, Nat.reduceLeDiff, reduceCtorEq, Nat.zero_add, List.length_cons, List.length_nil, List.drop_zero, List.drop_succ_cons, true_and, if_true, if_false, as_28, lt_3, ss_28, aConv_int it_5 it_3, aBin_rem (show (3 : Int) ≠ 0 by decide), w1, hr, ix2]
    refine siI_c rfl rfl rfl (fun h' _ => pSum h') ?_
    simp only [siI_done, siI_q, siI_a, sqI_some, saI_some, mOk_none', implies_true, qI_nil, qI_cons, thenQ_some, q_move, q_build, q_binOp, q_convert, wpA_ret, seqQ_normal, endI_mk, goI_out, goI_ops, goI_mk, opsA_nil, opsA_cons, stepA_store, thenS_some, eval_tmp, eval_const, put_some, put_none, enterF_zero, enterF_succ, aBin_add, absV_int, cells_int, cells_agg, aLoad_eq, aPlace_ptr, aStore_eq, storeGo_ptr, setAll_nil, setAll_cons, aBuild_go, aFill_nil, aFill_cons, fillGo_some, buildGo_struct, get_push2', set_push2', List.getElem?_cons_zero, List.getElem?_cons_succ, Nat.reduceEqDiff, Nat.reduceAdd, Nat.reduceLeDiff, List.map_cons, List.map_nil, Option.map_some, Nat.zero_add, List.length_cons, List.length_nil, List.set_cons_zero, List.nil_append, List.cons_append, true_and, and_self, if_true, if_false, Nat.le_refl, lt_33, pl_33, zc_33, zt_33, aConv_int it_5 it_2, w2, w3, l3, s1, s2, s3, s4, s5, retA_ret, Tryd.results7, resultsC_1, resultA_cell]
    exact hid_mk (fin 7 (by simp [kindN, h3]) _ ((Keep.push h _ none_).then_push _))
  · have hr : (k : Int).tmod 3 = 2 := by rw [hrem, h3]; rfl
    have ix : (if 0 ≤ (2 : Int) ∧ (2 : Int) < ((3 : Nat) : Int) then some (V.ptr (h.n + 1) ((2 : Int).toNat * 1)) else none) = some (.ptr (h.n + 1) 2) := rfl
    have ix2 : (if (2 : Int) < ((3 : Nat) : Int) then some (V.ptr (h.n + 1) ((2 : Int).toNat * 1)) else none) = some (.ptr (h.n + 1) 2) := rfl
    simp only [siI_q, sqI_some, mOk_none', implies_true, qI_nil, qI_cons, thenQ_some, q_move, q_load, q_binOp, q_convert, q_indexAddr, goI_mk, eval_tmp, eval_const, put_some, enterF_zero, enterF_succ, absV_int, aLoad_eq, loadGo_one, aPlace_ptr, dropC_cells, aIndexAddr_eq, ixGo_sl, get_push2, List.getElem?_cons_zero, List.getElem?_cons_succ, Int.reduceLE, Nat.reduceEqDiff, Nat.reduceAdd, Nat.reduceLeDiff, reduceCtorEq, Nat.zero_add, List.length_cons, List.length_nil, List.drop_zero, List.drop_succ_cons, true_and, if_true, if_false, as_28, lt_3, ss_28, aConv_int it_5 it_3, aBin_rem (show (3 : Int) ≠ 0 by decide), w1, hr, ix2]
    refine siI_c rfl rfl rfl (fun h' _ => pSum h') ?_
    simp only [siI_done, siI_q, siI_a, sqI_some, saI_some, mOk_none', implies_true, qI_nil, qI_cons, thenQ_some, q_move, q_build, q_binOp, q_convert, wpA_ret, seqQ_normal, endI_mk, goI_out, goI_ops, goI_mk, opsA_nil, opsA_cons, stepA_store, thenS_some, eval_tmp, eval_const, put_some, put_none, enterF_zero, enterF_succ, aBin_add, absV_int, cells_int, cells_agg, aLoad_eq, aPlace_ptr, aStore_eq, storeGo_ptr, setAll_nil, setAll_cons, aBuild_go, aFill_nil, aFill_cons, fillGo_some, buildGo_struct, get_push2', set_push2', List.getElem?_cons_zero, List.getElem?_cons_succ, Nat.reduceEqDiff, Nat.reduceAdd, Nat.reduceLeDiff, List.map_cons, List.map_nil, Option.map_some, Nat.zero_add, List.length_cons, List.length_nil, List.set_cons_zero, List.nil_append, List.cons_append, true_and, and_self, if_true, if_false, Nat.le_refl, lt_33, pl_33, zc_33, zt_33, aConv_int it_5 it_2, w2, w3, l3, s1, s2, s3, s4, s5, retA_ret, Tryd.results7, resultsC_1, resultA_cell]
    exact hid_mk (fin 8 (by simp [kindN, h3]) _ ((Keep.push h _ none_).then_push _))
/-! ### The store -/
/-- The store of a vertex that sums by key. -/
structure IsAg (h : AHeap) (a : Nat) (i : Nat) (v : V) (e : Ex) (n : Int) (l : List Pr) : Prop where
  lt : a < h.n
  get : h.get a = .cells (encE e ++ [.int .i64 n, .iface 68 (.ptr i 0)]) 58 none
  kv : IsKv h i v 1024 l
  ne : a ≠ i
  nev : idOf v ≠ some a
set_option maxRecDepth 10000 in
theorem pKeeper6 (x : Vx) (hx : x.kind = 6) (h : AHeap) : SCalls Tryd.prog 13 [.agg (encX x)] h (fun r h' => ∃ i, r = .tuple [.iface 68 (.ptr i 0), .int .i64 0] ∧ h.n ≤ i ∧ IsKv h' i .snil 1024 [] ∧ Keep h h' none_) := by
  refine SCalls.enterI (c := _) Tryd.func13 rfl (by kernel_rfl) (by simp) ?_
  obtain ⟨kd, fr, ⟨o, m, ks⟩, n⟩ := x
  have hx : kd = 6 := hx
  subst hx
  have hx : encX ⟨6, fr, .mk o m ks, n⟩ = [.int .i64 6, .imm fr.length (i64V fr), .int .i64 o, .int .i64 m, .imm ks.length (ks.flatMap encE), .int .i64 n] := by simp [encX, encE_eq]
  rw [hx]
  have hk : Keep h (h.push (.cells [.int .i64 6, .imm fr.length (i64V fr), .int .i64 o, .int .i64 m, .imm ks.length (ks.flatMap encE), .int .i64 n] 33 none)) none_ := Keep.push _ _ _
  simp only [wpA_region, wpA_seq, wpA_cond, wpA_block, condI_true, seqQ_normal, goI_out, goI_ops, opsA_nil, opsA_cons, stepA_assign, stepA_box, stepA_load, stepA_binOp, stepA_fieldAddr, stepA_call, thenV_some, thenH_some, eval_tmp, eval_const, put_some, enterF_zero, enterF_succ, aBin_eql, absV_int, absV_nilIface, cells_agg, aField_eq, fieldGo_ptr, aLoad_eq, loadGo_one, aPlace_ptr, dropC_cells, aBox_eq, get_push_new, beq_self_eq_true, Nat.reduceEqDiff, Nat.reduceAdd, List.map_cons, List.map_nil, Option.map_some, Nat.add_zero, Nat.zero_add, Nat.zero_le, List.length_cons, List.length_nil, List.drop_zero, if_true, if_false, ft_33_0, lt_3]
  refine callI_of cal23 (kvNew _ 1024 (by decide) (by decide)) fun r h1 ⟨e1, k1, p1⟩ => ?_
  subst e1
  simp only [wpA_ret, seqQ_normal, seqQ_ret, blkQ_ret, endI_mk, goI_out, goI_ops, opsA_nil, opsA_cons, stepA_assign, stepA_extract, stepA_makeInterface, ifcV_false, thenV_some, extV_zero, extV_succ, eval_tmp, put_some, enterF_succ, push_n, Nat.reduceEqDiff, if_true, if_false, if_68, retA_ret, Tryd.results13, resultsA_2]
  exact hid_mk ⟨_, rfl, by omega, k1, hk.trans' p1⟩
end Go.Proofs.YtpjfhfmbhjghcaaDoor.Pk
namespace Go.Proofs.YtpjfhfmbhjghcaaDoor.Pk
open Go Go.Proofs Go.Proofs.YtpjfhfmbhjghcaaDoor.Ab
set_option linter.unusedVariables false
set_option linter.unusedSimpArgs false
mutual
theorem encB_lt : (e : Ex) → ∀ b ∈ encB e, b < 256
  | .mk o n l => fun b hb => by
    rw [encB] at hb
    simp only [List.mem_append] at hb
    rcases hb with (hb | hb) | hb
    · exact enc_lt _ _ (Nat.le_refl _) b hb
    · split at hb
      · exact enc_lt _ _ (Nat.le_refl _) b hb
      · cases hb
    · exact encBL_lt l b hb
theorem encBL_lt : (l : List Ex) → ∀ b ∈ encBL l, b < 256
  | [] => fun b hb => by rw [encBL] at hb; cases hb
  | k :: r => fun b hb => by
    rw [encBL] at hb
    rcases List.mem_append.1 hb with hb | hb
    · exact encB_lt k b hb
    · exact encBL_lt r b hb
end
theorem asrK (i : Nat) : aAssert Tryd.prog (.iface 68 (.ptr i 0)) 68 true = some (.tuple [.ptr i 0, .bool true]) := by
  unfold aAssert; rw [Tryd.underlying68]; rfl
/-! ### New -/
set_option maxRecDepth 10000 in
set_option maxHeartbeats 1000000 in
theorem agNew6 (x : Vx) (hx : x.kind = 6) (hm : mayX x.e = true) (hok : OkE x.e) (h : AHeap) (hg : KG h) :
    SCalls Tryd.prog 6 [.agg (encX x)] h (fun r h' => ∃ a i, r = .tuple [.ptr a 0, .int .i64 0] ∧ h.n ≤ a ∧ h.n ≤ i ∧ IsAg h' a i .snil x.e x.n [] ∧ Keep h h' none_) := by
  refine SCalls.enterI (c := _) Tryd.func6 rfl (by kernel_rfl) (by simp) ?_
  obtain ⟨kd, fr, ⟨o, m, ks⟩, n⟩ := x
  have hx : kd = 6 := hx
  subst hx
  have hX : encX ⟨6, fr, .mk o m ks, n⟩ = [.int .i64 6, .imm fr.length (i64V fr), .int .i64 o, .int .i64 m, .imm ks.length (ks.flatMap encE), .int .i64 n] := by simp [encX, encE_eq]
  have hE : encE (.mk o m ks) = [.int .i64 o, .int .i64 m, .imm ks.length (ks.flatMap encE)] := encE_eq _ _ _
  obtain ⟨H, hH⟩ : ∃ y, y = h.push (.cells [.int .i64 6, .imm fr.length (i64V fr), .int .i64 o, .int .i64 m, .imm ks.length (ks.flatMap encE), .int .i64 n] 33 none) := ⟨_, rfl⟩
  have k0 : Keep h H none_ := by rw [hH]; exact Keep.push _ _ _
  have g0 : H.get h.n = .cells [.int .i64 6, .imm fr.length (i64V fr), .int .i64 o, .int .i64 m, .imm ks.length (ks.flatMap encE), .int .i64 n] 33 none := by rw [hH]; exact get_push_new
  have n0 : H.n = h.n + 1 := by rw [hH]; rfl
  have b1 : Pure Tryd.prog 12 [.agg [.int .i64 o, .int .i64 m, .imm ks.length (ks.flatMap encE)]] H (bytV (.mk o m ks)) := by rw [← hE]; exact pBytesX _ hok H (hg.keep k0)
  have hm' : mayX (.mk o m ks) = true := hm
  rw [hX]
  simp only [wpA_region, wpA_seq, seqQ_normal, goI_out, goI_ops, opsA_nil, opsA_cons, stepA_assign, stepA_box, stepA_load, stepA_fieldAddr, stepA_call, thenV_some, thenH_some, eval_tmp, eval_const, put_some, enterF_zero, enterF_succ, absV_int, absV_pnil, cells_agg, aField_eq, fieldGo_ptr, aLoad_eq, loadGo_row, aPlace_ptr, dropC_cells, aBox_eq, get_push_new, Nat.reduceEqDiff, Nat.reduceAdd, Nat.reduceLeDiff, List.map_cons, List.map_nil, Option.map_some, Nat.zero_add, List.length_cons, List.length_nil, List.drop_zero, List.drop_succ_cons, List.take_succ_cons, List.take_zero, if_true, if_false, ft_33_2, lt_31]
  rw [← hH]
  clear hH
  refine callI_pure cal12 b1 ?_
  unfold bytV bytX
  rw [if_pos hm', if_pos hm']
  simp only [wpA_skip, wpA_region, wpA_seq, wpA_cond, condI_false, seqQ_normal, goI_out, goI_ops, opsA_nil, opsA_cons, stepA_move, stepA_assign, stepA_load, stepA_binOp, stepA_extract, stepA_call, thenV_some, extV_zero, extV_succ, eval_tmp, eval_const, put_some, enterF_succ, aBin_neq, absV_int, aLoad_eq, loadGo_row, aPlace_ptr, dropC_cells, bne_self_eq_false, Nat.reduceEqDiff, Nat.reduceAdd, List.map_cons, List.map_nil, Nat.zero_add, Nat.zero_le, List.length_cons, List.length_nil, List.drop_zero, List.take_succ_cons, List.take_nil, if_true, if_false, Nat.le_refl, lt_33, g0]
  have kp := pKeeper6 ⟨6, fr, .mk o m ks, n⟩ rfl H
  rw [hX] at kp
  refine callI_of cal13 kp fun r h1 ⟨i, e1, hi, ki, k1⟩ => ?_
  subst e1
  have g1 := (k1.get h.n (by omega) (by simp [none_])).trans g0
  simp only [wpA_skip, wpA_region, wpA_seq, wpA_cond, condI_false, seqQ_normal, goI_out, goI_ops, opsA_nil, opsA_cons, stepA_move, stepA_assign, stepA_binOp, stepA_extract, stepA_call, thenV_some, extV_zero, extV_succ, eval_tmp, eval_const, put_some, enterF_succ, aBin_neq, absV_int, bne_self_eq_false, Nat.reduceEqDiff, List.map_cons, List.map_nil, if_true, if_false]
  have hof := pOf (.imm (encB (.mk o m ks)).length (bytesV (encB (.mk o m ks)))) (encB (.mk o m ks)) h1 ((hg.keep k0).keep k1) (Rd.imm _ _) (encB_lt _) (by have := encB_len _ (.mk o m ks) rfl hok; have := mayX_sz hm'; omega)
  have hov : ofV (encB (.mk o m ks)) = .tuple [.agg (encE (.mk o m ks)), .int .i64 0] := by unfold ofV ofE ofC; rw [ofX_enc hm' hok]; rfl
  rw [hov, hE] at hof
  refine callI_pure cal14 hof ?_
  have n1 := k1.n
  obtain ⟨H2, hH2⟩ : ∃ y, y = h1.push (.cells [.int .i64 o, .int .i64 m, .imm ks.length (ks.flatMap encE)] 31 none) := ⟨_, rfl⟩
  have k2 : Keep h1 H2 none_ := by rw [hH2]; exact Keep.push _ _ _
  have g2 := (k2.get h.n (by omega) (by simp [none_])).trans g1
  have g3 : H2.get h1.n = .cells [.int .i64 o, .int .i64 m, .imm ks.length (ks.flatMap encE)] 31 none := by rw [hH2]; exact get_push_new
  have n2 : H2.n = h1.n + 1 := by rw [hH2]; rfl
  simp only [wpA_region, wpA_seq, seqQ_normal, goI_out, goI_ops, opsA_nil, opsA_cons, stepA_move, stepA_assign, stepA_alloc, stepA_load, stepA_store, stepA_fieldAddr, stepA_extract, thenV_some, thenH_some, thenS_some, extV_zero, extV_succ, eval_tmp, put_some, put_none, enterF_succ, cells_agg, one_int, one_imm, all_nil, all_cons, aField_eq, fieldGo_ptr, aLoad_eq, loadGo_row, aPlace_ptr, dropC_cells, aStore_eq, storeGo_ptr, setC_row, setAll_nil, setAll_cons, aAlloc_eq, get_push_new, set_push, Nat.reduceEqDiff, Nat.reduceAdd, Option.map_some, Nat.zero_add, Nat.zero_le, List.length_cons, List.length_nil, List.drop_zero, List.take_succ_cons, List.take_nil, List.set_cons_zero, List.set_cons_succ, if_true, if_false, Bool.and_self, Nat.le_refl, ft_33_3, lt_2, lt_31, zc_31, zt_31]
  rw [← hH2]
  clear hH2
  simp only [wpA_ret, seqQ_normal, endI_mk, goI_out, goI_ops, opsA_nil, opsA_cons, stepA_move, stepA_assign, stepA_box, stepA_build, thenV_some, thenH_some, eval_tmp, eval_const, put_some, put_none, enterF_succ, absV_int, cells_int, cells_iface, cells_agg, loadGo_one, dropC_cells, setAll_nil, setAll_cons, aBox_eq, aBuild_go, aFill_nil, aFill_cons, fillGo_some, buildGo_struct, List.getElem?_cons_zero, List.getElem?_cons_succ, Nat.reduceEqDiff, Nat.reduceAdd, Nat.reduceLeDiff, List.map_cons, List.map_nil, Option.map_some, Nat.zero_add, List.length_cons, List.length_nil, List.drop_zero, List.drop_succ_cons, List.set_cons_zero, List.set_cons_succ, and_self, if_true, if_false, Nat.le_refl, pl_58, zc_58, g2, retA_ret, Tryd.results6, resultsA_2]
  have k3 : Keep H2 (H2.push (.cells [.int .i64 o, .int .i64 m, .imm ks.length (ks.flatMap encE), .int .i64 n, .iface 68 (.ptr i 0)] 58 none)) none_ := Keep.push _ _ _
  have hki := ki.lt
  refine hid_mk ⟨_, i, rfl, by omega, by omega, ⟨by rw [push_n]; omega, ?_, (ki.keepN k2).keepN k3, by omega, by simp [idOf]⟩, (k0.trans' k1).trans' (k2.trans' k3)⟩
  rw [hE]
  exact get_push_new
/-! ### missing, gathered, put, Value -/
set_option maxRecDepth 10000 in
theorem ag_missing {h : AHeap} {a i : Nat} {v : V} {e : Ex} {n : Int} {l : List Pr} (s : IsAg h a i v e n l) : Pure Tryd.prog 15 [.ptr a 0] h (.bool false) := by
  obtain ⟨o, m, ks⟩ := e
  have g := s.get
  rw [encE_eq] at g
  refine SCalls.enterI (c := _) Tryd.func15 rfl (by kernel_rfl) (by simp) ?_
  simp only [List.cons_append, List.nil_append] at g
  simp only [wpA_region, wpA_seq, seqQ_normal, goI_out, goI_ops, opsA_nil, opsA_cons, opsA_guardS, gvI_same, slotAt_zero, slotAt_succ, stepA_move, stepA_assign, stepA_load, stepA_nilCheck, stepA_binOp, stepA_fieldAddr, thenV_some, nilV_ptr, eval_tmp, eval_const, put_some, enterF_zero, enterF_succ, ptr_nil_eql, absV_bool, absV_pnil, absV_nilIface, aField_eq, fieldGo_ptr, aLoad_eq, loadGo_one, aPlace_ptr, dropC_cells, Nat.reduceEqDiff, Nat.reduceAdd, Nat.reduceLeDiff, reduceCtorEq, Nat.zero_add, List.length_cons, List.length_nil, List.drop_zero, List.drop_succ_cons, if_true, if_false, ft_58_2, kt_24, lt_52, g]
  exact hid_mk ⟨rfl, rfl⟩
set_option maxRecDepth 10000 in
theorem pMayTa (t : Int) (h : AHeap) : Pure Tryd.prog 16 [.int .i64 t] h (.bool (decide (0 ≤ t ∧ t ≤ 1099511627776))) := by
  refine SCalls.enterI (c := _) Tryd.func16 rfl (by kernel_rfl) (by simp) ?_
  by_cases h1 : 0 ≤ t
  · have d1 : decide (0 ≤ t) = true := decide_eq_true h1
    by_cases h2 : t ≤ 1099511627776
    · have d2 : decide (t ≤ 1099511627776) = true := decide_eq_true h2
      simp only [wpA_region, wpA_seq, wpA_ret, seqQ_normal, endI_mk, goI_out, goI_ops, opsA_nil, opsA_cons, opsA_guardS, gvI_same, slotAt_zero, slotAt_succ, stepA_move, stepA_assign, stepA_pick, stepA_binOp, thenV_some, pickV_true, eval_tmp, eval_const, put_some, enterF_zero, enterF_succ, aBin_leq, aBin_geq, absV_int, absV_bool, Nat.reduceEqDiff, reduceCtorEq, if_true, if_false, d1, d2, retA_ret, Tryd.results16, resultsA_1]
      exact hid_mk ⟨by rw [decide_eq_true (⟨h1, h2⟩ : 0 ≤ t ∧ t ≤ 1099511627776)], rfl⟩
    · have d2 : decide (t ≤ 1099511627776) = false := decide_eq_false h2
      simp only [wpA_region, wpA_seq, wpA_ret, seqQ_normal, endI_mk, goI_out, goI_ops, opsA_nil, opsA_cons, opsA_guardS, gvI_same, slotAt_zero, slotAt_succ, stepA_move, stepA_assign, stepA_pick, stepA_binOp, thenV_some, pickV_true, eval_tmp, eval_const, put_some, enterF_zero, enterF_succ, aBin_leq, aBin_geq, absV_int, absV_bool, Nat.reduceEqDiff, reduceCtorEq, if_true, if_false, d1, d2, retA_ret, Tryd.results16, resultsA_1]
      exact hid_mk ⟨by rw [decide_eq_false (fun q : 0 ≤ t ∧ t ≤ 1099511627776 => h2 q.2)], rfl⟩
  · have d1 : decide (0 ≤ t) = false := decide_eq_false h1
    simp only [wpA_region, wpA_seq, wpA_ret, seqQ_normal, endI_mk, goI_out, goI_ops, opsA_nil, opsA_cons, opsA_guardS, gvI_ft, slotAt_zero, slotAt_succ, stepA_move, stepA_assign, stepA_pick, stepA_binOp, thenV_some, pickV_false, eval_tmp, eval_const, put_some, enterF_zero, enterF_succ, aBin_geq, absV_int, absV_bool, Nat.reduceEqDiff, reduceCtorEq, if_true, if_false, d1, retA_ret, Tryd.results16, resultsA_1]
    exact hid_mk ⟨by rw [decide_eq_false (fun q : 0 ≤ t ∧ t ≤ 1099511627776 => h1 q.1)], rfl⟩
set_option maxRecDepth 10000 in
theorem pGath6 {h : AHeap} {i : Nat} {v : V} {room : Int} {l : List Pr} (k : IsKv h i v room l) (r : Rec) : Pure Tryd.prog 18 [.iface 68 (.ptr i 0), .agg (recE r)] h (.int .i64 ((look l r.k).getD 0)) := by
  refine Pure.val (Clo.int _ _) ?_
  obtain ⟨rk, rv, rt⟩ := r
  refine SCalls.enterI (c := _) Tryd.func18 rfl (by kernel_rfl) (by simp) ?_
  unfold recE
  have kk : Keep h (h.push (.cells [.int .i64 rk, .int .i64 rv, .int .i64 rt] 36 none)) none_ := Keep.push _ _ _
  simp only [wpA_region, wpA_seq, wpA_cond, wpA_block, condI_true, seqQ_normal, goI_out, goI_ops, opsA_nil, opsA_cons, stepA_move, stepA_assign, stepA_box, stepA_load, stepA_fieldAddr, stepA_typeAssert, stepA_extract, stepA_call, thenV_some, thenH_some, extV_zero, extV_succ, eval_tmp, eval_const, put_some, enterF_zero, enterF_succ, absV_int, cells_agg, aField_eq, fieldGo_ptr, aLoad_eq, loadGo_one, aPlace_ptr, dropC_cells, aBox_eq, get_push_new, Nat.reduceEqDiff, Nat.reduceAdd, reduceCtorEq, List.map_cons, List.map_nil, Option.map_some, Nat.add_zero, Nat.zero_add, Nat.zero_le, List.length_cons, List.length_nil, List.drop_zero, if_true, if_false, ft_36_0, lt_2, asrK]
  refine callI_pure cal31 (kvGet _ i v room rk l (k.keepN kk)) ?_
  simp only [wpA_region, wpA_seq, wpA_ret, seqQ_normal, blkQ_normal, endI_mk, goI_out, goI_ops, opsA_nil, opsA_cons, stepA_move, stepA_assign, stepA_extract, thenV_some, extV_zero, extV_succ, eval_tmp, put_some, enterF_succ, Nat.reduceEqDiff, if_true, if_false, retA_ret, Tryd.results18, resultsA_1]
  exact hid_mk ⟨rfl, kk⟩
set_option maxRecDepth 10000 in
theorem pTable6 {h : AHeap} {i : Nat} {v : V} {room : Int} {l : List Pr} (k : IsKv h i v room l) (key : Int) : Pure Tryd.prog 20 [.iface 68 (.ptr i 0), .int .i64 key] h (.int .i64 ((look l key).getD 0)) := by
  refine SCalls.enterI (c := _) Tryd.func20 rfl (by kernel_rfl) (by simp) ?_
  simp only [wpA_skip, wpA_region, wpA_seq, wpA_cond, condI_false, seqQ_normal, goI_out, goI_ops, opsA_nil, opsA_cons, stepA_move, stepA_assign, stepA_unOp, stepA_typeAssert, stepA_extract, stepA_call, thenV_some, extV_zero, extV_succ, eval_tmp, eval_const, put_some, enterF_zero, enterF_succ, aUn_not, absV_int, Nat.reduceEqDiff, reduceCtorEq, List.map_cons, List.map_nil, if_true, if_false, Bool.not_true, asrK]
  refine callI_pure cal31 (kvGet _ i v room key l k) ?_
  simp only [wpA_region, wpA_seq, wpA_ret, seqQ_normal, endI_mk, goI_out, goI_ops, opsA_nil, opsA_cons, stepA_move, stepA_assign, stepA_extract, thenV_some, extV_zero, extV_succ, eval_tmp, put_some, enterF_succ, Nat.reduceEqDiff, if_true, if_false, retA_ret, Tryd.results20, resultsA_1]
  exact hid_mk ⟨rfl, rfl⟩
theorem lit1ca (h : AHeap) (c : Chg) : aBuildSlice Tryd.prog 37 1 [(0, .agg (chgE c))] h = some (.sl h.n 0 1 1, h.push (.cells (chgE c) 47 none)) := by rw [buildSlice_go sl_37]; rfl
set_option maxRecDepth 10000 in
theorem pPut6 {h : AHeap} {i : Nat} {v : V} {room : Int} {l : List Pr} (k : IsKv h i v room l) (r : Rec) (n : Int) :
    SCalls Tryd.prog 19 [.iface 68 (.ptr i 0), .agg (recE r), .int .i64 n] h (fun q h' => ∃ v' j, q = .tuple [.sl j 0 1 1, .int .i64 r.t, .int .i64 (putE room l r.k)] ∧ IsKv h' i v' room (putL room l r.k n) ∧ Keep h h' (kvO i v) ∧ NewOr h v v' ∧
      Own h' 47 5 (.sl j 0 1 1) (chgE (putX room l r.k n)) ∧ h.n ≤ j ∧ j ≠ i ∧ idOf v' ≠ some j) := by
  obtain ⟨rk, rv, rt⟩ := r
  refine SCalls.enterI (c := _) Tryd.func19 rfl (by kernel_rfl) (by simp) ?_
  unfold recE
  obtain ⟨H, hH⟩ : ∃ y, y = h.push (.cells [.int .i64 rk, .int .i64 rv, .int .i64 rt] 36 none) := ⟨_, rfl⟩
  have k0 : Keep h H none_ := by rw [hH]; exact Keep.push _ _ _
  have g0 : H.get h.n = .cells [.int .i64 rk, .int .i64 rv, .int .i64 rt] 36 none := by rw [hH]; exact get_push_new
  have n0 : H.n = h.n + 1 := by rw [hH]; rfl
  simp only [wpA_region, wpA_seq, wpA_cond, wpA_block, condI_true, seqQ_normal, goI_out, goI_ops, opsA_nil, opsA_cons, stepA_move, stepA_assign, stepA_box, stepA_load, stepA_fieldAddr, stepA_typeAssert, stepA_extract, stepA_call, thenV_some, thenH_some, extV_zero, extV_succ, eval_tmp, eval_const, put_some, enterF_zero, enterF_succ, absV_int, absV_snil, cells_agg, aField_eq, fieldGo_ptr, aLoad_eq, loadGo_one, aPlace_ptr, dropC_cells, aBox_eq, get_push_new, Nat.reduceEqDiff, Nat.reduceAdd, reduceCtorEq, List.map_cons, List.map_nil, Option.map_some, Nat.add_zero, Nat.zero_add, Nat.zero_le, List.length_cons, List.length_nil, List.drop_zero, if_true, if_false, ft_36_0, lt_2, asrK]
  rw [← hH]
  clear hH
  refine callI_of cal34 (kvPut H i v room rk n l (k.keepN k0)) fun q h1 ⟨v1, e1, k1, p1, d1⟩ => ?_
  subst e1
  have hlt := k.lt
  have g1 := (p1.get h.n (by omega) (by
    rintro (hh | hh)
    · omega
    · have := k.own.lt _ hh; omega)).trans g0
  have cc : ∀ c : Chg, (V.agg (chgE c)).cells = some (chgE c) := fun _ => rfl
  have st : ∀ c : Chg, setC (some 5) (AObj.cells [V.int .i64 0, V.int .i64 0, V.int .i64 0, V.int .i64 0, V.bool false] 47 none) 0 (chgE c) = some (.cells (chgE c) 47 none) := fun _ => rfl
  obtain ⟨H2, hH2⟩ : ∃ y, y = h1.push (.cells (chgE (putX room l rk n)) 47 none) := ⟨_, rfl⟩
  have k2 : Keep h1 H2 none_ := by rw [hH2]; exact Keep.push _ _ _
  have g2 : H2.get h1.n = .cells (chgE (putX room l rk n)) 47 none := by rw [hH2]; exact get_push_new
  have g3 := (k2.get h.n (by have := p1.n; omega) (by simp [none_])).trans g1
  have n2 : H2.n = h1.n + 1 := by rw [hH2]; rfl
  simp only [wpA_seq, wpA_draw, seqQ_normal, goI_out, goI_ops, opsA_nil, opsA_cons, stepA_move, stepA_assign, stepA_alloc, stepA_store, stepA_extract, thenV_some, thenH_some, thenS_some, extV_zero, extV_succ, eval_tmp, put_some, put_none, enterF_succ, aStore_eq, storeGo_ptr, aAlloc_eq, get_push_new, set_push, Nat.reduceEqDiff, Option.map_some, if_true, if_false, zc_47, zt_47, cc, st]
  rw [← hH2]
  clear hH2
  have l1 := lit1ca H2 (putX room l rk n)
  have ld : loadGo (some (some 5)) (some (chgE (putX room l rk n))) = some (.agg (chgE (putX room l rk n))) := rfl
  have d0 : dropC (.cells (chgE (putX room l rk n)) 47 none) 0 = some (chgE (putX room l rk n)) := rfl
  generalize hC : chgE (putX room l rk n) = C at *
  refine SWp.drawnS none_ [1] (.q 0 (.q 2 (.q 3 (.q 4 (.e 1 (.q 5 (.q 6 (.q 7 .done))) .stop))))) (by kernel_rfl) (by kernel_rfl) (by kernel_rfl) ?_
  simp only [siI_done, siI_stop, siI_q, siI_e, sqI_some, seI_some, mOk_none', keepT1, implies_true, qI_nil, qI_cons, thenQ_some, q_move, q_assign, q_load, q_fieldAddr, wpA_ret, seqQ_normal, seqQ_ret, blkQ_ret, endI_mk, goI_out, goI_ops, goI_mk, opsA_nil, opsA_cons, stepA_buildSlice, thenH_some, eval_tmp, put_some, put_none, enterF_succ, aField_eq, fieldGo_ptr, aLoad_eq, loadGo_one, aPlace_ptr, dropC_cells, List.getElem?_cons_zero, List.getElem?_cons_succ, Bool.false_eq_true, Nat.reduceEqDiff, Nat.reduceAdd, Nat.reduceLeDiff, List.map_cons, List.map_nil, Nat.zero_add, List.length_cons, List.length_nil, List.drop_zero, List.drop_succ_cons, and_true, true_and, if_true, if_false, ft_36_2, lt_2, lt_47, g2, g3, l1, ld, d0, retA_ret, Tryd.results19, resultsA_3]
  have k3 : Keep H2 (H2.push (.cells C 47 none)) none_ := Keep.push _ _ _
  have hn1 := p1.n
  have hCl : C.length = 5 := by rw [← hC]; rfl
  refine hid_mk ⟨v1, H2.n, rfl, (k1.keepN k2).keepN k3, ?_, NewOr.later d1 (by omega), Own.fresh' _ 1 hCl (by decide), by omega, by omega, fun hh => ?_⟩
  · exact ((k0.up).trans' p1).trans' ((k2.trans' k3).up)
  · have := k1.own.lt _ hh; omega
end Go.Proofs.YtpjfhfmbhjghcaaDoor.Pk
namespace Go.Proofs.YtpjfhfmbhjghcaaDoor.Pk
open Go Go.Proofs Go.Proofs.YtpjfhfmbhjghcaaDoor.Ab
set_option linter.unusedVariables false
set_option linter.unusedSimpArgs false
/-! ### Apply -/
def mayTa (t : Int) : Bool := decide (0 ≤ t ∧ t ≤ 1099511627776)
/-- What becomes of a record: an error, or the value. -/
def apO (e : Ex) (l : List Pr) (r : Rec) : Except Int Int :=
  if mayTa r.t = false then .error 2 else
  match valF r.k r.v r.t ((look l r.k).getD 0) 16 e with
  | none => .error 10
  | some n => if full 1024 l r.k then .error 3 else .ok n
theorem IsAg.keep {h h' : AHeap} {a i : Nat} {v : V} {e : Ex} {n : Int} {l : List Pr} {own : Nat → Prop} (s : IsAg h a i v e n l) (hk : Keep h h' own) (h0 : ¬ own a) (h1 : ¬ own i) (h2 : ∀ j, idOf v = some j → ¬ own j) : IsAg h' a i v e n l :=
  ⟨Nat.lt_of_lt_of_le s.lt hk.n, (hk.get a s.lt h0).trans s.get, s.kv.keep hk h1 h2, s.ne, s.nev⟩
theorem IsAg.keepN {h h' : AHeap} {a i : Nat} {v : V} {e : Ex} {n : Int} {l : List Pr} (s : IsAg h a i v e n l) (hk : Keep h h' none_) : IsAg h' a i v e n l := s.keep hk (by simp [none_]) (by simp [none_]) (by simp [none_])
set_option maxRecDepth 10000 in
set_option maxHeartbeats 2000000 in
theorem agApply6 {h : AHeap} {a i : Nat} {v : V} {e : Ex} {n : Int} {l : List Pr} (s : IsAg h a i v e n l) (hm : mayX e = true) (hg : KG h) (r : Rec) :
    SCalls Tryd.prog 8 [.ptr a 0, .agg (recE r)] h (fun q h' => ∃ v', Keep h h' (kvO i v) ∧ NewOr h v v' ∧
      match apO e l r with
      | .error c => q = .tuple [.agg [.int .i64 0, .int .i64 0, .int .i64 0], .snil, .int .i64 c] ∧ IsAg h' a i v' e n l
      | .ok m => ∃ c, q = .tuple [.agg [.int .i64 r.k, .int .i64 m, .int .i64 r.t], .sl c 0 1 1, .int .i64 0] ∧ IsAg h' a i v' e n (put l r.k m) ∧
          Own h' 47 5 (.sl c 0 1 1) (chgE ⟨r.k, 0, 0, m, false⟩) ∧ h.n ≤ c ∧ c ≠ i ∧ idOf v' ≠ some c) := by
  obtain ⟨rk, rv, rt⟩ := r
  obtain ⟨o, m, ks⟩ := e
  have hE : encE (.mk o m ks) = [.int .i64 o, .int .i64 m, .imm ks.length (ks.flatMap encE)] := encE_eq _ _ _
  refine SCalls.enterI (c := _) Tryd.func8 rfl (by kernel_rfl) (by simp) ?_
  unfold recE
  obtain ⟨H, hH⟩ : ∃ y, y = (h.push (.cells [.int .i64 rk, .int .i64 rv, .int .i64 rt] 36 none)).push (.cells [.int .i64 0, .int .i64 0, .int .i64 0] 36 none) := ⟨_, rfl⟩
  have k0 : Keep h H none_ := by rw [hH]; exact (Keep.push _ _ _).then_push _
  have g0 : H.get h.n = .cells [.int .i64 rk, .int .i64 rv, .int .i64 rt] 36 none := by rw [hH]; exact get_push2'
  have g1 : H.get (h.n + 1) = .cells [.int .i64 0, .int .i64 0, .int .i64 0] 36 none := by rw [hH]; exact get_push2
  have n0 : H.n = h.n + 2 := by rw [hH]; rfl
  have s0 := s.keepN k0
  have ga := s0.get
  rw [hE] at ga
  simp only [List.cons_append, List.nil_append] at ga
  have halt := s.lt
  have hlt := s.kv.lt
  have hne := s.ne
  have kid : ∀ j, idOf v = some j → j < h.n := s.kv.own.lt
  have err : ∀ (c : Int) (H' : AHeap), apO (.mk o m ks) l ⟨rk, rv, rt⟩ = .error c → Keep H H' (fun q => q = h.n + 1) →
      ∃ v', Keep h H' (kvO i v) ∧ NewOr h v v' ∧ match apO (.mk o m ks) l ⟨rk, rv, rt⟩ with
        | .error c' => V.tuple [.agg [.int .i64 0, .int .i64 0, .int .i64 0], .snil, .int .i64 c] = .tuple [.agg [.int .i64 0, .int .i64 0, .int .i64 0], .snil, .int .i64 c'] ∧ IsAg H' a i v' (.mk o m ks) n l
        | .ok m' => ∃ cc, V.tuple [.agg [.int .i64 0, .int .i64 0, .int .i64 0], .snil, .int .i64 c] = .tuple [.agg [.int .i64 rk, .int .i64 m', .int .i64 rt], .sl cc 0 1 1, .int .i64 0] ∧ IsAg H' a i v' (.mk o m ks) n (put l rk m') ∧
          Own H' 47 5 (.sl cc 0 1 1) (chgE ⟨rk, 0, 0, m', false⟩) ∧ h.n ≤ cc ∧ cc ≠ i ∧ idOf v' ≠ some cc := fun c H' hc hk =>
    ⟨v, (k0.trans hk fun q hq hh => by omega).up, .inl rfl, by
      rw [hc]
      exact ⟨rfl, s0.keep hk (by omega) (by omega) fun j hj => by have := kid j hj; omega⟩⟩
  have pe : ∀ h', KG h' → Pure Tryd.prog 17 [.agg [.int .i64 o, .int .i64 m, .imm ks.length (ks.flatMap encE)], .agg [.int .i64 rk, .int .i64 rv, .int .i64 rt], .int .i64 ((look l rk).getD 0)] h' (evO (valF rk rv rt ((look l rk).getD 0) 16 (.mk o m ks))) := fun h' hg' => by
    have := pEvalM (.mk o m ks) rk rv rt ((look l rk).getD 0) _ hm rfl h' hg'
    rw [hE] at this
    exact this
  simp only [wpA_region, wpA_seq, seqQ_normal, goI_out, goI_ops, opsA_nil, opsA_cons, stepA_move, stepA_assign, stepA_alloc, stepA_box, stepA_call, thenH_some, eval_tmp, eval_const, put_some, enterF_zero, enterF_succ, absV_int, absV_snil, cells_agg, aAlloc_eq, aBox_eq, push_n, Nat.reduceEqDiff, reduceCtorEq, List.map_cons, List.map_nil, Option.map_some, if_true, if_false, zc_36]
  rw [← hH]
  clear hH
  refine callI_pure cal15 (ag_missing s0) ?_
  simp only [wpA_skip, wpA_region, wpA_seq, wpA_cond, condI_false, seqQ_normal, goI_out, goI_ops, opsA_nil, opsA_cons, stepA_load, stepA_fieldAddr, stepA_call, thenV_some, eval_tmp, put_some, enterF_succ, aField_eq, fieldGo_ptr, aLoad_eq, loadGo_one, aPlace_ptr, dropC_cells, Nat.reduceEqDiff, Nat.reduceAdd, Nat.reduceLeDiff, List.map_cons, List.map_nil, Nat.zero_add, List.length_cons, List.length_nil, List.drop_zero, List.drop_succ_cons, if_true, if_false, ft_36_2, lt_2, g0]
  refine callI_pure cal16 (pMayTa rt H) ?_
  cases hT : mayTa rt with
  | false =>
    rw [show decide (0 ≤ rt ∧ rt ≤ 1099511627776) = false from hT]
    simp only [wpA_region, wpA_seq, wpA_cond, wpA_ret, condI_true, seqQ_normal, seqQ_ret, endI_mk, goI_out, goI_ops, opsA_nil, opsA_cons, stepA_assign, stepA_build, stepA_store, stepA_unOp, thenV_some, thenS_some, eval_tmp, eval_const, put_some, put_none, enterF_succ, aUn_not, absV_int, absV_snil, cells_agg, one_int, all_nil, all_cons, aLoad_eq, loadGo_row, aPlace_ptr, dropC_cells, aStore_eq, storeGo_ptr, setC_row, setAll_nil, setAll_cons, aBuild_go, aFill_nil, buildGo_struct, get_set_same, Nat.reduceEqDiff, Nat.reduceAdd, List.map_nil, Option.map_some, Nat.zero_add, Nat.zero_le, List.length_cons, List.length_nil, List.drop_zero, List.take_succ_cons, List.take_nil, List.set_cons_zero, List.set_cons_succ, if_true, if_false, Bool.and_self, Bool.not_false, Nat.le_refl, lt_36, pl_36, zc_36, zt_36, g1, retA_ret, Tryd.results8, resultsC_3, resultA_tmp, resultA_cell, res3_some]
    exact hid_mk (err 2 _ (by unfold apO; rw [if_pos hT]) (Keep.set _ _ _))
  | true =>
    rw [show decide (0 ≤ rt ∧ rt ≤ 1099511627776) = true from hT]
    simp only [wpA_skip, wpA_seq, wpA_cond, wpA_draw, condI_false, seqQ_normal, goI_out, goI_ops, opsA_nil, opsA_cons, stepA_unOp, thenV_some, eval_tmp, put_some, enterF_succ, aUn_not, Nat.reduceEqDiff, if_true, if_false, Bool.not_true]
    refine SWp.drawnS none_ [] (.q 0 (.q 1 (.q 2 (.q 3 (.q 4 (.q 5 (.q 6 (.q 7 (.q 8 (.q 9 (.c 10 (.c 11 (.q 12 (.q 13 (.q 14 (.q 15 (.q 16 .done))))))))))))))))) (by kernel_rfl) (by kernel_rfl) (by kernel_rfl) ?_
    simp only [siI_q, sqI_some, mOk_none', implies_true, qI_nil, qI_cons, thenQ_some, q_move, q_load, q_nilCheck, q_fieldAddr, goI_mk, nilV_ptr, eval_tmp, put_some, enterF_zero, enterF_succ, aField_eq, fieldGo_ptr, aLoad_eq, loadGo_one, loadGo_row, aPlace_ptr, dropC_cells, List.getElem?_cons_zero, List.getElem?_cons_succ, Nat.reduceEqDiff, Nat.reduceAdd, Nat.reduceLeDiff, reduceCtorEq, Nat.add_zero, Nat.zero_add, Nat.zero_le, List.length_cons, List.length_nil, List.drop_zero, List.drop_succ_cons, List.take_succ_cons, List.take_zero, List.take_nil, true_and, if_true, if_false, Nat.le_refl, ft_58_0, ft_58_2, lt_31, lt_36, lt_52, ga, g0]
    refine siI_c rfl rfl rfl (fun h' hk => pGath6 (by rcases hk with hk | rfl; exact s0.kv.keepN hk; exact s0.kv) ⟨rk, rv, rt⟩) ?_
    simp only [false_implies]
    refine siI_c rfl rfl rfl (fun h' hk => pe h' ((hg.keep k0).or (hg.keep k0) hk)) ?_
    have hap : apO (.mk o m ks) l ⟨rk, rv, rt⟩ = match valF rk rv rt ((look l rk).getD 0) 16 (.mk o m ks) with
        | none => .error 10
        | some n => if full 1024 l rk then .error 3 else .ok n := by
      unfold apO
      rw [if_neg (by rw [hT]; decide)]
    cases hv : valF rk rv rt ((look l rk).getD 0) 16 (.mk o m ks) with
    | none =>
      rw [hv] at hap
      simp only [siI_done, siI_q, sqI_some, mOk_none', implies_true, qI_nil, qI_cons, thenQ_some, q_move, q_assign, q_extract, wpA_region, wpA_seq, wpA_cond, wpA_ret, condI_true, seqQ_normal, seqQ_ret, endI_mk, goI_out, goI_ops, goI_mk, opsA_nil, opsA_cons, stepA_move, stepA_assign, stepA_build, stepA_store, stepA_binOp, thenV_some, thenS_some, extV_zero, extV_succ, eval_tmp, eval_const, put_some, put_none, enterF_succ, aBin_neq, absV_int, absV_snil, cells_agg, one_int, all_nil, all_cons, aLoad_eq, loadGo_row, aPlace_ptr, dropC_cells, aStore_eq, storeGo_ptr, setC_row, setAll_nil, setAll_cons, aBuild_go, aFill_nil, buildGo_struct, get_set_same, List.getElem?_cons_zero, List.getElem?_cons_succ, Int.reduceBNe, Nat.reduceEqDiff, Nat.reduceAdd, List.map_nil, Option.map_some, Nat.zero_add, Nat.zero_le, List.length_cons, List.length_nil, List.drop_zero, List.take_succ_cons, List.take_nil, List.set_cons_zero, List.set_cons_succ, true_and, if_true, if_false, Bool.and_self, Nat.le_refl, lt_36, pl_36, zc_36, zt_36, evO, g1, retA_ret, Tryd.results8, resultsC_3, resultA_tmp, resultA_cell, res3_some]
      exact hid_mk (err 10 _ hap (Keep.set _ _ _))
    | some N =>
      rw [hv] at hap
      simp only [siI_done, siI_q, sqI_some, mOk_none', implies_true, qI_nil, qI_cons, thenQ_some, q_move, q_assign, q_extract, wpA_skip, wpA_region, wpA_seq, wpA_cond, wpA_draw, condI_false, seqQ_normal, goI_out, goI_ops, goI_mk, opsA_nil, opsA_cons, stepA_move, stepA_binOp, thenV_some, extV_zero, extV_succ, eval_tmp, eval_const, put_some, enterF_succ, aBin_neq, absV_int, List.getElem?_cons_zero, List.getElem?_cons_succ, bne_self_eq_false, Nat.reduceEqDiff, true_and, if_true, if_false, evO]
      refine SWp.drawnS (fun x => kvO i v x) [6] (.q 0 (.q 1 (.q 2 (.q 3 (.q 4 (.q 5 (.a 6 (.q 7 (.q 8 (.q 9 (.q 10 (.q 11 (.q 12 (.q 13 .done)))))))))))))) (by kernel_rfl) (by kernel_rfl) (by kernel_rfl) ?_
      have f1 : kvO i v a = False := eq_false fun hh => by
        rcases hh with hh | hh
        · exact hne hh
        · exact s.nev hh
      have f2 : kvO i v h.n = False := eq_false fun hh => by
        rcases hh with hh | hh
        · omega
        · have := kid _ hh; omega
      simp only [mOk_move, mOk_nilCheck, mOk_fieldAddr, mOk_load, mOkV_ptr, nne2, nne3, nne4, nne1', nne2', nne3', not_false_eq_true, siI_q, siI_a, sqI_some, saI_some, implies_true, qI_nil, qI_cons, thenQ_some, q_move, q_load, q_nilCheck, q_fieldAddr, goI_mk, opsA_cons, stepA_call, nilV_ptr, eval_tmp, put_some, enterF_zero, enterF_succ, aField_eq, fieldGo_ptr, aLoad_eq, loadGo_one, loadGo_row, aPlace_ptr, dropC_cells, List.getElem?_cons_zero, List.getElem?_cons_succ, Nat.reduceEqDiff, Nat.reduceAdd, Nat.reduceLeDiff, reduceCtorEq, List.map_cons, List.map_nil, Nat.zero_add, Nat.zero_le, List.length_cons, List.length_nil, List.drop_zero, List.drop_succ_cons, List.take_succ_cons, List.take_nil, true_and, if_true, if_false, Nat.le_refl, ft_58_2, lt_36, lt_52, ga, g0, f1, f2]
      refine callI_of cal19 (pPut6 s0.kv ⟨rk, rv, rt⟩ N) fun q h2 ⟨v', c, e2, k2, kp, d2, oc, ic1, ic2, ic3⟩ => ?_
      subst e2
      have nk := kp.n
      have gc := kp.get (h.n + 1) (by omega) (by
        rintro (hh | hh)
        · omega
        · have := kid _ hh; omega)
      have gb := kp.get h.n (by omega) (by rw [f2]; exact id)
      rw [g0] at gb
      rw [g1] at gc
      have gA := kp.get a (by omega) (by rw [f1]; exact id)
      have nv : idOf v' ≠ some a := fun hh => by
        rcases d2 with d2 | d2
        · rw [d2] at hh; exact s.nev hh
        · have := d2 a hh; omega
      have s2 : IsAg h2 a i v' (.mk o m ks) n (putL 1024 l rk N) := ⟨by omega, gA.trans s0.get, k2, hne, nv⟩
      have vlt : ∀ j, idOf v' = some j → j ≠ h.n ∧ j ≠ h.n + 1 := fun j hj => by
        rcases d2 with d2 | d2
        · rw [d2] at hj; have := kid j hj; omega
        · have := d2 j hj; omega
      cases hf : full 1024 l rk with
      | true =>
        rw [hf] at hap
        have hq : (putE 1024 l rk != 0) = true := by simp [putE, hf]
        have hq3 : putE 1024 l rk = 3 := by simp [putE, hf]
        have hL : putL 1024 l rk N = l := by simp [putL, hf]
        rw [hL] at s2
        rw [hq3]
        simp only [mOk_move, mOk_assign, mOk_extract, nne2, nne3, nne4, nne1', nne2', nne3', siI_done, siI_q, sqI_some, implies_true, qI_nil, qI_cons, thenQ_some, q_move, q_assign, q_extract, wpA_region, wpA_seq, wpA_cond, wpA_ret, condI_true, seqQ_normal, seqQ_ret, endI_mk, goI_out, goI_ops, goI_mk, opsA_nil, opsA_cons, stepA_move, stepA_assign, stepA_build, stepA_store, stepA_binOp, thenV_some, thenS_some, extV_zero, extV_succ, eval_tmp, eval_const, put_some, put_none, enterF_succ, aBin_neq, absV_int, absV_snil, cells_agg, one_int, all_nil, all_cons, aLoad_eq, loadGo_row, aPlace_ptr, dropC_cells, aStore_eq, storeGo_ptr, setC_row, setAll_nil, setAll_cons, aBuild_go, aFill_nil, buildGo_struct, get_set_same, List.getElem?_cons_zero, List.getElem?_cons_succ, Int.reduceBNe, Bool.false_eq_true, Nat.reduceEqDiff, Nat.reduceAdd, List.map_nil, Option.map_some, Nat.zero_add, Nat.zero_le, List.length_cons, List.length_nil, List.drop_zero, List.take_succ_cons, List.take_nil, List.set_cons_zero, List.set_cons_succ, true_and, if_true, if_false, Bool.and_self, Nat.le_refl, lt_36, pl_36, zc_36, zt_36, gc, retA_ret, Tryd.results8, resultsC_3, resultA_tmp, resultA_cell, res3_some]
        refine hid_mk ⟨v', ((k0.up).trans' kp).trans (Keep.set _ _ _) fun q hq hh => by omega, NewOr.later d2 (by omega), ?_⟩
        rw [hap]
        exact ⟨rfl, s2.keep (Keep.set _ _ _) (by omega) (by omega) fun j hj => (vlt j hj).2⟩
      | false =>
        rw [hf] at hap
        have hq0 : putE 1024 l rk = 0 := by simp [putE, hf]
        have hL : putL 1024 l rk N = put l rk N := by simp [putL, hf]
        have hX : putX 1024 l rk N = ⟨rk, 0, 0, N, false⟩ := by simp [putX, hf]
        rw [hL] at s2
        rw [hX] at oc
        rw [hq0]
        simp only [mOk_move, mOk_assign, mOk_extract, nne2, nne3, nne4, nne1', nne2', nne3', siI_done, siI_q, sqI_some, implies_true, qI_nil, qI_cons, thenQ_some, q_move, q_assign, q_extract, wpA_skip, wpA_region, wpA_seq, wpA_cond, wpA_ret, condI_false, seqQ_normal, endI_mk, goI_out, goI_ops, goI_mk, opsA_nil, opsA_cons, stepA_move, stepA_assign, stepA_build, stepA_load, stepA_store, stepA_binOp, stepA_fieldAddr, thenV_some, thenS_some, extV_zero, extV_succ, eval_tmp, eval_const, put_some, put_none, enterF_succ, aBin_neq, absV_int, cells_int, cells_agg, one_int, all_nil, all_cons, aField_eq, fieldGo_ptr, aLoad_eq, loadGo_one, loadGo_row, aPlace_ptr, dropC_cells, aStore_eq, storeGo_ptr, setC_row, setAll_nil, setAll_cons, aBuild_go, aFill_nil, aFill_cons, fillGo_some, buildGo_struct, get_set_same, List.getElem?_cons_zero, List.getElem?_cons_succ, bne_self_eq_false, Bool.false_eq_true, Nat.reduceEqDiff, Nat.reduceAdd, Nat.reduceLeDiff, List.map_cons, List.map_nil, Option.map_some, Nat.add_zero, Nat.zero_add, Nat.zero_le, List.length_cons, List.length_nil, List.drop_zero, List.take_succ_cons, List.take_nil, List.set_cons_zero, List.set_cons_succ, true_and, and_self, if_true, if_false, Bool.and_self, Nat.le_refl, ft_36_0, lt_2, lt_36, pl_36, zc_36, zt_36, gc, gb, retA_ret, Tryd.results8, resultsC_3, resultA_tmp, resultA_cell, res3_some]
        refine hid_mk ⟨v', ((k0.up).trans' kp).trans (Keep.set _ _ _) fun q hq hh => by omega, NewOr.later d2 (by omega), ?_⟩
        rw [hap]
        exact ⟨c, rfl, s2.keep (Keep.set _ _ _) (by omega) (by omega) fun j hj => (vlt j hj).2, oc.keep (Keep.set _ _ _) fun j hj => by cases hj; omega, by omega, ic2, ic3⟩
set_option maxRecDepth 10000 in
theorem agValue6 {h : AHeap} {a i : Nat} {v : V} {e : Ex} {n : Int} {l : List Pr} (s : IsAg h a i v e n l) (key : Int) : Pure Tryd.prog 9 [.ptr a 0, .int .i64 key] h (.int .i64 ((look l key).getD 0)) := by
  have ga := s.get
  obtain ⟨o, m, ks⟩ := e
  rw [encE_eq] at ga
  simp only [List.cons_append, List.nil_append] at ga
  refine SCalls.enterI (c := _) Tryd.func9 rfl (by kernel_rfl) (by simp) ?_
  simp only [wpA_region, wpA_seq, seqQ_normal, goI_out, goI_ops, opsA_nil, opsA_cons, stepA_move, stepA_assign, stepA_call, eval_tmp, eval_const, put_some, enterF_zero, enterF_succ, absV_int, Nat.reduceEqDiff, reduceCtorEq, List.map_cons, List.map_nil, if_true, if_false]
  refine callI_pure cal15 (ag_missing s) ?_
  simp only [wpA_skip, wpA_region, wpA_seq, wpA_cond, condI_false, seqQ_normal, goI_out, goI_ops, opsA_nil, opsA_cons, stepA_move, stepA_load, stepA_nilCheck, stepA_fieldAddr, stepA_call, thenV_some, nilV_ptr, eval_tmp, put_some, enterF_zero, enterF_succ, aField_eq, fieldGo_ptr, aLoad_eq, loadGo_one, aPlace_ptr, dropC_cells, Nat.reduceEqDiff, Nat.reduceAdd, Nat.reduceLeDiff, reduceCtorEq, List.map_cons, List.map_nil, Nat.zero_add, List.length_cons, List.length_nil, List.drop_zero, List.drop_succ_cons, if_true, if_false, ft_58_2, lt_52, ga]
  refine callI_pure cal20 (pTable6 s.kv key) ?_
  simp only [wpA_ret, seqQ_normal, endI_mk, goI_out, goI_ops, opsA_nil, opsA_cons, stepA_assign, eval_tmp, put_some, enterF_succ, Nat.reduceEqDiff, if_true, if_false, retA_ret, Tryd.results9, resultsA_1]
  exact hid_mk ⟨rfl, rfl⟩
end Go.Proofs.YtpjfhfmbhjghcaaDoor.Pk
namespace Go.Proofs.YtpjfhfmbhjghcaaDoor.Pk
open Go Go.Proofs Go.Proofs.YtpjfhfmbhjghcaaDoor.Ab
set_option linter.unusedVariables false
set_option linter.unusedSimpArgs false
theorem len_put_le {l : List Pr} (hs : Srt l) (k v : Int) : (put l k v).length ≤ l.length + 1 := by rw [len_put hs]; split <;> omega
theorem room_no {l : List Pr} (h : l.length < 1024) (k : Int) : full 1024 l k = false := by
  simp only [full, Bool.and_eq_false_iff, decide_eq_false_iff_not]
  right; omega
theorem rec_eql (a b : Rec) {xo yo : Operand} : aBin Tryd.prog .eql 36 xo yo (.agg [.int .i64 a.k, .int .i64 a.v, .int .i64 a.t]) (.agg [.int .i64 b.k, .int .i64 b.v, .int .i64 b.t]) = some (.bool (decide (a = b))) := by
  have h : eqK [0, 0, 0] (recE a) (recE b) = some (decide (a = b)) := by
    simp only [recE, eqK, if_true, Option.map_some, Option.some.injEq]
    rw [Bool.eq_iff_iff]
    simp only [Bool.and_eq_true, beq_iff_eq, decide_eq_true_eq, Bool.and_true]
    constructor
    · rintro ⟨h1, h2, h3⟩; cases a; cases b; simp_all
    · rintro rfl; simp
  exact aBin_sk_eql sk_36 h
/-- A new store of a vertex that its maker has just laid. -/
theorem agNewL6 (n : Int) (h : AHeap) (hg : KG h) :
    SCalls Tryd.prog 6 [.agg ([.int .i64 6, .snil] ++ encE sumE ++ [.int .i64 n])] h (fun r h' => ∃ a i, r = .tuple [.ptr a 0, .int .i64 0] ∧ h.n ≤ a ∧ h.n ≤ i ∧ IsAg h' a i .snil sumE n [] ∧ Keep h h' none_) :=
  SCalls.args (CastL.cons (castX 6 sumE n h) (CastL.refl _ _)) (agNew6 ⟨6, [], sumE, n⟩ rfl sum_may sum_ok h hg)
theorem ag_own {h h' : AHeap} {i : Nat} {v v' : V} {hb : AHeap} (hk : Keep h h' (kvO i v)) (hi : hb.n ≤ i) (hv : ∀ j, idOf v = some j → hb.n ≤ j) {q : Nat} (hq : q < hb.n) : ¬ kvO i v q := by
  rintro (hh | hh)
  · omega
  · have := hv q hh; omega
set_option maxRecDepth 10000 in
set_option maxHeartbeats 2000000 in
theorem pShown18 (h : AHeap) (hg : KG h) : Pure Tryd.prog 5 [] h (.bool true) := by
  refine Pure.val (Clo.bool _) ?_
  refine SCalls.enterI (c := _) Tryd.func5 rfl (by kernel_rfl) (by simp) ?_
  have l3 : (encE sumE).length = 3 := rfl
  have s1 : setAll [V.int .i64 6, .snil, .int .i64 0, .int .i64 0, .snil, .int .i64 0] 2 (encE sumE) = [V.int .i64 6, .snil] ++ encE sumE ++ [.int .i64 0] := rfl
  simp only [wpA_region, wpA_seq, seqQ_normal, goI_out, goI_ops, opsA_nil, opsA_cons, stepA_assign, stepA_call, eval_const, absV_bool, List.map_nil]
  refine callI_pure cal10 (pSum h) ?_
  simp only [goI_ops, opsA_cons, stepA_build, stepA_call, thenV_some, eval_tmp, eval_const, put_some, absV_int, cells_int, cells_agg, setAll_nil, setAll_cons, aBuild_go, aFill_nil, aFill_cons, fillGo_some, buildGo_struct, List.getElem?_cons_zero, List.getElem?_cons_succ, Nat.reduceEqDiff, Nat.reduceAdd, Nat.reduceLeDiff, reduceCtorEq, List.map_cons, List.map_nil, Option.map_some, Nat.zero_add, List.length_cons, List.length_nil, List.set_cons_zero, List.nil_append, List.cons_append, and_self, if_true, if_false, pl_33, zc_33, l3, s1]
  refine callI_of cal6 (agNewL6 0 h hg) fun r h1 ⟨a, i, e1, ha, hi, s1, k1⟩ => ?_
  subst e1
  simp only [wpA_skip, wpA_region, wpA_seq, wpA_cond, condI_false, seqQ_normal, goI_out, goI_ops, opsA_nil, opsA_cons, opsA_guardS, gvI_same, slotAt_zero, slotAt_succ, stepA_move, stepA_assign, stepA_pick, stepA_build, stepA_binOp, stepA_extract, stepA_call, thenV_some, pickV_false, extV_zero, extV_succ, eval_tmp, eval_const, put_some, aBin_neq, ptr_nil_eql, absV_int, absV_bool, absV_pnil, cells_int, setAll_nil, setAll_cons, aBuild_go, aFill_nil, aFill_cons, fillGo_some, buildGo_struct, List.getElem?_cons_zero, List.getElem?_cons_succ, bne_self_eq_false, Nat.reduceEqDiff, Nat.reduceAdd, Nat.reduceLeDiff, reduceCtorEq, List.map_cons, List.map_nil, Option.map_some, Nat.zero_add, List.length_cons, List.length_nil, List.set_cons_zero, List.set_cons_succ, and_self, if_true, if_false, kt_24, pl_36, zc_36]
  refine callI_of cal8 (agApply6 s1 sum_may (hg.keep k1) ⟨1, 5, 0⟩) fun r h2 ⟨v2, k2, d2, q2⟩ => ?_
  rw [show apO sumE [] ⟨1, 5, 0⟩ = .ok 5 from rfl] at q2
  obtain ⟨c2, e2, s2, oc2, ic1, ic2, ic3⟩ := q2
  subst e2
  have kk2 : Keep h h2 none_ := k1.trans k2 fun q hq hh => by
    rcases hh with hh | hh
    · omega
    · cases hh
  have i2 : ∀ j, idOf v2 = some j → h.n ≤ j := fun j hj => by
    rcases d2 with d2 | d2
    · rw [d2] at hj; cases hj
    · exact Nat.le_trans k1.n (d2 j hj)
  obtain ⟨H3, hH3⟩ : ∃ y, y = h2.push (.cells [.int .i64 1, .int .i64 5, .int .i64 0] 36 none) := ⟨_, rfl⟩
  have k3 : Keep h2 H3 none_ := by rw [hH3]; exact Keep.push _ _ _
  have g3 : H3.get h2.n = .cells [.int .i64 1, .int .i64 5, .int .i64 0] 36 none := by rw [hH3]; exact get_push_new
  have n3 : H3.n = h2.n + 1 := by rw [hH3]; rfl
  have s3 := s2.keepN k3
  simp only [wpA_region, wpA_seq, seqQ_normal, goI_out, goI_ops, opsA_nil, opsA_cons, stepA_move, stepA_assign, stepA_alloc, stepA_build, stepA_store, stepA_extract, stepA_call, thenV_some, thenH_some, thenS_some, extV_zero, extV_succ, eval_tmp, eval_const, put_some, put_none, absV_int, cells_int, cells_agg, one_int, all_nil, all_cons, aStore_eq, storeGo_ptr, setC_row, setAll_nil, setAll_cons, aAlloc_eq, aBuild_go, aFill_nil, aFill_cons, fillGo_some, buildGo_struct, get_push_new, set_push, List.getElem?_cons_zero, List.getElem?_cons_succ, Nat.reduceEqDiff, Nat.reduceAdd, Nat.reduceLeDiff, reduceCtorEq, List.map_cons, List.map_nil, Option.map_some, Nat.zero_add, List.length_cons, List.length_nil, List.set_cons_zero, List.set_cons_succ, and_self, if_true, if_false, Bool.and_self, Nat.le_refl, pl_36, zc_36, zt_36]
  rw [← hH3]
  clear hH3
  refine callI_of cal8 (agApply6 s3 sum_may ((hg.keep kk2).keep k3) ⟨1, 6, 3⟩) fun r h4 ⟨v4, k4, d4, q4⟩ => ?_
  rw [show apO sumE (put [] 1 5) ⟨1, 6, 3⟩ = .ok 11 from rfl] at q4
  obtain ⟨c4, e4, s4, oc4, jc1, jc2, jc3⟩ := q4
  subst e4
  have kv2 := s2.kv.own.lt
  have i2n := s2.kv.lt
  have kk4 : Keep h h4 none_ := (kk2.trans' k3).trans k4 fun q hq hh => by
    rcases hh with hh | hh
    · omega
    · have := i2 q hh; omega
  have i4 : ∀ j, idOf v4 = some j → h.n ≤ j := fun j hj => by
    rcases d4 with d4 | d4
    · rw [d4] at hj; exact i2 j hj
    · have := d4 j hj; have := kk2.n; omega
  have g4 := (k4.get h2.n (by omega) (by
    rintro (hh | hh)
    · omega
    · have := kv2 _ hh; omega)).trans g3
  obtain ⟨H5, hH5⟩ : ∃ y, y = h4.push (.cells [.int .i64 1, .int .i64 11, .int .i64 3] 36 none) := ⟨_, rfl⟩
  have k5 : Keep h4 H5 none_ := by rw [hH5]; exact Keep.push _ _ _
  have g5 : H5.get h4.n = .cells [.int .i64 1, .int .i64 11, .int .i64 3] 36 none := by rw [hH5]; exact get_push_new
  have n4 := k4.n
  have n5 : H5.n = h4.n + 1 := by rw [hH5]; rfl
  have g54 := (k5.get h2.n (by omega) (by simp [none_])).trans g4
  have s5 := s4.keepN k5
  simp only [wpA_region, wpA_seq, seqQ_normal, goI_out, goI_ops, opsA_nil, opsA_cons, opsA_guardS, gvI_same, slotAt_zero, slotAt_succ, stepA_move, stepA_assign, stepA_pick, stepA_alloc, stepA_load, stepA_store, stepA_binOp, stepA_fieldAddr, stepA_extract, thenV_some, thenH_some, thenS_some, pickV_true, extV_zero, extV_succ, eval_tmp, eval_const, put_some, put_none, aBin_eql, absV_int, absV_bool, cells_agg, one_int, all_nil, all_cons, aField_eq, fieldGo_ptr, aLoad_eq, aPlace_ptr, aStore_eq, storeGo_ptr, setC_row, setAll_nil, setAll_cons, aAlloc_eq, get_push_new, set_push, beq_self_eq_true, Nat.reduceEqDiff, Nat.reduceAdd, reduceCtorEq, Option.map_some, Nat.zero_add, List.length_cons, List.length_nil, List.set_cons_zero, List.set_cons_succ, if_true, if_false, Bool.and_self, Nat.le_refl, ft_36_1, lt_2, zc_36, zt_36]
  rw [← hH5]
  clear hH5
  have lit : ∀ H : AHeap, aBuildSlice Tryd.prog 37 1 [(0, .agg [.int .i64 1, .int .i64 0, .int .i64 0, .int .i64 11, .bool false])] H = some (.sl H.n 0 1 1, H.push (.cells (chgE ⟨1, 0, 0, 11, false⟩) 47 none)) := fun H => lit1ca H ⟨1, 0, 0, 11, false⟩
  have req : ∀ xo yo, aBin Tryd.prog .eql 36 xo yo (.agg [.int .i64 1, .int .i64 11, .int .i64 3]) (.agg [.int .i64 1, .int .i64 11, .int .i64 3]) = some (.bool true) := fun xo yo => by
    have := rec_eql ⟨1, 11, 3⟩ ⟨1, 11, 3⟩ (xo := xo) (yo := yo); simpa using this
  simp only [goI_ops, opsA_cons, opsA_guardS, gvI_same, slotAt_zero, slotAt_succ, stepA_move, stepA_pick, stepA_build, stepA_buildSlice, stepA_load, stepA_binOp, stepA_call, thenV_some, thenH_some, pickV_true, eval_tmp, eval_const, put_some, put_none, aBin_eql, absV_int, absV_bool, cells_int, aLoad_eq, loadGo_one, loadGo_row, aPlace_ptr, dropC_cells, setAll_nil, setAll_cons, aBuild_go, aFill_nil, aFill_cons, fillGo_some, buildGo_struct, List.getElem?_cons_zero, List.getElem?_cons_succ, beq_self_eq_true, Nat.reduceEqDiff, Nat.reduceAdd, Nat.reduceLeDiff, reduceCtorEq, List.map_cons, List.map_nil, Option.map_some, Nat.zero_add, Nat.zero_le, List.length_cons, List.length_nil, List.drop_zero, List.drop_succ_cons, List.take_succ_cons, List.take_nil, List.set_cons_zero, List.set_cons_succ, and_self, if_true, if_false, Nat.le_refl, lt_36, pl_36, pl_47, zc_36, zc_47, g54, g5, lit, req]
  obtain ⟨H6, hH6⟩ : ∃ y, y = H5.push (.cells (chgE ⟨1, 0, 0, 11, false⟩) 47 none) := ⟨_, rfl⟩
  have k6 : Keep H5 H6 none_ := by rw [hH6]; exact Keep.push _ _ _
  have oL : Own H6 47 5 (.sl H5.n 0 1 1) (chgE ⟨1, 0, 0, 11, false⟩) := by rw [hH6]; exact Own.fresh' _ 1 rfl (by decide)
  have n6 : H6.n = H5.n + 1 := by rw [hH6]; rfl
  rw [← hH6]
  clear hH6
  have o6 := (oc4.keepN k5).keepN k6
  obtain ⟨hA, cA, kA⟩ := Cast.own o6 (n := 1) rfl (by decide)
  have c4lt : c4 < h4.n := oc4.lt c4 rfl
  have oL' := oL.keep kA fun j hj hh => by cases hj; simp [isId, idOf] at hh; omega
  obtain ⟨hB, cB, kB⟩ := Cast.own oL' (n := 1) rfl (by decide)
  refine callI_of cal11 (SCalls.args (CastL.cons cA (CastL.cons cB (CastL.refl [] hB))) (pChgsEq [⟨1, 0, 0, 11, false⟩] [⟨1, 0, 0, 11, false⟩] hB (by decide))) fun r h7 ⟨e7, e7'⟩ => ?_
  subst e7 e7'
  have sA : IsAg hA a i v4 sumE 0 (put (put [] 1 5) 1 11) := (s5.keepN k6).keep kA (by simp [isId, idOf]; have := s3.lt; have := k3.n; omega) (by simp [isId, idOf]; omega) fun j hj hh => by
    simp [isId, idOf] at hh; subst hh; exact jc3 hj
  have sB := sA.keep kB (by simp [isId, idOf]; have := s4.lt; omega) (by simp [isId, idOf]; have := s4.kv.lt; omega) fun j hj hh => by
    simp [isId, idOf] at hh; have := s4.kv.own.lt j hj; omega
  simp only [goI_ops, opsA_cons, opsA_guardS, gvI_same, slotAt_zero, slotAt_succ, stepA_move, stepA_pick, stepA_call, thenV_some, pickV_true, eval_tmp, eval_const, put_some, put_none, absV_int, absV_bool, decide_true, Nat.reduceEqDiff, reduceCtorEq, List.map_cons, List.map_nil, if_true, if_false, decide_true]
  refine callI_pure cal9 (agValue6 sB 1) ?_
  simp only [wpA_ret, seqQ_normal, endI_mk, goI_out, goI_ops, opsA_nil, opsA_cons, opsA_guardS, gvI_same, slotAt_zero, slotAt_succ, stepA_assign, stepA_pick, stepA_binOp, thenV_some, pickV_true, eval_tmp, eval_const, put_some, put_none, aBin_eql, absV_int, absV_bool, beq_self_eq_true, Nat.reduceEqDiff, reduceCtorEq, if_true, if_false, show (look (put (put [] 1 5) 1 11) 1).getD 0 = 11 from rfl, retA_ret, Tryd.results5, resultsA_1]
  exact hid_mk ⟨rfl, (((kk4.trans' k5).trans' k6).trans kA fun q hq hh => by simp [isId, idOf] at hh; omega).trans kB fun q hq hh => by simp [isId, idOf] at hh; omega⟩
end Go.Proofs.YtpjfhfmbhjghcaaDoor.Pk
