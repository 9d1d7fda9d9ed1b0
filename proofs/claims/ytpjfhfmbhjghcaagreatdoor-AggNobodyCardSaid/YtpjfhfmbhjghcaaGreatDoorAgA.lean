/-
  What functions of the program do, told of abstract states. Conditions: as each theorem says.
-/
import Derived.Test.YtpjfhfmbhjghcaaGreatDoorAgW
import Derived.Test.YtpjfhfmbhjghcaaGreatDoorKvG
namespace Go.Proofs.YtpjfhfmbhjghcaaGreatDoor.Pk
open Go Go.Proofs Go.Proofs.YtpjfhfmbhjghcaaGreatDoor.Ab
set_option linter.unusedVariables false
set_option linter.unusedSimpArgs false
structure Rec where
  k : Int
  v : Int
  t : Int
  deriving DecidableEq
def recE (r : Rec) : List V := [.int .i64 r.k, .int .i64 r.v, .int .i64 r.t]
theorem recE_len (r : Rec) : (recE r).length = 3 := rfl
theorem recE_one (r : Rec) : (recE r).all (·.one) = true := rfl
theorem recE_clo (r : Rec) : CloL (recE r) := CloL.cons (Clo.int _ _) (CloL.cons (Clo.int _ _) (CloL.cons (Clo.int _ _) CloL.nil))
structure Vx where
  kind : Int
  frm : List Int
  e : Ex
  n : Int
def encX (v : Vx) : List V := [.int .i64 v.kind, .imm v.frm.length (i64V v.frm)] ++ encE v.e ++ [.int .i64 v.n]
theorem encX_len (v : Vx) : (encX v).length = 6 := by simp [encX, encE_len]
theorem encX_clo (v : Vx) : CloL (encX v) :=
  ((CloL.cons (Clo.int _ _) (CloL.cons (Clo.imm (i64V_clo _)) CloL.nil)).append (encE_clo v.e)).append (CloL.cons (Clo.int _ _) CloL.nil)
theorem wkX (kind : Int) (e : Ex) (n : Int) : WkL ([.int .i64 kind, .snil] ++ encE e ++ [.int .i64 n]) (encX ⟨kind, [], e, n⟩) :=
  WkL.append (WkL.append (WkL.cons (.refl _) (.cons .snil (.refl _))) rfl (.refl _)) (by simp) (.refl _)
theorem castX (kind : Int) (e : Ex) (n : Int) (h : AHeap) : Cast (.agg ([.int .i64 kind, .snil] ++ encE e ++ [.int .i64 n])) h (.agg (encX ⟨kind, [], e, n⟩)) h := fun ρ B w0 w r' hw hv => by
  cases hv with
  | agg hs hx =>
    rename_i xs
    exact ⟨ρ, Ren.le.refl ρ, hw, (wkX kind e n ρ xs.toList ⟨by simpa using hs, by simpa using hx⟩).arr'.agg⟩
/-! ### The sum -/
def sumE : Ex := .mk 6 0 [.mk 5 0 [], .mk 3 0 []]
theorem sum_may : mayX sumE = true := by decide
theorem sum_ok : OkE sumE := .mk _ _ _ (by decide) (fun k hk => by
  simp only [List.mem_cons, List.not_mem_nil, or_false] at hk
  rcases hk with rfl | rfl <;> exact .mk _ _ _ (by decide) (by simp) (by decide) (by decide)) (by decide) (by decide)
theorem sum_val (rk rv rt acc : Int) : valF rk rv rt acc 16 sumE = some (w64 (acc + rv)) := by
  simp [sumE, valF, combX]
theorem litS (h : AHeap) : aBuildSlice Tryz.prog 25 2 [(0, .agg [.int .i64 5, .int .i64 0, .snil]), (1, .agg [.int .i64 3, .int .i64 0, .snil])] h = some (.sl h.n 0 2 2, h.push (.cells ([.int .i64 5, .int .i64 0, .snil] ++ [.int .i64 3, .int .i64 0, .snil]) 27 none)) := by
  rw [buildSlice_go sl_25]; rfl
theorem castEw (o n : Int) (ks : List Ex) {cs : List V} (hw : WkL cs (ks.flatMap encE)) (hcl : cs.length = ks.length * 3) (hk : ks.length < 64) (m : Nat) (hm : ks.length = m) (h : AHeap) :
    ∃ h2, Cast (.agg [.int .i64 o, .int .i64 n, .sl h.n 0 m m]) (h.push (.cells cs 27 none)) (.agg (encE (.mk o n ks))) h2 ∧ Keep h h2 none_ := by
  subst hm
  obtain ⟨h2, c, k⟩ := Cast.lit (h := h) (c := cs) (e := 27) (n := ks.length) (sz := 3) hcl (by unfold unk; omega) (by decide)
  refine ⟨h2, ?_, k⟩
  rw [encE_eq]
  exact Pk.Cast.agg (CastL.cons (Cast.refl _ _) (CastL.cons (Cast.refl _ _) (CastL.cons (c.trans ((WkV.imm hw (by rw [hcl, rows_len encE_len])).cast h2)) (CastL.refl _ _))))
theorem pSum (h : AHeap) : Pure Tryz.prog 33 [] h (.agg (encE sumE)) := by
  refine Pure.of (Clo.agg (encE_clo _)) ?_
  refine SCalls.enterI (c := _) Tryz.func33 rfl (by kernel_rfl) (by simp) ?_
  simp only [wpA_region, wpA_seq, wpA_ret, seqQ_normal, endI_mk, goI_out, goI_ops, opsA_nil, opsA_cons, stepA_alloc, stepA_build, stepA_buildSlice, stepA_store, thenV_some, thenH_some, thenS_some, eval_tmp, eval_const, put_some, put_none, absV_int, cells_int, cells_sl, cells_agg, one_int, one_sl, all_nil, all_cons, aLoad_eq, loadGo_row, aPlace_ptr, dropC_cells, aStore_eq, storeGo_ptr, setC_row, setAll_nil, setAll_cons, aAlloc_eq, aBuild_go, aFill_nil, aFill_cons, fillGo_some, buildGo_struct, push_n, get_push2', set_push2', List.getElem?_cons_zero, List.getElem?_cons_succ, Nat.reduceEqDiff, Nat.reduceAdd, Nat.reduceLeDiff, reduceCtorEq, List.map_cons, List.map_nil, Option.map_some, Nat.zero_add, Nat.zero_le, List.length_cons, List.length_nil, List.drop_zero, List.take_succ_cons, List.take_nil, List.set_cons_zero, List.set_cons_succ, List.nil_append, List.cons_append, and_self, if_true, if_false, Bool.and_self, Nat.le_refl, lt_27, pl_27, zc_27, zt_27, litS, resultsC_1, retA_ret, Tryz.results33, resultsC_1, resultA_cell]
  obtain ⟨h2, c, k⟩ := castEw 6 0 [.mk 5 0 [], .mk 3 0 []] (WkL.append (wkE0 5 0) rfl (wkE0 3 0)) rfl (by decide) 2 rfl (h.push (.cells [.int .i64 6, .int .i64 0, .sl (h.n + 1) 0 2 2] 27 none))
  exact hid_mk ⟨h2, c, (Keep.push h _ none_).trans' k⟩
/-! ### usual -/
def kindN (k : Nat) : Int := if k % 3 = 0 then 6 else if k % 3 = 1 then 7 else 8
theorem lit3k (h : AHeap) : aBuildSlice Tryz.prog 24 3 [(0, .int .i64 6), (1, .int .i64 7), (2, .int .i64 8)] h = some (.sl h.n 0 3 3, h.push (.cells [.int .i64 6, .int .i64 7, .int .i64 8] 3 none)) := by rw [buildSlice_go sl_24]; rfl
set_option maxRecDepth 10000 in
theorem pUsual (k n : Nat) (hk : k < 256) (hn : n < 256) (h : AHeap) : Pure Tryz.prog 13 [.int .u8 (k : Nat), .int .u8 (n : Nat)] h (.agg (encX ⟨kindN k, [], sumE, 1 + (n : Int)⟩)) := by
  refine Pure.of (Clo.agg (encX_clo _)) ?_
  refine SCalls.enterI (c := _) Tryz.func13 rfl (by kernel_rfl) (by simp) ?_
  have w1 : IntKind.i64.wrap (k : Int) = (k : Int) := Go.IntWalk.i64_in _ (by omega)
  have w2 : IntKind.i64.wrap (n : Int) = (n : Int) := Go.IntWalk.i64_in _ (by omega)
  have w3 : IntKind.i64.wrap (1 + (n : Int)) = 1 + (n : Int) := Go.IntWalk.i64_in _ (by omega)
  have hrem : (k : Int).tmod 3 = ((k % 3 : Nat) : Int) := by rw [Int.tmod_eq_emod_of_nonneg (by omega)]; rfl
  have l3 : (encE sumE).length = 3 := rfl
  have s1 : ∀ kd : Int, (setAll [V.int .i64 kd, .snil, .int .i64 0, .int .i64 0, .snil, .int .i64 0] 2 (encE sumE)).length = 6 := fun _ => rfl
  have s2 : ∀ kd : Int, (setAll [V.int .i64 kd, .snil, .int .i64 0, .int .i64 0, .snil, .int .i64 0] 2 (encE sumE)).set 5 (.int .i64 (1 + (n : Int))) = [V.int .i64 kd, .snil] ++ encE sumE ++ [.int .i64 (1 + (n : Int))] := fun _ => rfl
  have cX : ∀ kd : Int, (V.agg ([V.int .i64 kd, .snil] ++ encE sumE ++ [.int .i64 (1 + (n : Int))])).cells = some ([V.int .i64 kd, .snil] ++ encE sumE ++ [.int .i64 (1 + (n : Int))]) := fun _ => rfl

  simp only [wpA_region, wpA_seq, wpA_draw, seqQ_normal, goI_out, goI_ops, opsA_nil, opsA_cons, stepA_assign, stepA_alloc, stepA_buildSlice, thenH_some, eval_tmp, eval_const, put_some, enterF_succ, absV_int, aAlloc_eq, push_n, Nat.reduceEqDiff, List.map_cons, List.map_nil, Option.map_some, if_true, if_false, zc_29, lit3k]
  refine SWp.drawnS none_ [11] (.q 0 (.q 1 (.q 2 (.q 3 (.q 4 (.q 5 (.c 6 (.q 7 (.q 8 (.q 9 (.q 10 (.a 11 .done)))))))))))) (by kernel_rfl) (by kernel_rfl) (by kernel_rfl) ?_
  have s3 : ∀ kd : Int, setC (some 6) (AObj.cells [.int .i64 0, .snil, .int .i64 0, .int .i64 0, .snil, .int .i64 0] 29 none) 0 (V.int .i64 kd :: V.snil :: (encE sumE ++ [.int .i64 (1 + (n : Int))])) = some (.cells (V.int .i64 kd :: V.snil :: (encE sumE ++ [.int .i64 (1 + (n : Int))])) 29 none) := fun _ => rfl
  have s4 : ∀ kd : Int, loadGo (some (some 6)) (some (V.int .i64 kd :: V.snil :: (encE sumE ++ [.int .i64 (1 + (n : Int))]))) = some (.agg (V.int .i64 kd :: V.snil :: (encE sumE ++ [.int .i64 (1 + (n : Int))]))) := fun _ => rfl
  have s5 : ∀ kd : Int, dropC (AObj.cells (V.int .i64 kd :: V.snil :: (encE sumE ++ [.int .i64 (1 + (n : Int))])) 29 none) 0 = some (V.int .i64 kd :: V.snil :: (encE sumE ++ [.int .i64 (1 + (n : Int))])) := fun _ => rfl
  have fin : ∀ kd : Int, kindN k = kd → ∀ H : AHeap, Keep h H none_ → ∃ h2, Cast (.agg ([.int .i64 kd, .snil] ++ encE sumE ++ [.int .i64 (1 + (n : Int))])) H (.agg (encX ⟨kindN k, [], sumE, 1 + (n : Int)⟩)) h2 ∧ Keep h h2 none_ := fun kd hk H kH => ⟨H, hk ▸ castX _ _ _ _, kH⟩
  have h3 : k % 3 = 0 ∨ k % 3 = 1 ∨ k % 3 = 2 := by omega
  rcases h3 with h3 | h3 | h3
  · have hr : (k : Int).tmod 3 = 0 := by rw [hrem, h3]; rfl
    have ix : (if 0 ≤ (0 : Int) ∧ (0 : Int) < ((3 : Nat) : Int) then some (V.ptr (h.n + 1) ((0 : Int).toNat * 1)) else none) = some (.ptr (h.n + 1) 0) := rfl
    have ix2 : (if (0 : Int) < ((3 : Nat) : Int) then some (V.ptr (h.n + 1) ((0 : Int).toNat * 1)) else none) = some (.ptr (h.n + 1) 0) := rfl
    simp only [siI_q, sqI_some, mOk_none', implies_true, qI_nil, qI_cons, thenQ_some, q_move, q_load, q_binOp, q_convert, q_indexAddr, goI_mk, eval_tmp, eval_const, put_some, enterF_zero, enterF_succ, absV_int, aLoad_eq, loadGo_one, aPlace_ptr, dropC_cells, aIndexAddr_eq, ixGo_sl, get_push2, List.getElem?_cons_zero, List.getElem?_cons_succ, Int.reduceLE, Nat.reduceEqDiff, Nat.reduceAdd, reduceCtorEq, Nat.zero_add, Nat.zero_le, List.length_cons, List.length_nil, List.drop_zero, true_and, if_true, if_false, as_24, lt_3, ss_24, aConv_int it_5 it_3, aBin_rem (show (3 : Int) ≠ 0 by decide), w1, hr, ix2]
    refine siI_c rfl rfl rfl (fun h' _ => pSum h') ?_
    simp only [siI_done, siI_q, siI_a, sqI_some, saI_some, mOk_none', implies_true, qI_nil, qI_cons, thenQ_some, q_move, q_build, q_binOp, q_convert, wpA_ret, seqQ_normal, endI_mk, goI_out, goI_ops, goI_mk, opsA_nil, opsA_cons, stepA_store, thenS_some, eval_tmp, eval_const, put_some, put_none, enterF_zero, enterF_succ, aBin_add, absV_int, cells_int, cells_agg, aLoad_eq, aPlace_ptr, aStore_eq, storeGo_ptr, setAll_nil, setAll_cons, aBuild_go, aFill_nil, aFill_cons, fillGo_some, buildGo_struct, get_push2', set_push2', List.getElem?_cons_zero, List.getElem?_cons_succ, Nat.reduceEqDiff, Nat.reduceAdd, Nat.reduceLeDiff, List.map_cons, List.map_nil, Option.map_some, Nat.zero_add, List.length_cons, List.length_nil, List.set_cons_zero, List.nil_append, List.cons_append, true_and, and_self, if_true, if_false, Nat.le_refl, lt_29, pl_29, zc_29, zt_29, aConv_int it_5 it_2, w2, w3, l3, s1, s2, s3, s4, s5, retA_ret, Tryz.results13, resultsC_1, resultA_cell]
    exact hid_mk (fin 6 (by simp [kindN, h3]) _ ((Keep.push h _ none_).then_push _))
  · have hr : (k : Int).tmod 3 = 1 := by rw [hrem, h3]; rfl
    have ix : (if 0 ≤ (1 : Int) ∧ (1 : Int) < ((3 : Nat) : Int) then some (V.ptr (h.n + 1) ((1 : Int).toNat * 1)) else none) = some (.ptr (h.n + 1) 1) := rfl
    have ix2 : (if (1 : Int) < ((3 : Nat) : Int) then some (V.ptr (h.n + 1) ((1 : Int).toNat * 1)) else none) = some (.ptr (h.n + 1) 1) := rfl
    simp only [siI_q, sqI_some, mOk_none', implies_true, qI_nil, qI_cons, thenQ_some, q_move, q_load, q_binOp, q_convert, q_indexAddr, goI_mk, eval_tmp, eval_const, put_some, enterF_zero, enterF_succ, absV_int, aLoad_eq, loadGo_one, aPlace_ptr, dropC_cells, aIndexAddr_eq, ixGo_sl, get_push2, List.getElem?_cons_zero, List.getElem?_cons_succ, Int.reduceLE, Nat.reduceEqDiff, Nat.reduceAdd, Nat.reduceLeDiff, reduceCtorEq, Nat.zero_add, List.length_cons, List.length_nil, List.drop_zero, List.drop_succ_cons, true_and, if_true, if_false, as_24, lt_3, ss_24, aConv_int it_5 it_3, aBin_rem (show (3 : Int) ≠ 0 by decide), w1, hr, ix2]
    refine siI_c rfl rfl rfl (fun h' _ => pSum h') ?_
    simp only [siI_done, siI_q, siI_a, sqI_some, saI_some, mOk_none', implies_true, qI_nil, qI_cons, thenQ_some, q_move, q_build, q_binOp, q_convert, wpA_ret, seqQ_normal, endI_mk, goI_out, goI_ops, goI_mk, opsA_nil, opsA_cons, stepA_store, thenS_some, eval_tmp, eval_const, put_some, put_none, enterF_zero, enterF_succ, aBin_add, absV_int, cells_int, cells_agg, aLoad_eq, aPlace_ptr, aStore_eq, storeGo_ptr, setAll_nil, setAll_cons, aBuild_go, aFill_nil, aFill_cons, fillGo_some, buildGo_struct, get_push2', set_push2', List.getElem?_cons_zero, List.getElem?_cons_succ, Nat.reduceEqDiff, Nat.reduceAdd, Nat.reduceLeDiff, List.map_cons, List.map_nil, Option.map_some, Nat.zero_add, List.length_cons, List.length_nil, List.set_cons_zero, List.nil_append, List.cons_append, true_and, and_self, if_true, if_false, Nat.le_refl, lt_29, pl_29, zc_29, zt_29, aConv_int it_5 it_2, w2, w3, l3, s1, s2, s3, s4, s5, retA_ret, Tryz.results13, resultsC_1, resultA_cell]
    exact hid_mk (fin 7 (by simp [kindN, h3]) _ ((Keep.push h _ none_).then_push _))
  · have hr : (k : Int).tmod 3 = 2 := by rw [hrem, h3]; rfl
    have ix : (if 0 ≤ (2 : Int) ∧ (2 : Int) < ((3 : Nat) : Int) then some (V.ptr (h.n + 1) ((2 : Int).toNat * 1)) else none) = some (.ptr (h.n + 1) 2) := rfl
    have ix2 : (if (2 : Int) < ((3 : Nat) : Int) then some (V.ptr (h.n + 1) ((2 : Int).toNat * 1)) else none) = some (.ptr (h.n + 1) 2) := rfl
    simp only [siI_q, sqI_some, mOk_none', implies_true, qI_nil, qI_cons, thenQ_some, q_move, q_load, q_binOp, q_convert, q_indexAddr, goI_mk, eval_tmp, eval_const, put_some, enterF_zero, enterF_succ, absV_int, aLoad_eq, loadGo_one, aPlace_ptr, dropC_cells, aIndexAddr_eq, ixGo_sl, get_push2, List.getElem?_cons_zero, List.getElem?_cons_succ, Int.reduceLE, Nat.reduceEqDiff, Nat.reduceAdd, Nat.reduceLeDiff, reduceCtorEq, Nat.zero_add, List.length_cons, List.length_nil, List.drop_zero, List.drop_succ_cons, true_and, if_true, if_false, as_24, lt_3, ss_24, aConv_int it_5 it_3, aBin_rem (show (3 : Int) ≠ 0 by decide), w1, hr, ix2]
    refine siI_c rfl rfl rfl (fun h' _ => pSum h') ?_
    simp only [siI_done, siI_q, siI_a, sqI_some, saI_some, mOk_none', implies_true, qI_nil, qI_cons, thenQ_some, q_move, q_build, q_binOp, q_convert, wpA_ret, seqQ_normal, endI_mk, goI_out, goI_ops, goI_mk, opsA_nil, opsA_cons, stepA_store, thenS_some, eval_tmp, eval_const, put_some, put_none, enterF_zero, enterF_succ, aBin_add, absV_int, cells_int, cells_agg, aLoad_eq, aPlace_ptr, aStore_eq, storeGo_ptr, setAll_nil, setAll_cons, aBuild_go, aFill_nil, aFill_cons, fillGo_some, buildGo_struct, get_push2', set_push2', List.getElem?_cons_zero, List.getElem?_cons_succ, Nat.reduceEqDiff, Nat.reduceAdd, Nat.reduceLeDiff, List.map_cons, List.map_nil, Option.map_some, Nat.zero_add, List.length_cons, List.length_nil, List.set_cons_zero, List.nil_append, List.cons_append, true_and, and_self, if_true, if_false, Nat.le_refl, lt_29, pl_29, zc_29, zt_29, aConv_int it_5 it_2, w2, w3, l3, s1, s2, s3, s4, s5, retA_ret, Tryz.results13, resultsC_1, resultA_cell]
    exact hid_mk (fin 8 (by simp [kindN, h3]) _ ((Keep.push h _ none_).then_push _))
/-! ### The store -/
/-- The store of a vertex that sums by key. -/
structure IsAg (h : AHeap) (a : Nat) (i : Nat) (v : V) (e : Ex) (n : Int) (l : List Pr) : Prop where
  lt : a < h.n
  get : h.get a = .cells (encE e ++ [.int .i64 n, .iface 145 (.ptr i 0)]) 99 none
  kv : IsKv h i v 1024 l
  ne : a ≠ i
  nev : idOf v ≠ some a
set_option maxRecDepth 10000 in
theorem pKeeper6 (x : Vx) (hx : x.kind = 6) (h : AHeap) : SCalls Tryz.prog 35 [.agg (encX x)] h (fun r h' => ∃ i, r = .tuple [.iface 145 (.ptr i 0), .int .i64 0] ∧ h.n ≤ i ∧ IsKv h' i .snil 1024 [] ∧ Keep h h' none_) := by
  refine SCalls.enterI (c := _) Tryz.func35 rfl (by kernel_rfl) (by simp) ?_
  obtain ⟨kd, fr, ⟨o, m, ks⟩, n⟩ := x
  have hx : kd = 6 := hx
  subst hx
  have hx : encX ⟨6, fr, .mk o m ks, n⟩ = [.int .i64 6, .imm fr.length (i64V fr), .int .i64 o, .int .i64 m, .imm ks.length (ks.flatMap encE), .int .i64 n] := by simp [encX, encE_eq]
  rw [hx]
  have hk : Keep h (h.push (.cells [.int .i64 6, .imm fr.length (i64V fr), .int .i64 o, .int .i64 m, .imm ks.length (ks.flatMap encE), .int .i64 n] 29 none)) none_ := Keep.push _ _ _
  simp only [wpA_region, wpA_seq, wpA_cond, wpA_block, condI_true, seqQ_normal, goI_out, goI_ops, opsA_nil, opsA_cons, stepA_assign, stepA_box, stepA_load, stepA_binOp, stepA_fieldAddr, stepA_call, thenV_some, thenH_some, eval_tmp, eval_const, put_some, enterF_zero, enterF_succ, aBin_eql, absV_int, absV_nilIface, cells_agg, aField_eq, fieldGo_ptr, aLoad_eq, loadGo_one, aPlace_ptr, dropC_cells, aBox_eq, get_push_new, beq_self_eq_true, Nat.reduceEqDiff, Nat.reduceAdd, List.map_cons, List.map_nil, Option.map_some, Nat.add_zero, Nat.zero_add, Nat.zero_le, List.length_cons, List.length_nil, List.drop_zero, if_true, if_false, ft_29_0, lt_3]
  refine callI_of cal70 (kvNew _ 1024 (by decide) (by decide)) fun r h1 ⟨e1, k1, p1⟩ => ?_
  subst e1
  simp only [wpA_ret, seqQ_normal, seqQ_ret, blkQ_ret, endI_mk, goI_out, goI_ops, opsA_nil, opsA_cons, stepA_assign, stepA_extract, stepA_makeInterface, ifcV_false, thenV_some, extV_zero, extV_succ, eval_tmp, put_some, enterF_succ, push_n, Nat.reduceEqDiff, if_true, if_false, if_145, retA_ret, Tryz.results35, resultsA_2]
  exact hid_mk ⟨_, rfl, by omega, k1, hk.trans' p1⟩
end Go.Proofs.YtpjfhfmbhjghcaaGreatDoor.Pk
