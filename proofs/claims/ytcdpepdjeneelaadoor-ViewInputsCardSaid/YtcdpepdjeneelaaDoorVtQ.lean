/-
  What functions of the program do, told of abstract states. Conditions: as each theorem says.
-/
import Derived.Test.YtcdpepdjeneelaaDoorVtO
namespace Go.Proofs.YtcdpepdjeneelaaDoor.Pk
open Go Go.Proofs Go.Proofs.YtcdpepdjeneelaaDoor.Ab Go.Proofs.Vw
set_option linter.unusedVariables false
set_option linter.unusedSimpArgs false
theorem arr_ix {i : Nat} {k : Nat} (hk : k < 3) : aIndexAddr Tryd.prog 51 (.ptr i 0) (.int .i64 (k : Int)) = some (.ptr i k) := by
  rw [aIndexAddr_eq, as_51, ss_51, ixGo_ptr, if_pos ⟨by omega, by omega⟩]
  simp
theorem u8_mod {n : Int} (hn : 0 ≤ n ∧ n < 256) : ∃ k : Nat, k < 3 ∧ IntKind.i64.wrap (n.tmod 3) = (k : Int) := by
  have e : n.tmod 3 = n % 3 := Int.tmod_eq_emod_of_nonneg hn.1
  have h1 := Int.emod_nonneg n (b := 3) (by omega)
  have h2 := Int.emod_lt_of_pos n (b := 3) (by omega)
  refine ⟨(n % 3).toNat, by omega, ?_⟩
  rw [e, Go.IntWalk.i64_in _ (by omega)]
  omega
set_option maxHeartbeats 16000000 in
set_option maxRecDepth 20000 in
theorem viewInputs (rs : List Rcd) (lg : List Int) (bt : List Ent) (hr0 : rs.length ≤ 2 ^ 47) (hl0 : lg.length ≤ 2 ^ 47) (hm0 : bt.length ≤ 2 ^ 47) (hlg : ∀ n ∈ lg, 0 ≤ n ∧ n < 256) (hf0 : ∀ x ∈ bt, eLen x) (h : AHeap) (hu : KU h) :
    SCalls Tryd.prog 8 [.imm rs.length (rs.flatMap rcdE), .imm lg.length (u8L lg), .imm bt.length (bt.flatMap entE)] h (fun r _ => r = .bool true) := by
  refine SCalls.enterI (c := _) Tryd.func8 rfl (by kernel_rfl) (by simp) ?_
  simp only [wpA_region, wpA_seq, seqQ_normal, goI_out, goI_ops, opsA_nil, opsA_cons, stepA_assign, stepA_call, eval_const, absV_bool, List.map_nil]
  refine callI_pure cal9 (pShown h hu) ?_
  simp only [wpA_region, wpA_seq, wpA_block, wpA_loop, seqQ_normal, goI_out, goI_ops, opsA_nil, opsA_cons, stepA_assign, stepA_alloc, thenH_some, eval_tmp, eval_const, put_some, enterF_succ, absV_int, absV_snil, aAlloc_eq, Nat.reduceEqDiff, Option.map_some, if_true, if_false, zc_51]
  refine SWp.loopG (α := Nat × List Ent × List V) (fun y f h' => f 0 = .imm rs.length (rs.flatMap rcdE) ∧ f 1 = .imm lg.length (u8L lg) ∧ f 2 = .imm bt.length (bt.flatMap entE) ∧ f 7 = .bool true ∧ f 9 = .ptr h.n 0 ∧ f 10 = .int .i64 (y.1 : Nat) ∧ y.1 ≤ rs.length ∧ y.1 ≤ 50 ∧ y.2.1.length ≤ 2 * y.1 ∧
      IW h h' (f 8) (y.2.1.flatMap entM) (fun k => wantL y.2.1 (k : Int)) y.2.2 ∧ (∀ x ∈ y.2.1, InpE x) ∧ (∀ x ∈ y.2.1, x.kind = 1 → bare x)) (fun y => rs.length - y.1) (0, [], [.snil, .snil, .snil])
    ⟨rfl, rfl, rfl, rfl, rfl, rfl, Nat.zero_le _, Nat.zero_le _, Nat.zero_le _, ⟨Acc.nil (Keep.push _ _ _), get_push_new, rfl, by rw [push_n]; omega, (show idOf V.snil ≠ some h.n by simp [idOf]), fun k hk => (by
        have : ([.snil, .snil, .snil] : List V).getD k .snil = .snil := by rcases k with _ | _ | _ | k <;> first | rfl | omega
        rw [this]; exact Own.snil _ _ _), fun k hk q hq => (by
        have : ([.snil, .snil, .snil] : List V).getD k .snil = .snil := by rcases k with _ | _ | _ | k <;> first | rfl | omega
        rw [this] at hq; simp [idOf] at hq), fun j k hj hk hne q hq => (by
        have : ([.snil, .snil, .snil] : List V).getD j .snil = .snil := by rcases j with _ | _ | _ | j <;> first | rfl | omega
        rw [this] at hq; simp [idOf] at hq)⟩, by simp, by simp⟩ ?_
  rintro ⟨i, L, ws⟩ f h5 ⟨f0, f1, f2, f7, f9, f10, hi, hi2, hLi, w, hL, hb⟩
  simp only at f10 hi hi2 hLi w hL hb
  refine wpI_sound (by kernel_rfl) ?_
  by_cases hlt : i < rs.length ∧ i < lg.length ∧ i < 50
  · have d1 : decide ((i : Int) < ((rs.length : Nat) : Int)) = true := decide_eq_true (by omega)
    have d2 : decide ((i : Int) < ((lg.length : Nat) : Int)) = true := decide_eq_true (by omega)
    have d3 : decide ((i : Int) < 50) = true := decide_eq_true (by omega)
    have wi : IntKind.i64.wrap (((i : Nat) : Int) + 1) = ((i + 1 : Nat) : Int) := by rw [Go.IntWalk.i64_in _ (by omega)]; omega
    have x1 := rc_ix (l := rs) (kk := .i64) hlt.1
    obtain ⟨qq, x2⟩ := u8L_ix (l := lg) (kk := .i64) hlt.2.1
    obtain ⟨k, hk3, ek⟩ := u8_mod (hlg _ (List.getElem_mem hlt.2.1))
    generalize rs[i]'hlt.1 = r0 at x1
    generalize lg[i]'hlt.2.1 = n0 at x2 ek
    obtain ⟨rk, rv, rt⟩ := r0
    have ld := rcd_ld (⟨rk, rv, rt⟩ : Rcd)
    have ex : rcdE ⟨rk, rv, rt⟩ = [.int .i64 rk, .int .i64 rv, .int .i64 rt] := rfl
    have hcase : ∃ t' : Int, (0 ≤ t' ∧ t' ≤ 1099511627776) ∧ ((decide (rt < 0) = true ∧ t' = 1) ∨ (decide (rt < 0) = false ∧ decide (1099511627776 < rt) = true ∧ t' = 1) ∨ (decide (rt < 0) = false ∧ decide (1099511627776 < rt) = false ∧ t' = rt)) := by
      by_cases q1 : rt < 0
      · exact ⟨1, by omega, .inl ⟨decide_eq_true q1, rfl⟩⟩
      · by_cases q2 : 1099511627776 < rt
        · exact ⟨1, by omega, .inr (.inl ⟨decide_eq_false q1, decide_eq_true q2, rfl⟩)⟩
        · exact ⟨rt, by omega, .inr (.inr ⟨decide_eq_false q1, decide_eq_false q2, rfl⟩)⟩
    obtain ⟨t', ht', hcase⟩ := hcase
    obtain ⟨H5, hH5⟩ : ∃ y, y = h5.push (.cells [.int .i64 rk, .int .i64 rv, .int .i64 t'] 45 none) := ⟨_, rfl⟩
    have k5 : Keep h5 H5 none_ := by rw [hH5]; exact Keep.push _ _ _
    have nH5 : H5.n = h5.n + 1 := by rw [hH5]; rfl
    have gr : H5.get h5.n = .cells [.int .i64 rk, .int .i64 rv, .int .i64 t'] 45 none := by rw [hH5]; exact get_push_new
    have w5 := w.on k5
    have hnn := w.nn
    -- the entry behind the list
    have hxE : entM (inpE (k : Int) ⟨rk, rv, t'⟩) = entS (inpE (k : Int) ⟨rk, rv, t'⟩) := if_pos (show (inpE (k : Int) ⟨rk, rv, t'⟩).kind = 1 from rfl)
    obtain ⟨v6, h6, ea6, o6, k6, d6⟩ := append_elemM (P := Tryd.prog) sl_22 (by decide) w5.acc.own (xs := entM (inpE (k : Int) ⟨rk, rv, t'⟩)) (entM_len _) (by rw [hxE]; rfl) (fun m hm => by
      change m * 11 = _ + 11 at hm
      rw [rows_len entM_len] at hm
      exact ⟨by simp only [lim]; omega, by simp only [lim]; omega⟩)
    rw [hxE] at ea6
    have b6 : aBuildSlice Tryd.prog 22 1 [(0, .agg [.int .i64 1, .int .i64 0, .int .i64 0, .int .i64 0, .int .i64 (k : Int), .int .i64 rk, .int .i64 rv, .int .i64 t', .bool false, .snil, .snil])] H5 = some (.sl H5.n 0 1 1, H5.push (.cells (entS (inpE (k : Int) ⟨rk, rv, t'⟩)) 47 none)) := by
      have := litE1 H5 (inpE (k : Int) ⟨rk, rv, t'⟩)
      rw [List.flatMap_cons, List.flatMap_nil, List.append_nil] at this
      exact this
    have w6 := w5.appL o6 k6 d6
    have n6 := k6.n
    have gr6 : H5.n ≤ h6.n := n6
    have hvne : idOf (f 8) ≠ some h5.n := fun hh => by have := w.acc.own.lt _ hh; omega
    have gr6' : h6.get h5.n = .cells [.int .i64 rk, .int .i64 rv, .int .i64 t'] 45 none := (k6.get h5.n (by omega) (fun hh => hvne hh)).trans gr
    -- the record behind what is wanted
    obtain ⟨v7, h7, ea7, o7, k7, d7⟩ := appR (w6.own k hk3) (by have := wantL_len L (k : Int); omega) ((⟨rk, rv, t'⟩, false) : LR)
    have b7 : aBuildSlice Tryd.prog 33 1 [(0, .agg [.int .i64 rk, .int .i64 rv, .int .i64 t'])] h6 = some (.sl h6.n 0 1 1, h6.push (.cells (rcdE ⟨rk, rv, t'⟩) 45 none)) := litR1 h6 ⟨rk, rv, t'⟩
    have w7 := w6.appW hk3 o7 k7 d7
    have one7 : v7.one = true := by rcases o7 with ⟨rfl | rfl, _⟩ | ⟨_, _, _, _, _, rfl, _⟩ <;> rfl
    have cell7 : v7.cells = some [v7] := by rcases o7 with ⟨rfl | rfl, _⟩ | ⟨_, _, _, _, _, rfl, _⟩ <;> rfl
    have ax := arr_ix (i := h.n) hk3
    have dw : dropC (AObj.cells ws 51 none) k = some (ws.drop k) := by rw [dropC_cells, if_pos (by rw [w.ln]; omega)]
    have lw : loadGo (some none) (some (ws.drop k)) = some (ws.getD k .snil) := by
      have hkl : k < ws.length := by rw [w.ln]; omega
      rw [List.drop_eq_getElem_cons hkl, List.getD, List.getElem?_eq_getElem hkl]
      rfl
    have m1 : isId (ws.getD k .snil) h.n = False := eq_false fun hh => by have := (w.new k hk3 _ hh).1; omega
    have m2 : isId (ws.getD k .snil) h5.n = False := eq_false fun hh => by have := (w.own k hk3).lt _ hh; omega
    have sw : setC (some 1) (AObj.cells ws 51 none) k [v7] = some (.cells (ws.set k v7) 51 none) := by rw [setC_one one7, if_pos (by rw [w.ln]; omega)]
    have ga6 : h6.get h.n = .cells ws 51 none := w6.arr
    have n7 := k7.n
    have ga7 : h7.get h.n = .cells ws 51 none := (k7.get h.n (by omega) (by rw [m1]; exact id)).trans ga6
    have ga5 : H5.get h.n = .cells ws 51 none := w5.arr
    have rm : aBin Tryd.prog .rem 5 (.tmp 49) (.const (.int .u8 3)) (.int .u8 n0) (.int .u8 3) = some (.int .u8 (n0.tmod 3)) := aBin_rem (by decide)
    obtain ⟨H7, hH7⟩ : ∃ y, y = h7.set h.n (.cells (ws.set k v7) 51 none) := ⟨_, rfl⟩
    rw [← hH7] at w7
    have w8 := w7.cast (cs' := (L ++ [inpE (k : Int) ⟨rk, rv, t'⟩]).flatMap entM) (W' := fun j => wantL (L ++ [inpE (k : Int) ⟨rk, rv, t'⟩]) (j : Int)) (by rw [List.flatMap_append]; simp) (fun j hj => by
      show (if j = k then wantL L (k : Int) ++ [((⟨rk, rv, t'⟩ : Rcd), false)] else wantL L (j : Int)) = wantL (L ++ [inpE (k : Int) ⟨rk, rv, t'⟩]) (j : Int)
      rw [wantL_snoc]
      by_cases hjk : j = k
      · subst hjk; rw [if_pos rfl, if_pos ⟨rfl, rfl⟩]; rfl
      · rw [if_neg hjk, if_neg (fun hh => hjk (by have : (k : Int) = (j : Int) := hh.2; omega))])
    have hL8 : ∀ x ∈ L ++ [inpE (k : Int) ⟨rk, rv, t'⟩], InpE x := fun x hx => by
      rcases List.mem_append.1 hx with hx | hx
      · exact hL x hx
      · rw [List.mem_singleton.1 hx]
        exact ⟨.inl ⟨rfl, inpE_may (by omega) ht'⟩, by simp [inpE], by simp [inpE]⟩
    have hb8 : ∀ x ∈ L ++ [inpE (k : Int) ⟨rk, rv, t'⟩], x.kind = 1 → bare x := fun x hx => by
      rcases List.mem_append.1 hx with hx | hx
      · exact hb x hx
      · rw [List.mem_singleton.1 hx]
        exact fun _ => ⟨rfl, rfl⟩
    have hl8 : (L ++ [inpE (k : Int) ⟨rk, rv, t'⟩]).length ≤ 2 * i + 1 := by rw [List.length_append]; simp; omega
    generalize L ++ [inpE (k : Int) ⟨rk, rv, t'⟩] = L8 at w8 hL8 hb8 hl8
    rcases hcase with ⟨q1, et⟩ | ⟨q1, q2, et⟩ | ⟨q1, q2, et⟩
    all_goals
      subst et
      first | simp only [wpA_skip, wpA_region, wpA_seq, wpA_cond, wpA_block, condI_true, condI_false, seqQ_normal, goI_out, goI_ops, opsA_nil, opsA_cons, opsA_guardS, gvI_same, slotAt_zero, slotAt_succ, stepA_move, stepA_assign, stepA_pick, stepA_alloc, stepA_build, stepA_buildSlice, stepA_load, stepA_store, stepA_binOp, stepA_convert, stepA_fieldAddr, stepA_indexAddr, stepA_len, thenV_some, thenC_some, thenH_some, thenS_some, pickV_true, pickV_false, eval_tmp, eval_const, put_some, put_none, aBin_lss, aBin_gtr, aConv_int, absV_int, absV_bool, cells_int, cells_agg, one_int, all_nil, all_cons, aField_eq, fieldGo_ptr, aLoad_eq, loadGo_one, loadGo_row, aPlace_ptr, aPlace_at, dropC_cells, aStore_eq, storeGo_ptr, setC_row, setAll_nil, setAll_cons, aAlloc_eq, aLen_imm, aBuild_go, aFill_nil, aFill_cons, fillGo_some, buildGo_struct, get_push_new, set_push, List.getElem?_cons_zero, List.getElem?_cons_succ, Option.some.injEq, Nat.reduceEqDiff, Nat.reduceAdd, Nat.reduceLeDiff, reduceCtorEq, List.map_cons, List.map_nil, Option.map_some, Nat.zero_add, Nat.zero_le, List.length_cons, List.length_nil, List.drop_zero, List.drop_succ_cons, List.take_succ_cons, List.take_zero, List.take_nil, List.set_cons_zero, List.set_cons_succ, List.nil_append, List.cons_append, and_self, if_true, if_false, Bool.and_self, Nat.le_refl, ft_45_2, it_3, it_5, kt_33, kt_49, lt_2, lt_45, lt_5, pl_47, zc_45, zc_47, zt_2, zt_45, f0, f1, f10, d1, d2, d3, x1, ex, x2, ek, q1, q2, rm] | simp only [wpA_skip, wpA_region, wpA_seq, wpA_cond, wpA_block, condI_true, seqQ_normal, goI_out, goI_ops, opsA_nil, opsA_cons, opsA_guardS, gvI_same, gvI_tf, slotAt_zero, slotAt_succ, stepA_move, stepA_assign, stepA_pick, stepA_alloc, stepA_build, stepA_buildSlice, stepA_load, stepA_store, stepA_binOp, stepA_convert, stepA_fieldAddr, stepA_indexAddr, stepA_len, thenV_some, thenC_some, thenH_some, thenS_some, pickV_true, eval_tmp, eval_const, put_some, put_none, aBin_lss, aConv_int, absV_int, absV_bool, cells_int, cells_agg, one_int, all_nil, all_cons, aField_eq, fieldGo_ptr, aLoad_eq, loadGo_one, loadGo_row, aPlace_ptr, aPlace_at, dropC_cells, aStore_eq, storeGo_ptr, setC_row, setAll_nil, setAll_cons, aAlloc_eq, aLen_imm, aBuild_go, aFill_nil, aFill_cons, fillGo_some, buildGo_struct, get_push_new, set_push, List.getElem?_cons_zero, List.getElem?_cons_succ, Option.some.injEq, Nat.reduceEqDiff, Nat.reduceAdd, Nat.reduceLeDiff, reduceCtorEq, List.map_cons, List.map_nil, Option.map_some, Nat.zero_add, Nat.zero_le, List.length_cons, List.length_nil, List.drop_zero, List.drop_succ_cons, List.take_succ_cons, List.take_zero, List.take_nil, List.set_cons_zero, List.set_cons_succ, List.nil_append, List.cons_append, and_self, if_true, if_false, Bool.and_self, Nat.le_refl, ft_45_2, it_3, it_5, kt_33, kt_49, lt_2, lt_45, lt_5, pl_47, zc_45, zc_47, zt_2, zt_45, f0, f1, f10, d1, d2, d3, x1, ex, x2, ek, q1, rm]
      rw [← hH5]
      simp only [wpA_seq, wpA_draw, seqQ_normal, goI_out, goI_ops, opsA_nil, opsA_cons, stepA_assign, stepA_append, thenH_some, eval_tmp, put_some, put_none, Nat.reduceEqDiff, if_true, if_false, b6, ea6]
      refine SWp.drawnS (fun q => isId (ws.getD k .snil) q) [5, 6, 8] (.q 0 (.q 1 (.q 2 (.q 3 (.q 4 (.e 5 (.e 6 (.q 7 (.a 8 .done)) .stop) .stop)))))) (by kernel_rfl) (by kernel_rfl) (by kernel_rfl) ?_
      simp only [mOk_move, mOk_indexAddr, mOk_load, mOkV_ptr, nne2, nne3, nne4, nne1', nne2', nne3', not_false_eq_true, siI_done, siI_stop, siI_q, siI_a, siI_e, sqI_some, saI_some, seI_some, keepT1, implies_true, qI_nil, qI_cons, thenQ_some, q_move, q_load, q_indexAddr, wpA_region, wpA_seq, seqQ_normal, goI_out, goI_ops, goI_mk, opsA_nil, opsA_cons, opsA_guardS, slotAt_zero, slotAt_succ, stepA_move, stepA_buildSlice, stepA_store, stepA_binOp, stepA_len, stepA_append, thenV_some, thenH_some, thenS_some, eval_tmp, put_some, put_none, aBin_lss, aLoad_eq, loadGo_row, aPlace_ptr, dropC_cells, aStore_eq, storeGo_ptr, aLen_imm, List.getElem?_cons_zero, List.getElem?_cons_succ, Bool.false_eq_true, Nat.reduceEqDiff, Nat.reduceAdd, List.map_cons, List.map_nil, Option.map_some, Nat.zero_add, Nat.zero_le, List.length_cons, List.length_nil, List.drop_zero, List.take_succ_cons, List.take_nil, and_true, true_and, if_true, if_false, Nat.le_refl, kt_22, lt_33, lt_45, zt_33, f2, f9, f10, ax, ga6, dw, lw, gr6', b7, ea7, m1, m2, ga7, sw, cell7, k7]
      rw [← hH7]
      clear hH7
      by_cases hbt : i < bt.length
      rotate_left
      · have e1 : decide ((i : Int) < ((bt.length : Nat) : Int)) = false := decide_eq_false (by omega)
        simp only [wpA_skip, wpA_region, wpA_cond, condI_false, seqQ_normal, blkQ_normal, endI_mk, andThen_normal, goI_out, goI_ops, opsA_nil, opsA_cons, opsA_guardS, gvI_ft, slotAt_zero, slotAt_succ, stepA_move, stepA_assign, stepA_pick, stepA_binOp, thenV_some, pickV_false, eval_tmp, eval_const, put_some, put_none, aBin_add, absV_int, absV_bool, Nat.reduceEqDiff, if_true, if_false, f10, e1, wi]
        exact hid_mk ⟨(i + 1, L8, ws.set k v7), ⟨f0, f1, f2, f7, f9, rfl, hlt.1, hlt.2.2, by simp only; omega, w8, hL8, hb8⟩, by simp only; omega⟩
      have e1 : decide ((i : Int) < ((bt.length : Nat) : Int)) = true := decide_eq_true (by omega)
      have y1 := ent_ix (l := bt) (kk := .i64) hbt
      have hyl := hf0 _ (List.getElem_mem hbt)
      generalize bt[i]'hbt = x at y1 hyl
      obtain ⟨kind, task0, ep, tx, log, rr, del, offs, order⟩ := x
      have ldE := ent_ld (⟨kind, task0, ep, tx, log, rr, del, offs, order⟩ : Ent)
      have exE : entE ⟨kind, task0, ep, tx, log, rr, del, offs, order⟩ = [.int .i64 kind, .int .i64 task0, .int .i64 ep, .int .i64 tx, .int .i64 log, .int .i64 rr.k, .int .i64 rr.v, .int .i64 rr.t, .bool del, .imm offs.length (i64V offs), .imm order.length (i64V order)] := rfl
      rw [exE] at y1 ldE
      by_cases hk1 : kind = 1
      · have e2 : (kind != 1) = false := by simp [hk1]
        simp only [wpA_skip, wpA_region, wpA_cond, condI_false, seqQ_normal, blkQ_normal, endI_mk, andThen_normal, goI_out, goI_ops, opsA_nil, opsA_cons, opsA_guardS, gvI_same, slotAt_zero, slotAt_succ, stepA_move, stepA_assign, stepA_pick, stepA_load, stepA_binOp, stepA_fieldAddr, stepA_indexAddr, thenV_some, pickV_true, eval_tmp, eval_const, put_some, put_none, aBin_add, aBin_neq, absV_int, absV_bool, aField_eq, fieldGo_at, aLoad_eq, loadGo_one, aPlace_at, Nat.reduceEqDiff, Nat.zero_le, List.length_cons, List.drop_zero, List.nil_append, List.cons_append, if_true, if_false, ft_47_0, lt_3, f2, f10, e1, y1, e2, wi]
        exact hid_mk ⟨(i + 1, L8, ws.set k v7), ⟨f0, f1, f2, f7, f9, rfl, hlt.1, hlt.2.2, by simp only; omega, w8, hL8, hb8⟩, by simp only; omega⟩
      have e2 : (kind != 1) = true := by simp [hk1]
      have hand : 0 ≤ bAnd .i64 log 7 ∧ bAnd .i64 log 7 ≤ 7 := and_small log 7 (by decide)
      have wlog : IntKind.i64.wrap (3 + bAnd .i64 log 7) = 3 + bAnd .i64 log 7 := Go.IntWalk.i64_in _ (by omega)
      obtain ⟨H8, hH8⟩ : ∃ y, y = H7.push (.cells [.int .i64 kind, .int .i64 task0, .int .i64 ep, .int .i64 tx, .int .i64 (3 + bAnd .i64 log 7), .int .i64 rr.k, .int .i64 rr.v, .int .i64 rr.t, .bool del, .imm offs.length (i64V offs), .imm order.length (i64V order)] 47 none) := ⟨_, rfl⟩
      have kH8 : Keep H7 H8 none_ := by rw [hH8]; exact Keep.push _ _ _
      have gx8 : H8.get H7.n = .cells [.int .i64 kind, .int .i64 task0, .int .i64 ep, .int .i64 tx, .int .i64 (3 + bAnd .i64 log 7), .int .i64 rr.k, .int .i64 rr.v, .int .i64 rr.t, .bool del, .imm offs.length (i64V offs), .imm order.length (i64V order)] 47 none := by rw [hH8]; exact get_push_new
      have w9 := w8.on kH8
      have hxE2 : entM ⟨kind, task0, ep, tx, 3 + bAnd .i64 log 7, rr, del, offs, order⟩ = entE ⟨kind, task0, ep, tx, 3 + bAnd .i64 log 7, rr, del, offs, order⟩ := if_neg hk1
      obtain ⟨v9, h9, ea9, o9, k9, d9⟩ := append_elemM (P := Tryd.prog) sl_22 (by decide) w9.acc.own (xs := entM ⟨kind, task0, ep, tx, 3 + bAnd .i64 log 7, rr, del, offs, order⟩) (entM_len _) (by rw [hxE2]; rfl) (fun m hm => by
        change m * 11 = _ + 11 at hm
        rw [rows_len entM_len] at hm
        exact ⟨by simp only [lim]; omega, by simp only [lim]; omega⟩)
      rw [hxE2] at ea9
      have b9 : aBuildSlice Tryd.prog 22 1 [(0, .agg [.int .i64 kind, .int .i64 task0, .int .i64 ep, .int .i64 tx, .int .i64 (3 + bAnd .i64 log 7), .int .i64 rr.k, .int .i64 rr.v, .int .i64 rr.t, .bool del, .imm offs.length (i64V offs), .imm order.length (i64V order)])] H8 = some (.sl H8.n 0 1 1, H8.push (.cells (entE ⟨kind, task0, ep, tx, 3 + bAnd .i64 log 7, rr, del, offs, order⟩) 47 none)) := litEe H8 ⟨kind, task0, ep, tx, 3 + bAnd .i64 log 7, rr, del, offs, order⟩
      have w10 := (w9.appL o9 k9 d9).cast (cs' := (L8 ++ [(⟨kind, task0, ep, tx, 3 + bAnd .i64 log 7, rr, del, offs, order⟩ : Ent)]).flatMap entM) (W' := fun j => wantL (L8 ++ [(⟨kind, task0, ep, tx, 3 + bAnd .i64 log 7, rr, del, offs, order⟩ : Ent)]) (j : Int)) (by rw [List.flatMap_append]; simp) (fun j hj => by
        rw [wantL_snoc, if_neg (fun hh => hk1 hh.1)])
      simp only [wpA_region, wpA_seq, wpA_cond, condI_true, seqQ_normal, goI_out, goI_ops, opsA_nil, opsA_cons, opsA_guardS, gvI_same, slotAt_zero, slotAt_succ, stepA_move, stepA_pick, stepA_alloc, stepA_buildSlice, stepA_load, stepA_store, stepA_binOp, stepA_fieldAddr, stepA_indexAddr, thenV_some, thenH_some, thenS_some, pickV_true, eval_tmp, eval_const, put_some, put_none, aBin_add, aBin_neq, aBin_and, absV_int, absV_bool, cells_int, cells_agg, one_int, one_bool, one_imm, all_nil, all_cons, aField_eq, fieldGo_ptr, fieldGo_at, aLoad_eq, loadGo_one, loadGo_row, aPlace_ptr, aPlace_at, dropC_cells, aStore_eq, storeGo_ptr, setC_row, setAll_nil, setAll_cons, aAlloc_eq, get_push_new, set_push, Nat.reduceEqDiff, Nat.reduceAdd, Nat.reduceLeDiff, List.map_cons, List.map_nil, Option.map_some, Nat.zero_add, Nat.zero_le, List.length_cons, List.length_nil, List.drop_zero, List.drop_succ_cons, List.take_succ_cons, List.take_zero, List.take_nil, List.set_cons_zero, List.set_cons_succ, List.nil_append, List.cons_append, if_true, if_false, Bool.and_self, Nat.le_refl, ft_47_0, ft_47_4, lt_3, lt_47, zc_47, zt_3, zt_47, f2, f10, e1, y1, e2, wlog]
      rw [← hH8]
      clear hH8
      simp only [wpA_region, seqQ_normal, blkQ_normal, endI_mk, andThen_normal, goI_out, goI_ops, opsA_nil, opsA_cons, stepA_move, stepA_assign, stepA_binOp, stepA_append, thenV_some, thenH_some, eval_tmp, eval_const, put_some, put_none, aBin_add, absV_int, Nat.reduceEqDiff, if_true, if_false, f10, b9, ea9, wi]
      refine hid_mk ⟨(i + 1, L8 ++ [(⟨kind, task0, ep, tx, 3 + bAnd .i64 log 7, rr, del, offs, order⟩ : Ent)], ws.set k v7), ⟨f0, f1, f2, f7, f9, rfl, hlt.1, hlt.2.2, by simp; omega, w10, fun x hx => ?_, fun x hx => ?_⟩, by simp only; omega⟩
      · rcases List.mem_append.1 hx with hx | hx
        · exact hL8 x hx
        · rw [List.mem_singleton.1 hx]
          exact ⟨.inr ⟨hk1, by show 3 ≤ 3 + bAnd .i64 log 7; omega⟩, hyl⟩
      · rcases List.mem_append.1 hx with hx | hx
        · exact hb8 x hx
        · rw [List.mem_singleton.1 hx]
          exact fun hh => absurd hh hk1
  · obtain ⟨v8, f8⟩ : ∃ v, f 8 = v := ⟨_, rfl⟩
    rw [f8] at w
    obtain ⟨h6, c6, o6, k6⟩ := castOwn (es := L.flatMap entE) w.acc.own (fun r => entM_cast L h5 r hb) (by rw [rows_len entE_len, rows_len entM_len])
    have hlL : L.length ≤ 100 := by omega
    have heL : ∀ x ∈ L, eLen x := fun x hx => (hL x hx).2
    have n6 := k6.n
    have hnn := w.nn
    have kA : Keep h h6 none_ := w.acc.keep.trans k6 fun q hq hh => by have := w.acc.new q hh; omega
    have g6 : h6.get h.n = .cells ws 51 none := (k6.get h.n hnn (fun hh => w.ne hh)).trans w.arr
    have ow6 : ∀ k, k < 3 → Own h6 45 3 (ws.getD k .snil) (recL (wantL L (k : Int))) := fun k hk => (w.own k hk).keep k6 fun q hq hh => (w.new k hk q hq).2 hh
    have hlen := lenO o6
    have okL := tdOk L (by omega)
    have cT : ∀ t : TD, (V.agg (tdC t)).cells = some (tdC t) := fun _ => rfl
    have sT : ∀ t : TD, setC (some 3) (AObj.cells [V.snil, .snil, .int .i64 0] 29 none) 0 (tdC t) = some (.cells (tdC t) 29 none) := fun _ => rfl
    have d0 : ∀ t : TD, dropC (AObj.cells (tdC t) 29 none) 0 = some (tdC t) := fun _ => rfl
    have d2' : ∀ t : TD, dropC (AObj.cells (tdC t) 29 none) 2 = some [.int .i64 (t.looked : Nat)] := fun _ => rfl
    have tk : ∀ t : TD, (tdC t).take 3 = tdC t := fun _ => rfl
    have tl : ∀ t : TD, (tdC t).length = 3 := fun _ => rfl
    have elk : (((toldOf L).looked : Nat) : Int) = ((L.length : Nat) : Int) := rfl
    have eqq : (((L.length : Nat) : Int) == ((L.length : Nat) : Int)) = true := by simp
    obtain ⟨H, hH⟩ : ∃ y, y = h6.push (.cells (tdC (toldOf L)) 29 none) := ⟨_, rfl⟩
    have kH : Keep h6 H none_ := by rw [hH]; exact Keep.push _ _ _
    have nH : H.n = h6.n + 1 := by rw [hH]; rfl
    have gT : H.get h6.n = .cells (tdC (toldOf L)) 29 none := by rw [hH]; exact get_push_new
    have ex3 : (decide ((i : Int) < ((rs.length : Nat) : Int)) = true ∧ decide ((i : Int) < ((lg.length : Nat) : Int)) = true ∧ decide ((i : Int) < 50) = false) ∨ (decide ((i : Int) < ((rs.length : Nat) : Int)) = true ∧ decide ((i : Int) < ((lg.length : Nat) : Int)) = false) ∨ decide ((i : Int) < ((rs.length : Nat) : Int)) = false := by
      by_cases q1 : i < rs.length
      · by_cases q2 : i < lg.length
        · exact .inl ⟨decide_eq_true (by omega), decide_eq_true (by omega), decide_eq_false (by omega)⟩
        · exact .inr (.inl ⟨decide_eq_true (by omega), decide_eq_false (by omega)⟩)
      · exact .inr (.inr (decide_eq_false (by omega)))
    have hrd : SCalls Tryd.prog 12 [v8] h5 (fun r h' => r = .agg (tdC (toldOf L)) ∧ h' = h6) := SCalls.args (CastL.cons c6 (CastL.refl _ _)) (pReadO L (by omega) heL h6 (by unfold KU; rw [kA.glob]; exact hu) o6)
    rcases ex3 with ⟨q1, q2, q3⟩ | ⟨q1, q2⟩ | q1
    all_goals
      first | simp only [wpA_region, wpA_seq, wpA_cond, wpA_exit, condI_false, seqQ_normal, seqQ_exit, blkQ_exit, endI_mk, goE, andThen_exit, goI_out, goI_ops, opsA_nil, opsA_cons, opsA_guardS, gvI_same, slotAt_zero, slotAt_succ, stepA_move, stepA_pick, stepA_binOp, stepA_len, stepA_call, thenV_some, pickV_true, eval_tmp, eval_const, put_some, aBin_lss, absV_int, absV_bool, aLen_imm, Nat.reduceEqDiff, reduceCtorEq, List.map_cons, List.map_nil, if_true, if_false, kt_33, kt_49, f0, f1, f8, f10, q1, q2, q3] | simp only [wpA_region, wpA_seq, wpA_cond, wpA_exit, condI_false, seqQ_normal, seqQ_exit, blkQ_exit, endI_mk, goE, andThen_exit, goI_out, goI_ops, opsA_nil, opsA_cons, opsA_guardS, gvI_same, gvI_ft, slotAt_zero, slotAt_succ, stepA_move, stepA_pick, stepA_binOp, stepA_len, stepA_call, thenV_some, pickV_true, pickV_false, eval_tmp, eval_const, put_some, aBin_lss, absV_bool, aLen_imm, Nat.reduceEqDiff, reduceCtorEq, List.map_cons, List.map_nil, if_true, if_false, kt_33, kt_49, f0, f1, f8, f10, q1, q2] | simp only [wpA_region, wpA_seq, wpA_cond, wpA_exit, condI_false, seqQ_normal, seqQ_exit, blkQ_exit, endI_mk, goE, andThen_exit, goI_out, goI_ops, opsA_nil, opsA_cons, opsA_guardS, gvI_ft, slotAt_zero, slotAt_succ, stepA_move, stepA_pick, stepA_binOp, stepA_len, stepA_call, thenV_some, pickV_false, eval_tmp, eval_const, put_some, aBin_lss, absV_bool, aLen_imm, Nat.reduceEqDiff, reduceCtorEq, List.map_cons, List.map_nil, if_true, if_false, kt_33, f0, f8, f10, q1]
      refine callI_of cal12 hrd fun r h6' ⟨er, e6⟩ => ?_
      subst er e6
      simp only [wpA_region, wpA_seq, wpA_block, wpA_loop, seqQ_normal, goI_out, goI_ops, opsA_nil, opsA_cons, stepA_assign, stepA_alloc, stepA_store, thenH_some, thenS_some, eval_tmp, eval_const, put_some, absV_int, aStore_eq, storeGo_ptr, aAlloc_eq, get_push_new, set_push, Nat.reduceEqDiff, Option.map_some, if_true, if_false, zc_29, zt_29, cT, sT]
      rw [← hH]
      refine SWp.loopG (α := Nat) (fun k f h' => f 7 = .bool true ∧ f 8 = v8 ∧ f 9 = .ptr h.n 0 ∧ f 14 = .ptr h6'.n 0 ∧ f 15 = .int .i64 (k : Nat) ∧ k ≤ 3 ∧ h'.get h6'.n = .cells (tdC (toldOf L)) 29 none ∧ h'.get h.n = .cells ws 51 none ∧ h6'.n < h'.n ∧
        (∀ j, k ≤ j → j < 3 → Own h' 45 3 (ws.getD j .snil) (recL (wantL L (j : Int))))) (fun k => 3 - k) 0
        ⟨f7, f8, f9, rfl, rfl, Nat.zero_le _, gT, (kH.get h.n (by omega) (by simp [none_])).trans g6, by omega, fun j _ hj => (ow6 j hj).keepN kH⟩ ?_
      clear f0 f1 f2 f7 f8 f9 f10
      rintro k f h8 ⟨f7, f8, f9, f14, f15, hk3, gT8, gA8, n8, ow8⟩
      refine wpI_sound (by kernel_rfl) ?_
      by_cases hk : k < 3
      · have e1 : decide ((k : Int) < 3) = true := decide_eq_true (by omega)
        have wk : IntKind.i64.wrap ((k : Int) + 1) = ((k + 1 : Nat) : Int) := by rw [Go.IntWalk.i64_in _ (by omega)]; omega
        have ax := arr_ix (i := h.n) hk
        have dw : dropC (AObj.cells ws 51 none) k = some (ws.drop k) := by rw [dropC_cells, if_pos (by rw [w.ln]; omega)]
        have lw : loadGo (some none) (some (ws.drop k)) = some (ws.getD k .snil) := by
          have hkl : k < ws.length := by rw [w.ln]; omega
          rw [List.drop_eq_getElem_cons hkl, List.getD, List.getElem?_eq_getElem hkl]
          rfl
        have o8 := ow8 k (Nat.le_refl _) hk
        obtain ⟨h9, c9, k9⟩ := Cast.own (cs := recL (wantL L (k : Int))) o8 (n := (wantL L (k : Int)).length) (recL_len _) (by decide)
        have n9 := k9.n
        have m1 : isId (ws.getD k .snil) h6'.n = False := eq_false fun hh => by have := (w.own k hk).lt _ hh; omega
        have m2 : isId (ws.getD k .snil) h.n = False := eq_false fun hh => by have := (w.new k hk _ hh).1; omega
        have gT9 : h9.get h6'.n = .cells (tdC (toldOf L)) 29 none := (k9.get h6'.n n8 (by rw [m1]; exact id)).trans gT8
        have gA9 : h9.get h.n = .cells ws 51 none := (k9.get h.n (by omega) (by rw [m2]; exact id)).trans gA8
        simp only [wpA_skip, wpA_region, wpA_seq, wpA_cond, wpA_block, wpA_draw, condI_true, seqQ_normal, goI_out, goI_ops, opsA_nil, opsA_cons, stepA_move, stepA_binOp, thenV_some, eval_tmp, eval_const, put_some, aBin_lss, absV_int, Nat.reduceEqDiff, if_true, if_false, f15, e1]
        refine SWp.drawnS (fun q => isId (ws.getD k .snil) q) [7] (.q 0 (.q 1 (.c 2 (.q 3 (.q 4 (.q 5 (.q 6 (.a 7 (.q 8 .done))))))))) (by kernel_rfl) (by kernel_rfl) (by kernel_rfl) ?_
        simp only [mOk_move, mOk_load, mOkV_ptr, not_false_eq_true, siI_q, sqI_some, implies_true, qI_nil, qI_cons, thenQ_some, q_move, q_load, goI_mk, eval_tmp, put_some, aLoad_eq, loadGo_row, aPlace_ptr, List.getElem?_cons_zero, List.getElem?_cons_succ, Nat.reduceEqDiff, true_and, if_true, if_false, Nat.le_refl, lt_29, f14, f15, gT8, d0, tk, tl, m1]
        refine siI_c rfl rfl rfl (fun h' _ => pViewLog (toldOf L) okL (k : Int) h') ?_
        have eL : logC ((k : Int), logAt (toldOf L).logs (k : Int)) = [.int .i64 (k : Int), .imm (wantL L (k : Int)).length (recL (wantL L (k : Int))), .imm (wantL L (k : Int)).length (delL (wantL L (k : Int)))] := by
          show logC ((k : Int), logAt (logsOf L) (k : Int)) = _
          rw [wantL_told hL (by omega)]
          rfl
        rw [eL]
        simp only [mOk_move, mOk_field, mOk_indexAddr, mOk_load, mOkV_ptr, nne2, nne3, nne4, nne1', nne2', nne3', not_false_eq_true, siI_q, siI_a, sqI_some, saI_some, implies_true, qI_nil, qI_cons, thenQ_some, q_move, q_load, q_field, q_indexAddr, goI_mk, opsA_cons, stepA_call, eval_tmp, put_some, aLoad_eq, aPlace_ptr, aFieldOf_eq, partGo_one, List.getElem?_cons_zero, List.getElem?_cons_succ, Nat.reduceEqDiff, List.map_cons, List.map_nil, true_and, if_true, if_false, lt_33, pt_36_1, f9, f15, gA8, ax, dw, lw, m2]
        refine callI_of cal17 (SCalls.args (CastL.cons (Cast.refl _ _) (CL1 c9)) (pRecsS (wantL L (k : Int)) (by have := wantL_len L (k : Int); omega) h9)) fun r h9' ⟨er, e9⟩ => ?_
        subst er e9
        have kk9 : Keep h8 h9' (fun q => isId (ws.getD k .snil) q) := k9
        simp only [mOk_unOp, nne2, nne3, nne4, nne1', nne2', nne3', siI_done, siI_q, sqI_some, implies_true, qI_nil, qI_cons, thenQ_some, q_unOp, wpA_skip, wpA_region, wpA_cond, condI_false, seqQ_normal, blkQ_normal, endI_mk, andThen_normal, goI_out, goI_ops, goI_mk, opsA_nil, opsA_cons, stepA_move, stepA_assign, stepA_binOp, thenV_some, eval_tmp, eval_const, put_some, aBin_add, aUn_not, absV_int, List.getElem?_cons_zero, List.getElem?_cons_succ, Bool.false_eq_true, Nat.reduceEqDiff, true_and, if_true, if_false, Bool.not_true, f15, wk]
        exact hid_mk ⟨k + 1, ⟨f7, f8, f9, f14, rfl, hk, gT9, gA9, by omega, fun j hj1 hj2 => (ow8 j (by omega) hj2).keep k9 fun q hq hh => w.apart j k hj2 hk (by omega) q hq hh⟩, by omega⟩
      · obtain rfl : k = 3 := by omega
        have e1 : decide (((3 : Nat) : Int) < 3) = false := rfl
        simp only [wpA_region, wpA_seq, wpA_cond, wpA_exit, wpA_ret, condI_false, seqQ_normal, seqQ_exit, blkQ_exit, endI_mk, goE, andThen_exit, goI_out, goI_ops, opsA_nil, opsA_cons, opsA_guardS, gvI_same, slotAt_zero, slotAt_succ, stepA_move, stepA_assign, stepA_pick, stepA_load, stepA_binOp, stepA_fieldAddr, stepA_len, thenV_some, pickV_true, eval_tmp, eval_const, put_some, aBin_eql, aBin_lss, absV_int, absV_bool, aField_eq, fieldGo_ptr, aLoad_eq, loadGo_one, aPlace_ptr, beq_self_eq_true, Nat.reduceEqDiff, Nat.zero_add, if_true, if_false, ft_29_2, lt_3, f7, f8, f14, f15, e1, gT8, d2', hlen, elk, retA_ret, Tryd.results8, resultsA_1]
        exact hid_mk rfl
end Go.Proofs.YtcdpepdjeneelaaDoor.Pk
