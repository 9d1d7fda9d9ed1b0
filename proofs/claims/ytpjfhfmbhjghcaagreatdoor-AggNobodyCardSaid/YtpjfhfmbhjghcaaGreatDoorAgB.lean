/-
  What functions of the program do, told of abstract states. Conditions: as each theorem says.
-/
import Derived.Test.YtpjfhfmbhjghcaaGreatDoorAgA
namespace Go.Proofs.YtpjfhfmbhjghcaaGreatDoor.Pk
open Go Go.Proofs Go.Proofs.YtpjfhfmbhjghcaaGreatDoor.Ab
set_option linter.unusedVariables false
set_option linter.unusedSimpArgs false
mutual
theorem encB_lt : (e : Ex) → ∀ b ∈ encB e, b < 256
  | .mk o n l => fun b hb => by
    rw [encB] at hb
    simp only [List.mem_append] at hb
    rcases hb with (hb | hb) | hb
    · exact enc_lt _ _ (Nat.le_refl _) b hb
    · split at hb
      · exact enc_lt _ _ (Nat.le_refl _) b hb
      · cases hb
    · exact encBL_lt l b hb
theorem encBL_lt : (l : List Ex) → ∀ b ∈ encBL l, b < 256
  | [] => fun b hb => by rw [encBL] at hb; cases hb
  | k :: r => fun b hb => by
    rw [encBL] at hb
    rcases List.mem_append.1 hb with hb | hb
    · exact encB_lt k b hb
    · exact encBL_lt r b hb
end
theorem asrK (i : Nat) : aAssert Tryz.prog (.iface 145 (.ptr i 0)) 145 true = some (.tuple [.ptr i 0, .bool true]) := by
  unfold aAssert; rw [Tryz.underlying145]; rfl
/-! ### New -/
set_option maxRecDepth 10000 in
set_option maxHeartbeats 1000000 in
theorem agNew6 (x : Vx) (hx : x.kind = 6) (hm : mayX x.e = true) (hok : OkE x.e) (h : AHeap) (hg : KG h) :
    SCalls Tryz.prog 14 [.agg (encX x)] h (fun r h' => ∃ a i, r = .tuple [.ptr a 0, .int .i64 0] ∧ h.n ≤ a ∧ h.n ≤ i ∧ IsAg h' a i .snil x.e x.n [] ∧ Keep h h' none_) := by
  refine SCalls.enterI (c := _) Tryz.func14 rfl (by kernel_rfl) (by simp) ?_
  obtain ⟨kd, fr, ⟨o, m, ks⟩, n⟩ := x
  have hx : kd = 6 := hx
  subst hx
  have hX : encX ⟨6, fr, .mk o m ks, n⟩ = [.int .i64 6, .imm fr.length (i64V fr), .int .i64 o, .int .i64 m, .imm ks.length (ks.flatMap encE), .int .i64 n] := by simp [encX, encE_eq]
  have hE : encE (.mk o m ks) = [.int .i64 o, .int .i64 m, .imm ks.length (ks.flatMap encE)] := encE_eq _ _ _
  obtain ⟨H, hH⟩ : ∃ y, y = h.push (.cells [.int .i64 6, .imm fr.length (i64V fr), .int .i64 o, .int .i64 m, .imm ks.length (ks.flatMap encE), .int .i64 n] 29 none) := ⟨_, rfl⟩
  have k0 : Keep h H none_ := by rw [hH]; exact Keep.push _ _ _
  have g0 : H.get h.n = .cells [.int .i64 6, .imm fr.length (i64V fr), .int .i64 o, .int .i64 m, .imm ks.length (ks.flatMap encE), .int .i64 n] 29 none := by rw [hH]; exact get_push_new
  have n0 : H.n = h.n + 1 := by rw [hH]; rfl
  have b1 : Pure Tryz.prog 34 [.agg [.int .i64 o, .int .i64 m, .imm ks.length (ks.flatMap encE)]] H (bytV (.mk o m ks)) := by rw [← hE]; exact pBytesX _ hok H (hg.keep k0)
  have hm' : mayX (.mk o m ks) = true := hm
  rw [hX]
  simp only [wpA_region, wpA_seq, seqQ_normal, goI_out, goI_ops, opsA_nil, opsA_cons, stepA_assign, stepA_box, stepA_load, stepA_fieldAddr, stepA_call, thenV_some, thenH_some, eval_tmp, eval_const, put_some, enterF_zero, enterF_succ, absV_int, absV_pnil, cells_agg, aField_eq, fieldGo_ptr, aLoad_eq, loadGo_row, aPlace_ptr, dropC_cells, aBox_eq, get_push_new, Nat.reduceEqDiff, Nat.reduceAdd, Nat.reduceLeDiff, List.map_cons, List.map_nil, Option.map_some, Nat.zero_add, List.length_cons, List.length_nil, List.drop_zero, List.drop_succ_cons, List.take_succ_cons, List.take_zero, if_true, if_false, ft_29_2, lt_27]
  rw [← hH]
  clear hH
  refine callI_pure cal34 b1 ?_
  unfold bytV bytX
  rw [if_pos hm', if_pos hm']
  simp only [wpA_skip, wpA_region, wpA_seq, wpA_cond, condI_false, seqQ_normal, goI_out, goI_ops, opsA_nil, opsA_cons, stepA_move, stepA_assign, stepA_load, stepA_binOp, stepA_extract, stepA_call, thenV_some, extV_zero, extV_succ, eval_tmp, eval_const, put_some, enterF_succ, aBin_neq, absV_int, aLoad_eq, loadGo_row, aPlace_ptr, dropC_cells, bne_self_eq_false, Nat.reduceEqDiff, Nat.reduceAdd, List.map_cons, List.map_nil, Nat.zero_add, Nat.zero_le, List.length_cons, List.length_nil, List.drop_zero, List.take_succ_cons, List.take_nil, if_true, if_false, Nat.le_refl, lt_29, g0]
  have kp := pKeeper6 ⟨6, fr, .mk o m ks, n⟩ rfl H
  rw [hX] at kp
  refine callI_of cal35 kp fun r h1 ⟨i, e1, hi, ki, k1⟩ => ?_
  subst e1
  have g1 := (k1.get h.n (by omega) (by simp [none_])).trans g0
  simp only [wpA_skip, wpA_region, wpA_seq, wpA_cond, condI_false, seqQ_normal, goI_out, goI_ops, opsA_nil, opsA_cons, stepA_move, stepA_assign, stepA_binOp, stepA_extract, stepA_call, thenV_some, extV_zero, extV_succ, eval_tmp, eval_const, put_some, enterF_succ, aBin_neq, absV_int, bne_self_eq_false, Nat.reduceEqDiff, List.map_cons, List.map_nil, if_true, if_false]
  have hof := pOf (.imm (encB (.mk o m ks)).length (bytesV (encB (.mk o m ks)))) (encB (.mk o m ks)) h1 ((hg.keep k0).keep k1) (Rd.imm _ _) (encB_lt _) (by have := encB_len _ (.mk o m ks) rfl hok; have := mayX_sz hm'; omega)
  have hov : ofV (encB (.mk o m ks)) = .tuple [.agg (encE (.mk o m ks)), .int .i64 0] := by unfold ofV ofE ofC; rw [ofX_enc hm' hok]; rfl
  rw [hov, hE] at hof
  refine callI_pure cal36 hof ?_
  have n1 := k1.n
  obtain ⟨H2, hH2⟩ : ∃ y, y = h1.push (.cells [.int .i64 o, .int .i64 m, .imm ks.length (ks.flatMap encE)] 27 none) := ⟨_, rfl⟩
  have k2 : Keep h1 H2 none_ := by rw [hH2]; exact Keep.push _ _ _
  have g2 := (k2.get h.n (by omega) (by simp [none_])).trans g1
  have g3 : H2.get h1.n = .cells [.int .i64 o, .int .i64 m, .imm ks.length (ks.flatMap encE)] 27 none := by rw [hH2]; exact get_push_new
  have n2 : H2.n = h1.n + 1 := by rw [hH2]; rfl
  simp only [wpA_region, wpA_seq, seqQ_normal, goI_out, goI_ops, opsA_nil, opsA_cons, stepA_move, stepA_assign, stepA_alloc, stepA_load, stepA_store, stepA_fieldAddr, stepA_extract, thenV_some, thenH_some, thenS_some, extV_zero, extV_succ, eval_tmp, put_some, put_none, enterF_succ, cells_agg, one_int, one_imm, all_nil, all_cons, aField_eq, fieldGo_ptr, aLoad_eq, loadGo_row, aPlace_ptr, dropC_cells, aStore_eq, storeGo_ptr, setC_row, setAll_nil, setAll_cons, aAlloc_eq, get_push_new, set_push, Nat.reduceEqDiff, Nat.reduceAdd, Option.map_some, Nat.zero_add, Nat.zero_le, List.length_cons, List.length_nil, List.drop_zero, List.take_succ_cons, List.take_nil, List.set_cons_zero, List.set_cons_succ, if_true, if_false, Bool.and_self, Nat.le_refl, ft_29_3, lt_2, lt_27, zc_27, zt_27]
  rw [← hH2]
  clear hH2
  simp only [wpA_ret, seqQ_normal, endI_mk, goI_out, goI_ops, opsA_nil, opsA_cons, stepA_move, stepA_assign, stepA_box, stepA_build, thenV_some, thenH_some, eval_tmp, eval_const, put_some, put_none, enterF_succ, absV_int, cells_int, cells_iface, cells_agg, loadGo_one, dropC_cells, setAll_nil, setAll_cons, aBox_eq, aBuild_go, aFill_nil, aFill_cons, fillGo_some, buildGo_struct, List.getElem?_cons_zero, List.getElem?_cons_succ, Nat.reduceEqDiff, Nat.reduceAdd, Nat.reduceLeDiff, List.map_cons, List.map_nil, Option.map_some, Nat.zero_add, List.length_cons, List.length_nil, List.drop_zero, List.drop_succ_cons, List.set_cons_zero, List.set_cons_succ, and_self, if_true, if_false, Nat.le_refl, pl_99, zc_99, g2, retA_ret, Tryz.results14, resultsA_2]
  have k3 : Keep H2 (H2.push (.cells [.int .i64 o, .int .i64 m, .imm ks.length (ks.flatMap encE), .int .i64 n, .iface 145 (.ptr i 0)] 99 none)) none_ := Keep.push _ _ _
  have hki := ki.lt
  refine hid_mk ⟨_, i, rfl, by omega, by omega, ⟨by rw [push_n]; omega, ?_, (ki.keepN k2).keepN k3, by omega, by simp [idOf]⟩, (k0.trans' k1).trans' (k2.trans' k3)⟩
  rw [hE]
  exact get_push_new
/-! ### missing, gathered, put, Value -/
set_option maxRecDepth 10000 in
theorem ag_missing {h : AHeap} {a i : Nat} {v : V} {e : Ex} {n : Int} {l : List Pr} (s : IsAg h a i v e n l) : Pure Tryz.prog 37 [.ptr a 0] h (.bool false) := by
  obtain ⟨o, m, ks⟩ := e
  have g := s.get
  rw [encE_eq] at g
  refine SCalls.enterI (c := _) Tryz.func37 rfl (by kernel_rfl) (by simp) ?_
  simp only [List.cons_append, List.nil_append] at g
  simp only [wpA_region, wpA_seq, seqQ_normal, goI_out, goI_ops, opsA_nil, opsA_cons, opsA_guardS, gvI_same, slotAt_zero, slotAt_succ, stepA_move, stepA_assign, stepA_load, stepA_nilCheck, stepA_binOp, stepA_fieldAddr, thenV_some, nilV_ptr, eval_tmp, eval_const, put_some, enterF_zero, enterF_succ, ptr_nil_eql, absV_bool, absV_pnil, absV_nilIface, aField_eq, fieldGo_ptr, aLoad_eq, loadGo_one, aPlace_ptr, dropC_cells, Nat.reduceEqDiff, Nat.reduceAdd, Nat.reduceLeDiff, reduceCtorEq, Nat.zero_add, List.length_cons, List.length_nil, List.drop_zero, List.drop_succ_cons, if_true, if_false, ft_99_2, kt_31, lt_93, g]
  exact hid_mk ⟨rfl, rfl⟩
set_option maxRecDepth 10000 in
theorem pMayT (t : Int) (h : AHeap) : Pure Tryz.prog 39 [.int .i64 t] h (.bool (decide (0 ≤ t ∧ t ≤ 1099511627776))) := by
  refine SCalls.enterI (c := _) Tryz.func39 rfl (by kernel_rfl) (by simp) ?_
  by_cases h1 : 0 ≤ t
  · have d1 : decide (0 ≤ t) = true := decide_eq_true h1
    by_cases h2 : t ≤ 1099511627776
    · have d2 : decide (t ≤ 1099511627776) = true := decide_eq_true h2
      simp only [wpA_region, wpA_seq, wpA_ret, seqQ_normal, endI_mk, goI_out, goI_ops, opsA_nil, opsA_cons, opsA_guardS, gvI_same, slotAt_zero, slotAt_succ, stepA_move, stepA_assign, stepA_pick, stepA_binOp, thenV_some, pickV_true, eval_tmp, eval_const, put_some, enterF_zero, enterF_succ, aBin_leq, aBin_geq, absV_int, absV_bool, Nat.reduceEqDiff, reduceCtorEq, if_true, if_false, d1, d2, retA_ret, Tryz.results39, resultsA_1]
      exact hid_mk ⟨by rw [decide_eq_true (⟨h1, h2⟩ : 0 ≤ t ∧ t ≤ 1099511627776)], rfl⟩
    · have d2 : decide (t ≤ 1099511627776) = false := decide_eq_false h2
      simp only [wpA_region, wpA_seq, wpA_ret, seqQ_normal, endI_mk, goI_out, goI_ops, opsA_nil, opsA_cons, opsA_guardS, gvI_same, slotAt_zero, slotAt_succ, stepA_move, stepA_assign, stepA_pick, stepA_binOp, thenV_some, pickV_true, eval_tmp, eval_const, put_some, enterF_zero, enterF_succ, aBin_leq, aBin_geq, absV_int, absV_bool, Nat.reduceEqDiff, reduceCtorEq, if_true, if_false, d1, d2, retA_ret, Tryz.results39, resultsA_1]
      exact hid_mk ⟨by rw [decide_eq_false (fun q : 0 ≤ t ∧ t ≤ 1099511627776 => h2 q.2)], rfl⟩
  · have d1 : decide (0 ≤ t) = false := decide_eq_false h1
    simp only [wpA_region, wpA_seq, wpA_ret, seqQ_normal, endI_mk, goI_out, goI_ops, opsA_nil, opsA_cons, opsA_guardS, gvI_ft, slotAt_zero, slotAt_succ, stepA_move, stepA_assign, stepA_pick, stepA_binOp, thenV_some, pickV_false, eval_tmp, eval_const, put_some, enterF_zero, enterF_succ, aBin_geq, absV_int, absV_bool, Nat.reduceEqDiff, reduceCtorEq, if_true, if_false, d1, retA_ret, Tryz.results39, resultsA_1]
    exact hid_mk ⟨by rw [decide_eq_false (fun q : 0 ≤ t ∧ t ≤ 1099511627776 => h1 q.1)], rfl⟩
set_option maxRecDepth 10000 in
theorem pGath6 {h : AHeap} {i : Nat} {v : V} {room : Int} {l : List Pr} (k : IsKv h i v room l) (r : Rec) : Pure Tryz.prog 41 [.iface 145 (.ptr i 0), .agg (recE r)] h (.int .i64 ((look l r.k).getD 0)) := by
  refine Pure.val (Clo.int _ _) ?_
  obtain ⟨rk, rv, rt⟩ := r
  refine SCalls.enterI (c := _) Tryz.func41 rfl (by kernel_rfl) (by simp) ?_
  unfold recE
  have kk : Keep h (h.push (.cells [.int .i64 rk, .int .i64 rv, .int .i64 rt] 38 none)) none_ := Keep.push _ _ _
  simp only [wpA_region, wpA_seq, wpA_cond, wpA_block, condI_true, seqQ_normal, goI_out, goI_ops, opsA_nil, opsA_cons, stepA_move, stepA_assign, stepA_box, stepA_load, stepA_fieldAddr, stepA_typeAssert, stepA_extract, stepA_call, thenV_some, thenH_some, extV_zero, extV_succ, eval_tmp, eval_const, put_some, enterF_zero, enterF_succ, absV_int, cells_agg, aField_eq, fieldGo_ptr, aLoad_eq, loadGo_one, aPlace_ptr, dropC_cells, aBox_eq, get_push_new, Nat.reduceEqDiff, Nat.reduceAdd, reduceCtorEq, List.map_cons, List.map_nil, Option.map_some, Nat.add_zero, Nat.zero_add, Nat.zero_le, List.length_cons, List.length_nil, List.drop_zero, if_true, if_false, ft_38_0, lt_2, asrK]
  refine callI_pure cal80 (kvGet _ i v room rk l (k.keepN kk)) ?_
  simp only [wpA_region, wpA_seq, wpA_ret, seqQ_normal, blkQ_normal, endI_mk, goI_out, goI_ops, opsA_nil, opsA_cons, stepA_move, stepA_assign, stepA_extract, thenV_some, extV_zero, extV_succ, eval_tmp, put_some, enterF_succ, Nat.reduceEqDiff, if_true, if_false, retA_ret, Tryz.results41, resultsA_1]
  exact hid_mk ⟨rfl, kk⟩
set_option maxRecDepth 10000 in
theorem pTable6 {h : AHeap} {i : Nat} {v : V} {room : Int} {l : List Pr} (k : IsKv h i v room l) (key : Int) : Pure Tryz.prog 44 [.iface 145 (.ptr i 0), .int .i64 key] h (.int .i64 ((look l key).getD 0)) := by
  refine SCalls.enterI (c := _) Tryz.func44 rfl (by kernel_rfl) (by simp) ?_
  simp only [wpA_skip, wpA_region, wpA_seq, wpA_cond, condI_false, seqQ_normal, goI_out, goI_ops, opsA_nil, opsA_cons, stepA_move, stepA_assign, stepA_unOp, stepA_typeAssert, stepA_extract, stepA_call, thenV_some, extV_zero, extV_succ, eval_tmp, eval_const, put_some, enterF_zero, enterF_succ, aUn_not, absV_int, Nat.reduceEqDiff, reduceCtorEq, List.map_cons, List.map_nil, if_true, if_false, Bool.not_true, asrK]
  refine callI_pure cal80 (kvGet _ i v room key l k) ?_
  simp only [wpA_region, wpA_seq, wpA_ret, seqQ_normal, endI_mk, goI_out, goI_ops, opsA_nil, opsA_cons, stepA_move, stepA_assign, stepA_extract, thenV_some, extV_zero, extV_succ, eval_tmp, put_some, enterF_succ, Nat.reduceEqDiff, if_true, if_false, retA_ret, Tryz.results44, resultsA_1]
  exact hid_mk ⟨rfl, rfl⟩
theorem lit1c (h : AHeap) (c : Chg) : aBuildSlice Tryz.prog 35 1 [(0, .agg (chgE c))] h = some (.sl h.n 0 1 1, h.push (.cells (chgE c) 40 none)) := by rw [buildSlice_go sl_35]; rfl
set_option maxRecDepth 10000 in
theorem pPut6 {h : AHeap} {i : Nat} {v : V} {room : Int} {l : List Pr} (k : IsKv h i v room l) (r : Rec) (n : Int) :
    SCalls Tryz.prog 42 [.iface 145 (.ptr i 0), .agg (recE r), .int .i64 n] h (fun q h' => ∃ v' j, q = .tuple [.sl j 0 1 1, .int .i64 r.t, .int .i64 (putE room l r.k)] ∧ IsKv h' i v' room (putL room l r.k n) ∧ Keep h h' (kvO i v) ∧ NewOr h v v' ∧
      Own h' 40 5 (.sl j 0 1 1) (chgE (putX room l r.k n)) ∧ h.n ≤ j ∧ j ≠ i ∧ idOf v' ≠ some j) := by
  obtain ⟨rk, rv, rt⟩ := r
  refine SCalls.enterI (c := _) Tryz.func42 rfl (by kernel_rfl) (by simp) ?_
  unfold recE
  obtain ⟨H, hH⟩ : ∃ y, y = h.push (.cells [.int .i64 rk, .int .i64 rv, .int .i64 rt] 38 none) := ⟨_, rfl⟩
  have k0 : Keep h H none_ := by rw [hH]; exact Keep.push _ _ _
  have g0 : H.get h.n = .cells [.int .i64 rk, .int .i64 rv, .int .i64 rt] 38 none := by rw [hH]; exact get_push_new
  have n0 : H.n = h.n + 1 := by rw [hH]; rfl
  simp only [wpA_region, wpA_seq, wpA_cond, wpA_block, condI_true, seqQ_normal, goI_out, goI_ops, opsA_nil, opsA_cons, stepA_move, stepA_assign, stepA_box, stepA_load, stepA_fieldAddr, stepA_typeAssert, stepA_extract, stepA_call, thenV_some, thenH_some, extV_zero, extV_succ, eval_tmp, eval_const, put_some, enterF_zero, enterF_succ, absV_int, absV_snil, cells_agg, aField_eq, fieldGo_ptr, aLoad_eq, loadGo_one, aPlace_ptr, dropC_cells, aBox_eq, get_push_new, Nat.reduceEqDiff, Nat.reduceAdd, reduceCtorEq, List.map_cons, List.map_nil, Option.map_some, Nat.add_zero, Nat.zero_add, Nat.zero_le, List.length_cons, List.length_nil, List.drop_zero, if_true, if_false, ft_38_0, lt_2, asrK]
  rw [← hH]
  clear hH
  refine callI_of cal83 (kvPut H i v room rk n l (k.keepN k0)) fun q h1 ⟨v1, e1, k1, p1, d1⟩ => ?_
  subst e1
  have hlt := k.lt
  have g1 := (p1.get h.n (by omega) (by
    rintro (hh | hh)
    · omega
    · have := k.own.lt _ hh; omega)).trans g0
  have cc : ∀ c : Chg, (V.agg (chgE c)).cells = some (chgE c) := fun _ => rfl
  have st : ∀ c : Chg, setC (some 5) (AObj.cells [V.int .i64 0, V.int .i64 0, V.int .i64 0, V.int .i64 0, V.bool false] 40 none) 0 (chgE c) = some (.cells (chgE c) 40 none) := fun _ => rfl
  obtain ⟨H2, hH2⟩ : ∃ y, y = h1.push (.cells (chgE (putX room l rk n)) 40 none) := ⟨_, rfl⟩
  have k2 : Keep h1 H2 none_ := by rw [hH2]; exact Keep.push _ _ _
  have g2 : H2.get h1.n = .cells (chgE (putX room l rk n)) 40 none := by rw [hH2]; exact get_push_new
  have g3 := (k2.get h.n (by have := p1.n; omega) (by simp [none_])).trans g1
  have n2 : H2.n = h1.n + 1 := by rw [hH2]; rfl
  simp only [wpA_seq, wpA_draw, seqQ_normal, goI_out, goI_ops, opsA_nil, opsA_cons, stepA_move, stepA_assign, stepA_alloc, stepA_store, stepA_extract, thenV_some, thenH_some, thenS_some, extV_zero, extV_succ, eval_tmp, put_some, put_none, enterF_succ, aStore_eq, storeGo_ptr, aAlloc_eq, get_push_new, set_push, Nat.reduceEqDiff, Option.map_some, if_true, if_false, zc_40, zt_40, cc, st]
  rw [← hH2]
  clear hH2
  have l1 := lit1c H2 (putX room l rk n)
  have ld : loadGo (some (some 5)) (some (chgE (putX room l rk n))) = some (.agg (chgE (putX room l rk n))) := rfl
  have d0 : dropC (.cells (chgE (putX room l rk n)) 40 none) 0 = some (chgE (putX room l rk n)) := rfl
  generalize hC : chgE (putX room l rk n) = C at *
  refine SWp.drawnS none_ [1] (.q 0 (.q 2 (.q 3 (.q 4 (.e 1 (.q 5 (.q 6 (.q 7 .done))) .stop))))) (by kernel_rfl) (by kernel_rfl) (by kernel_rfl) ?_
  simp only [siI_done, siI_stop, siI_q, siI_e, sqI_some, seI_some, mOk_none', keepT1, implies_true, qI_nil, qI_cons, thenQ_some, q_move, q_assign, q_load, q_fieldAddr, wpA_ret, seqQ_normal, seqQ_ret, blkQ_ret, endI_mk, goI_out, goI_ops, goI_mk, opsA_nil, opsA_cons, stepA_buildSlice, thenH_some, eval_tmp, put_some, put_none, enterF_succ, aField_eq, fieldGo_ptr, aLoad_eq, loadGo_one, aPlace_ptr, dropC_cells, List.getElem?_cons_zero, List.getElem?_cons_succ, Bool.false_eq_true, Nat.reduceEqDiff, Nat.reduceAdd, Nat.reduceLeDiff, List.map_cons, List.map_nil, Nat.zero_add, List.length_cons, List.length_nil, List.drop_zero, List.drop_succ_cons, and_true, true_and, if_true, if_false, ft_38_2, lt_2, lt_40, g2, g3, l1, ld, d0, retA_ret, Tryz.results42, resultsA_3]
  have k3 : Keep H2 (H2.push (.cells C 40 none)) none_ := Keep.push _ _ _
  have hn1 := p1.n
  have hCl : C.length = 5 := by rw [← hC]; rfl
  refine hid_mk ⟨v1, H2.n, rfl, (k1.keepN k2).keepN k3, ?_, NewOr.later d1 (by omega), Own.fresh' _ 1 hCl (by decide), by omega, by omega, fun hh => ?_⟩
  · exact ((k0.up).trans' p1).trans' ((k2.trans' k3).up)
  · have := k1.own.lt _ hh; omega
end Go.Proofs.YtpjfhfmbhjghcaaGreatDoor.Pk
