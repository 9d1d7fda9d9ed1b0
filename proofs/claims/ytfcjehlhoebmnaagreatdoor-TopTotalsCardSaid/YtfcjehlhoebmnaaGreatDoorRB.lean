/-
  What functions of the program do, told of abstract states. Conditions: as each theorem says.
-/
import Derived.Test.YtfcjehlhoebmnaaGreatDoorTotA
import Derived.Test.YtfcjehlhoebmnaaGreatDoorPC
namespace Go.Proofs.YtfcjehlhoebmnaaGreatDoor.Pk
open Go Go.Proofs Go.Proofs.YtfcjehlhoebmnaaGreatDoor.Ab
set_option linter.unusedVariables false
set_option linter.unusedSimpArgs false
theorem litW1 (h : AHeap) (i : Nat) : aBuildSlice Tryz.prog 65 1 [(0, .map i)] h = some (.sl h.n 0 1 1, h.push (.cells [.map i] 71 none)) := by rw [buildSlice_go sl_65]; rfl
theorem litN1 (h : AHeap) : aBuildSlice Tryz.prog 66 1 [(0, .int .i64 (-1))] h = some (.sl h.n 0 1 1, h.push (.cells [.int .i64 (-1)] 3 none)) := by rw [buildSlice_go sl_66]; rfl
set_option maxHeartbeats 2000000 in
set_option maxRecDepth 10000 in
theorem clusNew1 (l : List Vx) (p : Int) (hok : OkT l) (h : AHeap) (hg : TG h) (hgl : h.glob = gl gE) :
  SCalls Tryz.prog 15 [.agg (topE l p), .int .i64 1, .int .i64 1, .int .i64 1000] h fun r h' => ∃ v, r = .tuple [v, .int .i64 (chkT p l).2] ∧ ((chkT p l).2 = 0 ∧ (∃ i, v = .ptr i 0) ∨ (chkT p l).2 ≠ 0 ∧ v = .pnil) ∧ Keep h h' none_ := by
 have hcT : ∀ (l : List Vx) (p : Int), (V.agg (topE l p)).cells = some [.imm l.length (l.flatMap encX), .int .i64 p] := fun _ _ => rfl
 obtain ⟨H, hH⟩ : ∃ x, x = h.push (.cells [.imm l.length (l.flatMap encX), .int .i64 p] 45 none) := ⟨_, rfl⟩
 have gt : H.get h.n = .cells [.imm l.length (l.flatMap encX), .int .i64 p] 45 none := by rw [hH]; exact get_push_new
 have kH : Keep h H none_ := by rw [hH]; exact Keep.push _ _ _
 have nH : H.n = h.n + 1 := by rw [hH]; rfl
 have tH := hg.keep kH
 have glH : H.glob = gl gE := kH.glob.trans hgl
 have hag : ∀ (l : List Vx) (p : Int), V.agg [.imm l.length (l.flatMap encX), .int .i64 p] = .agg (topE l p) := fun _ _ => rfl
 have stT : ∀ (l : List Vx) (p : Int), setC (some 2) (AObj.cells [V.snil, .int .i64 0] 45 none) 0 [.imm l.length (l.flatMap encX), .int .i64 p] = some (.cells [.imm l.length (l.flatMap encX), .int .i64 p] 45 none) := fun _ _ => rfl
 refine SCalls.enterI (c := _) Tryz.func15 rfl (by kernel_rfl) (by simp) ?_
 simp only [wpA_region, wpA_seq, seqQ_normal, goI_out, goI_ops, opsA_nil, opsA_cons, stepA_assign, stepA_box, stepA_load, stepA_call, thenV_some, thenH_some, eval_tmp, eval_const, put_some, enterF_zero, enterF_succ, absV_int, absV_pnil, aLoad_eq, loadGo_row, aPlace_ptr, dropC_cells, aBox_eq, Int.reduceNeg, Nat.reduceEqDiff, Nat.reduceAdd, List.map_cons, List.map_nil, Option.map_some, Nat.zero_add, Nat.zero_le, List.length_cons, List.length_nil, List.drop_zero, List.take_succ_cons, List.take_nil, if_true, if_false, Nat.le_refl, lt_45, hcT, ← hH, gt, hag]
 refine callI_pure cal35 (pTBytes l p hok H tH) ?_
 unfold bytTV
 by_cases h0 : (chkT p l).2 = 0
 rotate_left
 ·have c : ((chkT p l).2 != 0) = true := by simpa using h0
  simp only [wpA_region, wpA_seq, wpA_cond, wpA_ret, condI_true, seqQ_normal, seqQ_ret, endI_mk, goI_out, goI_ops, opsA_nil, opsA_cons, stepA_move, stepA_assign, stepA_binOp, stepA_extract, thenV_some, extV_zero, extV_succ, eval_tmp, eval_const, put_some, enterF_succ, aBin_neq, absV_int, absV_pnil, Int.reduceNeg, Nat.reduceEqDiff, if_true, if_false, c, retA_ret, Tryz.results15, resultsA_2]
  exact hid_mk ⟨_, rfl, .inr ⟨h0, rfl⟩, kH⟩
 have hR := toR_enc hok h0
 have e2 : ((0 : Int) != 0) = false := rfl
 have e3 : decide ((1 : Int) < 1) = false := rfl
 have e4 : decide ((16 : Int) < 1) = false := rfl
 simp only [h0, e2, wpA_skip, wpA_region, wpA_seq, wpA_cond, condI_false, seqQ_normal, goI_out, goI_ops, opsA_nil, opsA_cons, opsA_guardS, gvI_same, slotAt_zero, slotAt_succ, stepA_move, stepA_assign, stepA_pick, stepA_binOp, stepA_extract, stepA_call, thenV_some, pickV_false, extV_zero, extV_succ, eval_tmp, eval_const, put_some, enterF_zero, enterF_succ, aBin_neq, aBin_lss, aBin_gtr, absV_int, absV_bool, Int.reduceLT, Int.reduceNeg, decide_false, Nat.reduceEqDiff, List.map_cons, List.map_nil, if_true, if_false]
 refine callI_of cal36 (logNew1 glH) fun r H1 ⟨e5, e6⟩ => ?_
 subst e5
 have k1 : Keep h H1 none_ := by rw [e6]; exact kH.trans' (Keep.push _ _ _)
 have n1 : H1.n = h.n + 2 := by rw [e6]; show H.n + 1 = _; omega
 have gl1 : H1.glob = gl gE := k1.glob.trans hgl
 have t1 := hg.keep k1
 clear e6
 simp only [e2, wpA_skip, wpA_region, wpA_seq, wpA_cond, condI_false, seqQ_normal, goI_out, goI_ops, opsA_nil, opsA_cons, stepA_move, stepA_assign, stepA_binOp, stepA_extract, stepA_call, thenV_some, extV_zero, extV_succ, eval_tmp, eval_const, put_some, enterF_succ, aBin_neq, absV_int, Int.reduceNeg, Nat.reduceEqDiff, List.map_cons, List.map_nil, if_true, if_false]
 refine callI_pure cal11 (pTOf _ (bytT p l) H1 t1 (Rd.imm _ _) (bytT_lt hok) (by have := bytT_len (p := p) hok; omega)) ?_
 unfold toV
 rw [hR]
 simp only [wpA_region, wpA_seq, wpA_block, wpA_loop, seqQ_normal, goI_out, goI_ops, opsA_nil, opsA_cons, stepA_move, stepA_assign, stepA_alloc, stepA_box, stepA_build, stepA_load, stepA_store, stepA_extract, thenV_some, thenH_some, thenS_some, extV_zero, extV_succ, eval_tmp, eval_const, put_some, put_none, enterF_zero, enterF_succ, absV_int, cells_ptr, cells_agg, aLoad_eq, loadGo_row, aPlace_ptr, dropC_cells, aStore_eq, storeGo_ptr, setAll_nil, setAll_cons, aAlloc_eq, aBox_eq, aBuild_go, aFill_nil, aFill_cons, fillGo_some, buildGo_struct, push_n, get_push_new, set_push, List.getElem?_cons_zero, List.getElem?_cons_succ, Int.reduceNeg, Nat.reduceEqDiff, Nat.reduceAdd, Nat.reduceLeDiff, List.map_cons, List.map_nil, Option.map_some, Nat.zero_add, Nat.zero_le, List.length_cons, List.length_nil, List.drop_zero, List.take_succ_cons, List.take_nil, List.set_cons_zero, List.set_cons_succ, and_self, if_true, if_false, Nat.le_refl, lt_45, pl_68, zc_45, zc_68, zt_45, hcT, stT]
 obtain ⟨H2, hH2⟩ : ∃ x, x = (H1.push (.cells [.imm l.length (l.flatMap encX), .int .i64 p] 45 none)).push (.cells [.imm l.length (l.flatMap encX), .int .i64 p, .ptr H.n 0, .snil, .snil] 68 none) := ⟨_, rfl⟩
 rw [← hH2]
 have k2 : Keep h H2 none_ := by rw [hH2]; exact (k1.trans' (Keep.push _ _ _)).trans' (Keep.push _ _ _)
 have n2 : H2.n = H1.n + 2 := by rw [hH2]; rfl
 have gT : H2.get H1.n = .cells [.imm l.length (l.flatMap encX), .int .i64 p] 45 none := by rw [hH2]; exact (get_push_lt (by show H1.n < H1.n + 1; omega)).trans get_push_new
 have gC : H2.get (H1.n + 1) = .cells [.imm l.length (l.flatMap encX), .int .i64 p, .ptr H.n 0, .snil, .snil] 68 none := by rw [hH2]; exact get_push_new
 clear hH2
 refine SWp.loopG (α := Nat) (fun i f h' => i ≤ 1 ∧ f 13 = .ptr H1.n 0 ∧ f 15 = .ptr (H1.n + 1) 0 ∧ f 48 = .int .i64 1 ∧ f 49 = .int .i64 (i : Nat) ∧ Keep h h' none_ ∧ H2.n ≤ h'.n ∧ h'.get H1.n = .cells [.imm l.length (l.flatMap encX), .int .i64 p] 45 none ∧
  ∃ wv, (i = 0 → wv = .snil) ∧ h'.get (H1.n + 1) = .cells [.imm l.length (l.flatMap encX), .int .i64 p, .ptr H.n 0, wv, .snil] 68 none) (fun i => 1 - i) 0
  ⟨by omega, rfl, rfl, rfl, rfl, k2, Nat.le_refl _, gT, .snil, fun _ => rfl, gC⟩ ?_
 rintro i f h2 ⟨hi, f13, f15, f48, f49, kk, nn, gT2, wv, hw0, gC2⟩
 refine wpI_sound (by kernel_rfl) ?_
 have w0 : (((0 : Nat) : Int)) = 0 := rfl
 rcases Nat.eq_zero_or_pos i with e0 | e0
 ·subst e0
  have d1 : decide ((((0 : Nat) : Int)) < 1) = true := rfl
  have hw := hw0 rfl
  subst hw
  have lit := litW1 (h2.push (.map [] 0)) h2.n
  obtain ⟨s', h4, ea, o4, kp4, d4⟩ := append_elemM (P := Tryz.prog) (h := h2.push (.map [] 0)) sl_65 (by decide) (Own.snil _ _ _) (xs := [.map h2.n]) rfl rfl (fun m hm => by
   change m * 1 = 0 + 1 at hm
   exact ⟨by simp only [lim]; omega, by simp only [lim]; omega⟩)
  have hk4 : Keep h2 h4 none_ := ((Keep.push _ _ _).trans kp4 fun q hq hh => by simp [isId, idOf] at hh)
  have gC4 := (hk4.get (H1.n + 1) (by omega) (by simp [none_])).trans gC2
  have gT4 := (hk4.get H1.n (by omega) (by simp [none_])).trans gT2
  obtain ⟨q, ln, cp, rfl⟩ : ∃ q ln cp, s' = .sl q 0 ln cp := by
   rcases o4 with ⟨_, e⟩ | ⟨q, ln, cp, _, _, e, _⟩
   ·simp at e
   ·exact ⟨q, ln, cp, e⟩
  have ea' : aAppend Tryz.prog 65 65 .snil (.sl (h2.n + 1) 0 1 1) ((h2.push (.map [] 0)).push (.cells [.map h2.n] 71 none)) = some (.sl q 0 ln cp, h4) := ea
  have n4 := hk4.n
  simp only [wpA_skip, wpA_region, wpA_seq, wpA_cond, wpA_block, condI_true, seqQ_normal, blkQ_normal, endI_mk, andThen_normal, goI_out, goI_ops, opsA_nil, opsA_cons, stepA_move, stepA_buildSlice, stepA_load, stepA_store, stepA_nilCheck, stepA_binOp, stepA_makeMap, stepA_fieldAddr, stepA_append, thenV_some, thenH_some, thenS_some, nilV_ptr, eval_tmp, eval_const, put_some, put_none, aBin_add, aBin_lss, absV_int, cells_sl, one_sl, all_nil, all_cons, aField_eq, fieldGo_ptr, aLoad_eq, loadGo_one, aPlace_ptr, dropC_cells, aStore_eq, storeGo_ptr, setC_row, setAll_nil, setAll_cons, makeMap_nil, push_n, Int.reduceNeg, Nat.reduceEqDiff, Nat.reduceAdd, Nat.reduceLeDiff, List.map_cons, List.map_nil, Option.map_some, Option.map_none, Nat.zero_add, List.length_cons, List.length_nil, List.drop_zero, List.drop_succ_cons, List.set_cons_zero, List.set_cons_succ, if_true, if_false, Bool.and_self, ft_68_2, lt_65, zt_65, f15, f48, f49, d1, gC2, lit, ea', gC4]
  refine hid_mk ⟨1, ⟨by omega, f13, f15, f48, rfl, (kk.trans' hk4).trans (Keep.set _ _ _) fun q hq e => (show False by have : q = H1.n + 1 := e; omega), by show H2.n ≤ h4.n; omega, (get_set_ne (by omega)).trans gT4, .sl q 0 ln cp, fun h => absurd h (by decide), get_set_same⟩, by omega⟩
 ·obtain rfl : i = 1 := by omega
  have d1 : decide ((((1 : Nat) : Int)) < 1) = false := rfl
  obtain ⟨n, hn, hT⟩ := tasks_le h0
  have lit := litN1 h2
  have kp := Keep.push h2 (.cells [.int .i64 (-1)] 3 none) none_
  have gT3 := (kp.get H1.n (by omega) (by simp [none_])).trans gT2
  simp only [wpA_region, wpA_seq, wpA_cond, wpA_exit, condI_false, seqQ_normal, seqQ_exit, blkQ_exit, endI_mk, goE, andThen_exit, goI_out, goI_ops, opsA_nil, opsA_cons, stepA_move, stepA_buildSlice, stepA_load, stepA_binOp, stepA_call, thenV_some, thenH_some, eval_tmp, eval_const, put_some, aBin_lss, absV_int, aLoad_eq, loadGo_row, aPlace_ptr, dropC_cells, Int.reduceNeg, Nat.reduceEqDiff, Nat.reduceAdd, List.map_cons, List.map_nil, Nat.zero_add, Nat.zero_le, List.length_cons, List.length_nil, List.drop_zero, List.take_succ_cons, List.take_nil, if_true, if_false, Nat.le_refl, lt_45, f13, f15, f48, f49, d1, lit, gT3, hag]
  refine callI_pure cal38 (pTasks l p hok _ (hg.keep (kk.trans' kp))) ?_
  rw [hT]
  simp only [goI_ops, opsA_cons, stepA_call, eval_tmp, put_some, Int.reduceNeg, Nat.reduceEqDiff, List.map_cons, List.map_nil, if_true, if_false]
  obtain ⟨h3, c3, k3⟩ := Cast.lit (h := h2) (c := [.int .i64 (-1)]) (e := 3) (n := 1) (sz := 1) rfl (by decide) (by decide)
  have gl3 : h3.glob = gl gE := (kk.trans' k3).glob.trans hgl
  refine callI_of cal37 (SCalls.args (CastL.cons c3 (CastL.refl _ _)) (repeat1 gl3 hn)) fun r h4 ⟨m, cap, c, e, x, e5, e6⟩ => ?_
  subst e5
  have k4 : Keep h2 h4 none_ := by rw [e6]; exact k3.trans' (Keep.push _ _ _)
  have gC4 := (k4.get (H1.n + 1) (by omega) (by simp [none_])).trans gC2
  clear e6
  simp only [wpA_region, wpA_seq, wpA_ret, seqQ_normal, endI_mk, goI_out, goI_ops, opsA_nil, opsA_cons, stepA_move, stepA_assign, stepA_store, stepA_nilCheck, stepA_fieldAddr, thenV_some, thenS_some, nilV_ptr, eval_tmp, eval_const, put_some, put_none, absV_int, cells_sl, one_sl, all_nil, all_cons, aField_eq, fieldGo_ptr, aStore_eq, storeGo_ptr, setC_row, setAll_nil, setAll_cons, Int.reduceNeg, Nat.reduceEqDiff, Nat.reduceAdd, Option.map_some, Nat.zero_add, List.length_cons, List.length_nil, List.set_cons_zero, List.set_cons_succ, if_true, if_false, Bool.and_self, Nat.le_refl, ft_68_3, zt_66, f15, gC4, retA_ret, Tryz.results15, resultsA_2]
  exact hid_mk ⟨.ptr (H1.n + 1) 0, by rw [h0], .inl ⟨h0, _, rfl⟩, (kk.trans' k4).trans (Keep.set _ _ _) fun q hq e => (show False by have : q = H1.n + 1 := e; omega)⟩
end Go.Proofs.YtfcjehlhoebmnaaGreatDoor.Pk
namespace Go.Proofs.YtfcjehlhoebmnaaGreatDoor.Pk
open Go Go.Proofs Go.Proofs.YtfcjehlhoebmnaaGreatDoor.Ab
set_option linter.unusedVariables false
set_option linter.unusedSimpArgs false
set_option maxHeartbeats 1000000 in
set_option maxRecDepth 10000 in
theorem pSmallT (l : List Vx) (p : Int) (hok : OkT l) (h : AHeap) : SCalls Tryz.prog 13 [.agg (topE l p)] h (fun r h' => ∃ b, r = .bool b ∧ Keep h h' none_) := by
 have hcT : ∀ (l : List Vx) (p : Int), (V.agg (topE l p)).cells = some [.imm l.length (l.flatMap encX), .int .i64 p] := fun _ _ => rfl
 refine SCalls.enterI (c := _) Tryz.func13 rfl (by kernel_rfl) (by simp) ?_
 obtain ⟨H, hH⟩ : ∃ x, x = h.push (.cells [.imm l.length (l.flatMap encX), .int .i64 p] 45 none) := ⟨_, rfl⟩
 have gt : H.get h.n = .cells [.imm l.length (l.flatMap encX), .int .i64 p] 45 none := by rw [hH]; exact get_push_new
 have kH : Keep h H none_ := by rw [hH]; exact Keep.push _ _ _
 simp only [wpA_region, wpA_seq, wpA_block, wpA_loop, seqQ_normal, goI_out, goI_ops, opsA_nil, opsA_cons, stepA_assign, stepA_box, thenH_some, eval_tmp, eval_const, enterF_zero, absV_int, absV_bool, aBox_eq, Option.map_some, hcT, ← hH]
 clear hH
 refine SWp.loopG (α := Nat × Int) (fun x f h' => f 1 = .ptr h.n 0 ∧ f 3 = .int .i64 x.2 ∧ f 4 = .int .i64 (x.1 : Nat) ∧ x.1 ≤ l.length ∧ h' = H) (fun x => l.length - x.1) (0, 0) ⟨rfl, rfl, rfl, Nat.zero_le _, rfl⟩ ?_
 rintro ⟨x, n⟩ f h' ⟨f1, f3, f4, hx, rfl⟩
 simp only at f3 f4 hx
 have hl := hok.1
 refine wpI_sound (by kernel_rfl) ?_
 by_cases hlt : x < l.length ∧ n ≤ 2000
 ·have d1 : decide ((x : Int) < ((l.length : Nat) : Int)) = true := decide_eq_true (by omega)
  have d2 : decide (n ≤ 2000) = true := decide_eq_true hlt.2
  have hw := inc64 hlt.1 (by omega)
  have okv := (hok.2 _ (List.getElem_mem hlt.1)).1
  have x0 : aIndexAddr Tryz.prog 43 (.imm l.length (l.flatMap encX)) (.int .i64 (x : Int)) = some (.at (encX l[x] ++ (l.drop (x + 1)).flatMap encX)) := rows_ix encX_len hlt.1 ss_43
  generalize l[x] = v at x0 okv
  generalize (l.drop (x + 1)).flatMap encX = rst at x0
  obtain ⟨kd, fr, ⟨eo, em, ks⟩, vn⟩ := v
  have hX : encX ⟨kd, fr, .mk eo em ks, vn⟩ = [.int .i64 kd, .imm fr.length (i64V fr), .int .i64 eo, .int .i64 em, .imm ks.length (ks.flatMap encE), .int .i64 vn] := by simp [encX, encE_eq]
  have hE : encE (.mk eo em ks) = [.int .i64 eo, .int .i64 em, .imm ks.length (ks.flatMap encE)] := encE_eq _ _ _
  rw [hX] at x0
  simp only [List.cons_append, List.nil_append] at x0
  have b1 := pCountR _ _ h' rfl okv
  rw [hE] at b1
  simp only [wpA_skip, wpA_region, wpA_seq, wpA_cond, wpA_block, condI_true, seqQ_normal, goI_out, goI_ops, opsA_nil, opsA_cons, opsA_guardS, gvI_same, slotAt_zero, slotAt_succ, stepA_move, stepA_pick, stepA_load, stepA_binOp, stepA_fieldAddr, stepA_indexAddr, stepA_len, stepA_call, thenV_some, pickV_true, eval_tmp, eval_const, put_some, aBin_lss, aBin_leq, absV_int, absV_bool, aField_eq, fieldGo_ptr, fieldGo_at, aLoad_eq, loadGo_one, loadGo_row, aPlace_ptr, aPlace_at, dropC_cells, aLen_imm, Nat.reduceEqDiff, Nat.reduceAdd, Nat.reduceLeDiff, List.map_cons, List.map_nil, Nat.add_zero, Nat.zero_add, Nat.zero_le, List.length_cons, List.length_nil, List.drop_zero, List.drop_succ_cons, List.take_succ_cons, List.take_zero, if_true, if_false, ft_45_0, ft_90_2, kt_43, lt_43, lt_88, f1, f3, f4, gt, d1, d2, x0]
  refine callI_pure cal30 b1 ?_
  simp only [wpA_region, seqQ_normal, blkQ_normal, endI_mk, andThen_normal, goI_out, goI_ops, opsA_nil, opsA_cons, stepA_move, stepA_assign, stepA_binOp, thenV_some, eval_tmp, eval_const, put_some, aBin_add, absV_int, Nat.reduceEqDiff, if_true, if_false, f4, hw]
  exact hid_mk ⟨(x + 1, _), ⟨f1, rfl, rfl, by simp only; omega, rfl⟩, by simp only; omega⟩
 ·by_cases h1 : x < l.length
  ·have d1 : decide ((x : Int) < ((l.length : Nat) : Int)) = true := decide_eq_true (by omega)
   have d2 : decide (n ≤ 2000) = false := decide_eq_false (by omega)
   simp only [wpA_region, wpA_seq, wpA_cond, wpA_exit, wpA_ret, condI_false, seqQ_normal, seqQ_exit, blkQ_exit, endI_mk, goE, andThen_exit, goI_out, goI_ops, opsA_nil, opsA_cons, opsA_guardS, gvI_same, slotAt_zero, slotAt_succ, stepA_move, stepA_assign, stepA_pick, stepA_load, stepA_binOp, stepA_fieldAddr, stepA_len, thenV_some, pickV_true, eval_tmp, eval_const, put_some, aBin_lss, aBin_leq, absV_int, absV_bool, aField_eq, fieldGo_ptr, aLoad_eq, loadGo_one, aPlace_ptr, dropC_cells, aLen_imm, Nat.reduceEqDiff, Nat.reduceAdd, Nat.add_zero, Nat.zero_add, Nat.zero_le, List.length_cons, List.length_nil, List.drop_zero, if_true, if_false, ft_45_0, kt_43, lt_43, f1, f3, f4, gt, d1, d2, retA_ret, Tryz.results13, resultsA_1]
   exact hid_mk ⟨_, rfl, kH⟩
  ·have d1 : decide ((x : Int) < ((l.length : Nat) : Int)) = false := decide_eq_false (by omega)
   simp only [wpA_region, wpA_seq, wpA_cond, wpA_exit, wpA_ret, condI_false, seqQ_normal, seqQ_exit, blkQ_exit, endI_mk, goE, andThen_exit, goI_out, goI_ops, opsA_nil, opsA_cons, opsA_guardS, gvI_ft, slotAt_zero, slotAt_succ, stepA_move, stepA_assign, stepA_pick, stepA_load, stepA_binOp, stepA_fieldAddr, stepA_len, thenV_some, pickV_false, eval_tmp, eval_const, put_some, aBin_lss, aBin_leq, absV_int, absV_bool, aField_eq, fieldGo_ptr, aLoad_eq, loadGo_one, aPlace_ptr, dropC_cells, aLen_imm, Nat.reduceEqDiff, Nat.reduceAdd, Nat.add_zero, Nat.zero_add, Nat.zero_le, List.length_cons, List.length_nil, List.drop_zero, if_true, if_false, ft_45_0, kt_43, lt_43, f1, f3, f4, gt, d1, retA_ret, Tryz.results13, resultsA_1]
   exact hid_mk ⟨_, rfl, kH⟩
set_option maxHeartbeats 2000000 in
set_option maxRecDepth 10000 in
theorem pLives {h : AHeap} (hg : h.glob = gl gE) (hL : SCalls Tryz.prog 14 [] (globHeap (gl gE)) fun x _ => x = .bool true) : Pure Tryz.prog 14 [] h (.bool true) :=
 Pure.closed hL fun k cs hk => ⟨by rw [hg]; exact hk, glInt k cs hk⟩
set_option maxHeartbeats 2000000 in
set_option maxRecDepth 10000 in
theorem topTotals (hL : SCalls Tryz.prog 14 [] (globHeap (gl gE)) fun x _ => x = .bool true) (l : List Vx) (p : Int) (hok : OkT l) (bs : List Nat) (hb : ∀ b ∈ bs, b < 256) (hl : bs.length ≤ 2 ^ 47) (h : AHeap) (hg : TG h) (hgl : h.glob = gl gE) :
  SCalls Tryz.prog 4 [.imm bs.length (bytesV bs), .agg (topE l p)] h (fun r h' => r = .bool true) := by
 have hcT : ∀ (l : List Vx) (p : Int), (V.agg (topE l p)).cells = some [.imm l.length (l.flatMap encX), .int .i64 p] := fun _ _ => rfl
 obtain ⟨H, hH⟩ : ∃ x, x = h.push (.cells [.imm l.length (l.flatMap encX), .int .i64 p] 45 none) := ⟨_, rfl⟩
 have gt : H.get h.n = .cells [.imm l.length (l.flatMap encX), .int .i64 p] 45 none := by rw [hH]; exact get_push_new
 have kH : Keep h H none_ := by rw [hH]; exact Keep.push _ _ _
 have nH : H.n = h.n + 1 := by rw [hH]; rfl
 have tH := hg.keep kH
 have glH : H.glob = gl gE := kH.glob.trans hgl
 have hag : ∀ (l : List Vx) (p : Int), V.agg [.imm l.length (l.flatMap encX), .int .i64 p] = .agg (topE l p) := fun _ _ => rfl
 have stT : ∀ (l : List Vx) (p : Int), setC (some 2) (AObj.cells [V.snil, .int .i64 0] 45 none) 0 [.imm l.length (l.flatMap encX), .int .i64 p] = some (.cells [.imm l.length (l.flatMap encX), .int .i64 p] 45 none) := fun _ _ => rfl
 refine SCalls.enterI (c := _) Tryz.func4 rfl (by kernel_rfl) (by simp) ?_
 simp only [wpA_region, wpA_seq, seqQ_normal, goI_out, goI_ops, opsA_nil, opsA_cons, stepA_move, stepA_assign, stepA_box, stepA_call, thenH_some, eval_tmp, eval_const, put_some, enterF_zero, enterF_succ, absV_bool, aBox_eq, Nat.reduceEqDiff, reduceCtorEq, List.map_cons, List.map_nil, Option.map_some, if_true, if_false, hcT, ← hH]
 refine callI_pure cal11 (pTOf _ bs H tH (Rd.imm _ _) hb hl) ?_
 unfold toV
 have okB := toR_ok hb
 have hRb : (toR bs).2 = 0 → (chkT (toR bs).1.1 (toR bs).1.2).2 = 0 := fun h => (toR_back hb h).1
 generalize toR bs = R at *
 obtain ⟨⟨p2, l2⟩, c2⟩ := R
 simp only at okB hRb
 obtain ⟨H2, hH2⟩ : ∃ x, x = H.push (.cells [.imm l2.length (l2.flatMap encX), .int .i64 p2] 45 none) := ⟨_, rfl⟩
 have k2 : Keep H H2 none_ := by rw [hH2]; exact Keep.push _ _ _
 have gt2 := (k2.get h.n (by omega) (by simp [none_])).trans gt
 have gy2 : H2.get H.n = .cells [.imm l2.length (l2.flatMap encX), .int .i64 p2] 45 none := by rw [hH2]; exact get_push_new
 have t2 := tH.keep k2
 have gl2 : H2.glob = gl gE := k2.glob.trans glH
 simp only [wpA_region, wpA_seq, seqQ_normal, goI_out, goI_ops, opsA_nil, opsA_cons, stepA_move, stepA_assign, stepA_alloc, stepA_load, stepA_store, stepA_extract, stepA_call, thenV_some, thenH_some, thenS_some, extV_zero, extV_succ, eval_tmp, put_some, put_none, enterF_succ, aLoad_eq, loadGo_row, aPlace_ptr, dropC_cells, aStore_eq, storeGo_ptr, aAlloc_eq, get_push_new, set_push, Nat.reduceEqDiff, Nat.reduceAdd, List.map_cons, List.map_nil, Option.map_some, Nat.zero_add, Nat.zero_le, List.length_cons, List.length_nil, List.drop_zero, List.take_succ_cons, List.take_nil, if_true, if_false, Nat.le_refl, lt_45, zc_45, zt_45, hcT, stT, ← hH2, gy2, hag]
 refine callI_pure cal12 (pCheck l2 p2 okB H2 t2) ?_
 unfold chkA
 simp only [wpA_region, wpA_seq, seqQ_normal, goI_out, goI_ops, opsA_nil, opsA_cons, opsA_guardS, slotAt_zero, slotAt_succ, stepA_move, stepA_assign, stepA_binOp, stepA_extract, thenV_some, extV_zero, extV_succ, eval_tmp, eval_const, put_some, put_none, enterF_succ, aBin_eql, aBin_bool_neq, absV_int, Nat.reduceEqDiff, if_true, if_false, bt_4]
 have hA : ∃ a : Bool, ((c2 == 0) != ((chkT p2 l2).2 == 0)) = a ∧ (a = true → (c2 == 0) = false) := ⟨_, rfl, fun h => by
  cases hc : c2 == 0 with
  | false => rfl
  | true =>
   have hc0 : c2 = 0 := by simpa using hc
   rw [hc, hRb hc0] at h
   exact absurd h (by decide)⟩
 obtain ⟨a, ha, ha2⟩ := hA
 cases a
 case' true =>
  have hc := ha2 rfl
  rw [ha]
  simp only [wpA_cond, seqQ_normal, goI_out, goI_ops, opsA_nil, opsA_cons, opsA_guardS, gvI_same, slotAt_zero, slotAt_succ, stepA_move, stepA_pick, stepA_binOp, thenV_some, pickV_true, eval_tmp, eval_const, put_some, put_none, enterF_succ, aBin_eql, absV_int, absV_bool, Nat.reduceEqDiff, if_true, if_false]
  simp only [wpA_skip, wpA_region, wpA_seq, condI_false, seqQ_normal, goI_ops, opsA_cons, stepA_load, stepA_call, thenV_some, eval_tmp, put_some, put_none, enterF_succ, aLoad_eq, loadGo_row, aPlace_ptr, dropC_cells, Nat.reduceEqDiff, Nat.reduceAdd, List.map_cons, List.map_nil, Nat.zero_add, Nat.zero_le, List.length_cons, List.length_nil, List.drop_zero, List.take_succ_cons, List.take_nil, if_true, if_false, Nat.le_refl, lt_45, hc, gt2, hag]
 case' false => simp only [wpA_skip, wpA_region, wpA_seq, wpA_cond, condI_false, seqQ_normal, goI_out, goI_ops, opsA_nil, opsA_cons, opsA_guardS, gvI_ft, slotAt_zero, slotAt_succ, stepA_pick, stepA_load, stepA_call, thenV_some, pickV_false, eval_tmp, eval_const, put_some, put_none, enterF_succ, absV_bool, aLoad_eq, loadGo_row, aPlace_ptr, dropC_cells, Nat.reduceEqDiff, Nat.reduceAdd, List.map_cons, List.map_nil, Nat.zero_add, Nat.zero_le, List.length_cons, List.length_nil, List.drop_zero, List.take_succ_cons, List.take_nil, if_true, if_false, Nat.le_refl, lt_45, ha, gt2, hag]
 all_goals
  refine callI_of cal13 (pSmallT l p hok H2) fun r H3 ⟨b, e, k3⟩ => ?_
  subst e
  have k23 := (kH.trans' k2).trans' k3
  have gt3 := (k3.get h.n (by have := k2.n; omega) (by simp [none_])).trans gt2
  have t3 := t2.keep k3
  have gl3 : H3.glob = gl gE := k3.glob.trans gl2
  cases b
  ·simp only [wpA_region, wpA_seq, wpA_cond, condI_true, seqQ_normal, goI_out, goI_ops, opsA_nil, opsA_cons, stepA_unOp, stepA_call, thenV_some, eval_tmp, put_some, put_none, enterF_succ, aUn_not, Nat.reduceEqDiff, List.map_nil, if_true, if_false, Bool.not_false]
   refine callI_pure cal14 (pLives gl3 hL) ?_
   simp only [wpA_ret, seqQ_normal, seqQ_ret, endI_mk, goI_out, goI_ops, opsA_nil, opsA_cons, stepA_assign, eval_tmp, put_some, put_none, enterF_succ, Nat.reduceEqDiff, if_true, if_false, retA_ret, Tryz.results4, resultsA_1]
   exact hid_mk rfl
  ·simp only [wpA_skip, wpA_region, wpA_seq, wpA_cond, condI_false, seqQ_normal, goI_out, goI_ops, opsA_nil, opsA_cons, stepA_load, stepA_unOp, stepA_call, thenV_some, eval_tmp, put_some, put_none, enterF_succ, aUn_not, aLoad_eq, loadGo_row, aPlace_ptr, dropC_cells, Nat.reduceEqDiff, Nat.reduceAdd, List.map_cons, List.map_nil, Nat.zero_add, Nat.zero_le, List.length_cons, List.length_nil, List.drop_zero, List.take_succ_cons, List.take_nil, if_true, if_false, Bool.not_true, Nat.le_refl, lt_45, gt3, hag]
   refine callI_pure cal12 (pCheck l p hok H3 t3) ?_
   unfold chkA
   simp only [wpA_region, wpA_seq, seqQ_normal, goI_out, goI_ops, opsA_nil, opsA_cons, stepA_move, stepA_assign, stepA_load, stepA_extract, stepA_call, thenV_some, extV_zero, extV_succ, eval_tmp, eval_const, put_some, put_none, enterF_succ, absV_int, aLoad_eq, loadGo_row, aPlace_ptr, dropC_cells, Nat.reduceEqDiff, Nat.reduceAdd, List.map_cons, List.map_nil, Nat.zero_add, Nat.zero_le, List.length_cons, List.length_nil, List.drop_zero, List.take_succ_cons, List.take_nil, if_true, if_false, Nat.le_refl, lt_45, gt3, hag]
   refine callI_of cal15 (clusNew1 l p hok H3 t3 gl3) fun r H4 ⟨v, e, hv, k4⟩ => ?_
   subst e
   have gl4 : H4.glob = gl gE := k4.glob.trans gl3
   have e1 : ((chkT p l).2 == 0) = ((chkT p l).2 == 0) := rfl
   rcases hv with ⟨h0, q, rfl⟩ | ⟨h0, rfl⟩
   ·have c1 : ((chkT p l).2 == 0) = true := by simpa using h0
    simp only [wpA_region, wpA_seq, seqQ_normal, goI_out, goI_ops, opsA_nil, opsA_cons, opsA_guardS, gvI_same, slotAt_zero, slotAt_succ, stepA_move, stepA_assign, stepA_pick, stepA_binOp, stepA_extract, stepA_call, thenV_some, pickV_true, extV_zero, extV_succ, eval_tmp, eval_const, put_some, put_none, enterF_succ, aBin_eql, aBin_bool_eql, ptr_nil_neq, absV_int, absV_bool, absV_pnil, beq_self_eq_true, Nat.reduceEqDiff, List.map_nil, if_true, if_false, bt_4, kt_28, c1]
    refine callI_pure cal14 (pLives gl4 hL) ?_
    simp only [wpA_ret, seqQ_normal, endI_mk, goI_out, goI_ops, opsA_nil, opsA_cons, stepA_assign, stepA_pick, thenV_some, pickV_true, eval_tmp, eval_const, put_some, put_none, enterF_succ, absV_bool, Nat.reduceEqDiff, if_true, if_false, retA_ret, Tryz.results4, resultsA_1]
    exact hid_mk rfl
   ·have c1 : ((chkT p l).2 == 0) = false := by simpa using h0
    simp only [wpA_region, wpA_seq, seqQ_normal, goI_out, goI_ops, opsA_nil, opsA_cons, opsA_guardS, gvI_same, slotAt_zero, slotAt_succ, stepA_move, stepA_assign, stepA_pick, stepA_binOp, stepA_extract, stepA_call, thenV_some, pickV_true, extV_zero, extV_succ, eval_tmp, eval_const, put_some, put_none, enterF_succ, aBin_eql, aBin_bool_eql, nil_nil_neq, absV_int, absV_bool, absV_pnil, beq_self_eq_true, Nat.reduceEqDiff, List.map_nil, if_true, if_false, bt_4, kt_28, c1]
    refine callI_pure cal14 (pLives gl4 hL) ?_
    simp only [wpA_ret, seqQ_normal, endI_mk, goI_out, goI_ops, opsA_nil, opsA_cons, stepA_assign, stepA_pick, thenV_some, pickV_true, eval_tmp, eval_const, put_some, put_none, enterF_succ, absV_bool, Nat.reduceEqDiff, if_true, if_false, retA_ret, Tryz.results4, resultsA_1]
    exact hid_mk rfl
end Go.Proofs.YtfcjehlhoebmnaaGreatDoor.Pk
