/-
  What functions of the program do, told of abstract states. Conditions: as each theorem says.
-/
import Derived.Test.YtcdpepdjeneelaaDoorVtJ
namespace Go.Proofs.YtcdpepdjeneelaaDoor.Pk
open Go Go.Proofs Go.Proofs.YtcdpepdjeneelaaDoor.Ab Go.Proofs.Vw
set_option linter.unusedVariables false
set_option linter.unusedSimpArgs false
/-! ### ViewFences -/
/-- A row that has an entry more whose lists are nil, told otherwise. -/
theorem castLast {h : AHeap} {v : V} {l : List Ent} {x : Ent} (hx : bare x) (o : Own h 47 11 v (l.flatMap entE ++ entS x)) : ∃ h2, Cast v h v h2 ∧ Own h2 47 11 v ((l ++ [x]).flatMap entE) ∧ Keep h h2 (isId v) := by
  have := castOwn (es := (l ++ [x]).flatMap entE) o (fun r => by
    rw [List.flatMap_append, List.flatMap_cons, List.flatMap_nil, List.append_nil, List.append_assoc, List.append_assoc]
    exact CastL.pre _ (entS_cast hx (CastL.refl r h))) (by rw [rows_len entE_len, List.length_append, List.length_append, rows_len entE_len, entS_len]; simp [Nat.add_mul])
  exact this
theorem wrap_len (n m : Nat) (h : n + m ≤ 2 ^ 40) : IntKind.i64.wrap (((n + m : Nat) : Int) - (m : Nat)) = (n : Nat) := by rw [Go.IntWalk.i64_in _ (by omega)]; omega
set_option maxHeartbeats 8000000 in
set_option maxRecDepth 20000 in
theorem viewFences (l0 m0 : List Ent) (t e : Int) (ht : 0 ≤ t ∧ t < 256) (hee : 0 ≤ e ∧ e < 256) (hl0 : l0.length ≤ 2 ^ 47) (hm0 : m0.length ≤ 2 ^ 47) (he0 : ∀ x ∈ l0, eLen x) (hf0 : ∀ x ∈ m0, eLen x) (h : AHeap) (hu : KU h) :
    SCalls Tryd.prog 5 [.imm l0.length (l0.flatMap entE), .int .u8 t, .int .u8 e, .imm m0.length (m0.flatMap entE)] h (fun r _ => r = .bool true) := by
  refine SCalls.enterI (c := _) Tryd.func5 rfl (by kernel_rfl) (by simp) ?_
  simp only [wpA_region, wpA_seq, seqQ_normal, goI_out, goI_ops, opsA_nil, opsA_cons, stepA_assign, stepA_call, eval_const, absV_bool, List.map_nil]
  refine callI_pure cal9 (pShown h hu) ?_
  simp only [wpA_region, wpA_seq, seqQ_normal, goI_out, goI_ops, opsA_nil, opsA_cons, stepA_move, stepA_assign, stepA_call, eval_tmp, put_some, enterF_zero, enterF_succ, Nat.reduceEqDiff, reduceCtorEq, List.map_cons, List.map_nil, if_true, if_false]
  refine callI_pure cal10 (pFew l0 hl0 h) ?_
  have hl : (l0.take 200).length ≤ 200 := by rw [List.length_take]; omega
  have he : ∀ x ∈ l0.take 200, eLen x := fun x hx => he0 x (List.mem_of_mem_take hx)
  generalize l0.take 200 = l at hl he ⊢
  have cvt : IntKind.i64.wrap t = t := Go.IntWalk.i64_in _ (by omega)
  have cve : IntKind.i64.wrap e = e := Go.IntWalk.i64_in _ (by omega)
  have cv1 : IntKind.i64.wrap (1 + e) = 1 + e := Go.IntWalk.i64_in _ (by omega)
  have b0 := lit0e h
  obtain ⟨v1, h1, e1, a1⟩ := accE l (acc0e h) (by simp; omega)
  rw [List.nil_append] at a1
  have b1 : aBuildSlice Tryd.prog 22 1 [(0, .agg [.int .i64 5, .int .i64 t, .int .i64 (1 + e), .int .i64 0, .int .i64 0, .int .i64 0, .int .i64 0, .int .i64 0, .bool false, .snil, .snil])] h1 = some (.sl h1.n 0 1 1, h1.push (.cells (entS (fenE t (1 + e))) 47 none)) := by
    have := litE1 h1 (fenE t (1 + e))
    rw [List.flatMap_cons, List.flatMap_nil, List.append_nil] at this
    exact this
  obtain ⟨v2, h2, e2, a2⟩ := a1.elemM (P := Tryd.prog) sl_22 (by decide) (xs := entS (fenE t (1 + e))) rfl rfl (fun m hm => by
    change m * 11 = _ + 11 at hm
    rw [rows_len entE_len] at hm
    exact ⟨by simp only [lim]; omega, by simp only [lim]; omega⟩)
  simp only [wpA_region, wpA_seq, seqQ_normal, goI_out, goI_ops, opsA_nil, opsA_cons, stepA_move, stepA_assign, stepA_build, stepA_buildSlice, stepA_binOp, stepA_convert, stepA_append, stepA_call, thenV_some, thenC_some, thenH_some, eval_tmp, eval_const, put_some, enterF_zero, enterF_succ, aBin_add, aConv_int, absV_int, cells_int, setAll_nil, setAll_cons, aBuild_go, aFill_nil, aFill_cons, fillGo_some, buildGo_struct, List.getElem?_cons_zero, List.getElem?_cons_succ, Option.some.injEq, Nat.reduceEqDiff, Nat.reduceAdd, Nat.reduceLeDiff, reduceCtorEq, List.map_cons, List.map_nil, Option.map_some, Nat.zero_add, List.length_cons, List.length_nil, List.set_cons_zero, List.set_cons_succ, and_self, if_true, if_false, it_3, it_5, pl_47, zc_47, cvt, cve, cv1, b0, e1, b1, e2]
  obtain ⟨h3, c3, o3, k3⟩ := castLast ⟨rfl, rfl⟩ a2.own
  have hlF : (l ++ [fenE t (1 + e)]).length ≤ 201 := by simp; omega
  have heF : ∀ x ∈ l ++ [fenE t (1 + e)], eLen x := fun x hx => (List.mem_append.1 hx).elim (he x) fun hx => by rw [List.mem_singleton.1 hx]; exact ⟨by simp [fenE], by simp [fenE]⟩
  have k23 : Keep h h3 none_ := a2.keep.trans k3 fun q hq hh => by have := a2.new q hh; omega
  have oF : Own h3 47 11 v2 ((l ++ [fenE t (1 + e)]).flatMap entE) := o3
  have idv := a2.new
  have hfst := fence_st (l := l) ht hee
  have hsame := fun (K : List Ent) hK => fence_same (l := l) (K := K) ht hee hK
  generalize l ++ [fenE t (1 + e)] = F at hlF heF oF hfst hsame
  refine callI_of cal12 (SCalls.args (CastL.cons c3 (CastL.refl _ _)) (pReadO F (by omega) heF h3 (by unfold KU; rw [k23.glob]; exact hu) oF)) fun r h4 ⟨er, e4⟩ => ?_
  subst er e4
  have cT : ∀ t : TD, (V.agg (tdC t)).cells = some (tdC t) := fun _ => rfl
  have sT : ∀ t : TD, setC (some 3) (AObj.cells [V.snil, .snil, .int .i64 0] 29 none) 0 (tdC t) = some (.cells (tdC t) 29 none) := fun _ => rfl
  obtain ⟨H, hH⟩ : ∃ y, y = h4.push (.cells (tdC (toldOf F)) 29 none) := ⟨_, rfl⟩
  have kH : Keep h4 H none_ := by rw [hH]; exact Keep.push _ _ _
  have nH : H.n = h4.n + 1 := by rw [hH]; rfl
  have gA : H.get h4.n = .cells (tdC (toldOf F)) 29 none := by rw [hH]; exact get_push_new
  simp only [wpA_region, wpA_seq, wpA_block, wpA_loop, seqQ_normal, goI_out, goI_ops, opsA_nil, opsA_cons, stepA_assign, stepA_alloc, stepA_store, thenH_some, thenS_some, eval_tmp, eval_const, put_some, enterF_succ, absV_int, aStore_eq, storeGo_ptr, aAlloc_eq, get_push_new, set_push, Nat.reduceEqDiff, reduceCtorEq, Option.map_some, if_true, if_false, zc_29, zt_29, cT, sT]
  rw [← hH]
  clear hH
  have n4 := k23.n
  refine SWp.loopG (α := Nat × List Ent) (fun y f h' => f 1 = .int .u8 t ∧ f 2 = .int .u8 e ∧ f 3 = .imm m0.length (m0.flatMap entE) ∧ f 9 = .bool true ∧ f 11 = .ptr h4.n 0 ∧ f 12 = .int .i64 (y.2.length : Nat) ∧ f 13 = .int .i64 (y.1 : Nat) ∧ y.1 ≤ m0.length ∧ y.1 ≤ 100 ∧ y.2.length ≤ y.1 ∧
      Acc h h' 47 11 (f 10) ((F ++ y.2).flatMap entE) ∧ h'.get h4.n = .cells (tdC (toldOf F)) 29 none ∧ h4.n < h'.n ∧ idOf (f 10) ≠ some h4.n ∧ (∀ x ∈ y.2, x.task = t ∧ (2 ≤ x.kind ∧ x.kind ≤ 5) ∧ x.epoch ≤ e) ∧ (∀ x ∈ y.2, eLen x)) (fun y => m0.length - y.1) (0, [])
    ⟨rfl, rfl, rfl, rfl, rfl, rfl, rfl, Nat.zero_le _, Nat.zero_le _, Nat.zero_le _, ⟨by rw [List.append_nil]; exact oF.keepN kH, k23.trans' kH, idv⟩, gA, by omega, (fun hh => by have := oF.lt _ hh; omega), by simp, by simp⟩ ?_
  rintro ⟨i, K⟩ f h5 ⟨f1, f2, f3, f9, f11, f12, f13, hi, hi2, hKi, acc, g5, n5, id5, hK, hKe⟩
  simp only at f12 f13 hi hi2 hKi acc hK hKe
  refine wpI_sound (by kernel_rfl) ?_
  by_cases hlt : i < m0.length ∧ i < 100
  · have d1 : decide ((i : Int) < ((m0.length : Nat) : Int)) = true := decide_eq_true (by omega)
    have d2 : decide ((i : Int) < 100) = true := decide_eq_true (by omega)
    have wi : IntKind.i64.wrap (((i : Nat) : Int) + 1) = ((i + 1 : Nat) : Int) := by rw [Go.IntWalk.i64_in _ (by omega)]; omega
    have x1 := ent_ix (l := m0) (kk := .i64) hlt.1
    have hxl := hf0 _ (List.getElem_mem hlt.1)
    generalize m0[i]'hlt.1 = x at x1 hxl
    obtain ⟨kind, task0, ep, tx, log, rr, del, offs, order⟩ := x
    have ld := ent_ld (⟨kind, task0, ep, tx, log, rr, del, offs, order⟩ : Ent)
    have ex : entE ⟨kind, task0, ep, tx, log, rr, del, offs, order⟩ = [.int .i64 kind, .int .i64 task0, .int .i64 ep, .int .i64 tx, .int .i64 log, .int .i64 rr.k, .int .i64 rr.v, .int .i64 rr.t, .bool del, .imm offs.length (i64V offs), .imm order.length (i64V order)] := rfl
    have ex' : entE ⟨kind, t, ep, tx, log, rr, del, offs, order⟩ = [.int .i64 kind, .int .i64 t, .int .i64 ep, .int .i64 tx, .int .i64 log, .int .i64 rr.k, .int .i64 rr.v, .int .i64 rr.t, .bool del, .imm offs.length (i64V offs), .imm order.length (i64V order)] := rfl
    simp only [wpA_skip, wpA_region, wpA_seq, wpA_cond, wpA_block, condI_true, seqQ_normal, goI_out, goI_ops, opsA_nil, opsA_cons, opsA_guardS, gvI_same, slotAt_zero, slotAt_succ, stepA_move, stepA_pick, stepA_alloc, stepA_load, stepA_store, stepA_binOp, stepA_convert, stepA_fieldAddr, stepA_indexAddr, stepA_len, thenV_some, thenC_some, thenH_some, thenS_some, pickV_true, eval_tmp, eval_const, put_some, put_none, aBin_lss, aBin_geq, aConv_int, absV_int, absV_bool, cells_int, cells_agg, one_int, one_bool, one_imm, all_nil, all_cons, aField_eq, fieldGo_ptr, aLoad_eq, loadGo_one, loadGo_row, aPlace_ptr, aPlace_at, dropC_cells, aStore_eq, storeGo_ptr, setC_row, setAll_nil, setAll_cons, aAlloc_eq, aLen_imm, get_push_new, set_push, Option.some.injEq, Nat.reduceEqDiff, Nat.reduceAdd, Nat.reduceLeDiff, Option.map_some, Nat.add_zero, Nat.zero_add, Nat.zero_le, List.length_cons, List.length_nil, List.drop_zero, List.take_succ_cons, List.take_zero, List.set_cons_zero, List.set_cons_succ, List.nil_append, List.cons_append, if_true, if_false, Bool.and_self, Nat.le_refl, ft_47_0, ft_47_1, it_3, it_5, kt_22, lt_3, lt_47, zc_47, zt_3, zt_47, f1, f3, f13, d1, d2, x1, ex, cvt]
    have b2 : ∀ hh : AHeap, aBuildSlice Tryd.prog 22 1 [(0, .agg [.int .i64 kind, .int .i64 t, .int .i64 ep, .int .i64 tx, .int .i64 log, .int .i64 rr.k, .int .i64 rr.v, .int .i64 rr.t, .bool del, .imm offs.length (i64V offs), .imm order.length (i64V order)])] hh = some (.sl hh.n 0 1 1, hh.push (.cells (entE ⟨kind, t, ep, tx, log, rr, del, offs, order⟩) 47 none)) := fun hh => by rw [buildSlice_go sl_22]; rfl
    have kP : ∀ o, Keep h5 (h5.push o) none_ := fun o => Keep.push _ _ _
    have stay : ∀ o, Acc h (h5.push o) 47 11 (f 10) ((F ++ K).flatMap entE) ∧ (h5.push o).get h4.n = .cells (tdC (toldOf F)) 29 none ∧ h4.n < (h5.push o).n := fun o => ⟨acc.on (kP o), (get_push_lt n5).trans g5, by rw [push_n]; omega⟩
    by_cases k1 : 2 ≤ kind
    rotate_left
    · have g1 : decide (2 ≤ kind) = false := decide_eq_false k1
      simp only [wpA_skip, wpA_region, wpA_cond, condI_false, seqQ_normal, blkQ_normal, endI_mk, andThen_normal, goI_out, goI_ops, opsA_nil, opsA_cons, opsA_guardS, gvI_ft, slotAt_zero, slotAt_succ, stepA_move, stepA_assign, stepA_pick, stepA_binOp, thenV_some, pickV_false, eval_tmp, eval_const, put_some, put_none, aBin_add, absV_int, absV_bool, Nat.reduceEqDiff, if_true, if_false, f13, g1, wi]
      exact hid_mk ⟨(i + 1, K), ⟨f1, f2, f3, f9, f11, f12, rfl, hlt.1, hlt.2, by simp only; omega, (stay _).1, (stay _).2.1, (stay _).2.2, id5, hK, hKe⟩, by simp only; omega⟩
    have g1 : decide (2 ≤ kind) = true := decide_eq_true k1
    by_cases k2 : kind ≤ 5
    rotate_left
    · have g2 : decide (kind ≤ 5) = false := decide_eq_false k2
      simp only [wpA_skip, wpA_region, wpA_cond, condI_false, seqQ_normal, blkQ_normal, endI_mk, andThen_normal, goI_out, goI_ops, opsA_nil, opsA_cons, opsA_guardS, gvI_same, gvI_ft, slotAt_zero, slotAt_succ, stepA_move, stepA_assign, stepA_pick, stepA_load, stepA_binOp, stepA_fieldAddr, thenV_some, pickV_true, pickV_false, eval_tmp, eval_const, put_some, put_none, aBin_add, aBin_leq, absV_int, absV_bool, aField_eq, fieldGo_ptr, aLoad_eq, loadGo_one, aPlace_ptr, dropC_cells, get_push_new, Nat.reduceEqDiff, Nat.reduceAdd, Nat.add_zero, Nat.zero_add, Nat.zero_le, List.length_cons, List.length_nil, List.drop_zero, if_true, if_false, ft_47_0, lt_3, f13, g1, g2, wi]
      exact hid_mk ⟨(i + 1, K), ⟨f1, f2, f3, f9, f11, f12, rfl, hlt.1, hlt.2, by simp only; omega, (stay _).1, (stay _).2.1, (stay _).2.2, id5, hK, hKe⟩, by simp only; omega⟩
    have g2 : decide (kind ≤ 5) = true := decide_eq_true k2
    by_cases k3' : ep ≤ e
    rotate_left
    · have g3 : decide (ep ≤ e) = false := decide_eq_false k3'
      simp only [wpA_skip, wpA_region, wpA_cond, condI_false, seqQ_normal, blkQ_normal, endI_mk, andThen_normal, goI_out, goI_ops, opsA_nil, opsA_cons, opsA_guardS, gvI_same, slotAt_zero, slotAt_succ, stepA_move, stepA_assign, stepA_pick, stepA_load, stepA_binOp, stepA_convert, stepA_fieldAddr, thenV_some, thenC_some, pickV_true, eval_tmp, eval_const, put_some, put_none, aBin_add, aBin_leq, aConv_int, absV_int, absV_bool, aField_eq, fieldGo_ptr, aLoad_eq, loadGo_one, aPlace_ptr, dropC_cells, get_push_new, Option.some.injEq, Nat.reduceEqDiff, Nat.reduceAdd, Nat.reduceLeDiff, Nat.add_zero, Nat.zero_add, Nat.zero_le, List.length_cons, List.length_nil, List.drop_zero, List.drop_succ_cons, if_true, if_false, ft_47_0, ft_47_2, it_3, it_5, lt_3, f2, f13, g1, g2, g3, cve, wi]
      exact hid_mk ⟨(i + 1, K), ⟨f1, f2, f3, f9, f11, f12, rfl, hlt.1, hlt.2, by simp only; omega, (stay _).1, (stay _).2.1, (stay _).2.2, id5, hK, hKe⟩, by simp only; omega⟩
    have g3 : decide (ep ≤ e) = true := decide_eq_true k3'
    have wk : IntKind.i64.wrap (((K.length : Nat) : Int) + 1) = (((K ++ [(⟨kind, t, ep, tx, log, rr, del, offs, order⟩ : Ent)]).length : Nat) : Int) := by rw [Go.IntWalk.i64_in _ (by omega)]; simp
    obtain ⟨H5, hH5⟩ : ∃ y, y = h5.push (.cells (entE ⟨kind, t, ep, tx, log, rr, del, offs, order⟩) 47 none) := ⟨_, rfl⟩
    obtain ⟨s1, s2, s3⟩ := stay (.cells (entE ⟨kind, t, ep, tx, log, rr, del, offs, order⟩) 47 none)
    have hHx : h5.push (.cells [.int .i64 kind, .int .i64 t, .int .i64 ep, .int .i64 tx, .int .i64 log, .int .i64 rr.k, .int .i64 rr.v, .int .i64 rr.t, .bool del, .imm offs.length (i64V offs), .imm order.length (i64V order)] 47 none) = H5 := hH5.symm
    have gx : H5.get h5.n = .cells [.int .i64 kind, .int .i64 t, .int .i64 ep, .int .i64 tx, .int .i64 log, .int .i64 rr.k, .int .i64 rr.v, .int .i64 rr.t, .bool del, .imm offs.length (i64V offs), .imm order.length (i64V order)] 47 none := by rw [hH5]; exact get_push_new
    rw [← hH5] at s1 s2 s3
    have hlK : (F ++ K).length ≤ 400 := by rw [List.length_append]; omega
    obtain ⟨s', h6, ea, o6, k6, d6⟩ := append_elemM (P := Tryd.prog) sl_22 (by decide) s1.own (xs := entE ⟨kind, t, ep, tx, log, rr, del, offs, order⟩) rfl rfl (fun m hm => by
      change m * 11 = _ + 11 at hm
      rw [rows_len entE_len] at hm
      exact ⟨by simp only [lim]; omega, by simp only [lim]; omega⟩)
    have a6 := s1.step o6 k6 d6
    have n6 := k6.n
    rw [hHx]
    simp only [wpA_region, wpA_seq, wpA_cond, condI_true, seqQ_normal, blkQ_normal, endI_mk, andThen_normal, goI_out, goI_ops, opsA_nil, opsA_cons, opsA_guardS, gvI_same, slotAt_zero, slotAt_succ, stepA_move, stepA_assign, stepA_pick, stepA_buildSlice, stepA_load, stepA_binOp, stepA_convert, stepA_fieldAddr, stepA_append, thenV_some, thenC_some, thenH_some, pickV_true, eval_tmp, eval_const, put_some, put_none, aBin_add, aBin_leq, aConv_int, absV_int, absV_bool, aField_eq, fieldGo_ptr, aLoad_eq, loadGo_one, loadGo_row, aPlace_ptr, dropC_cells, Option.some.injEq, Nat.reduceEqDiff, Nat.reduceAdd, Nat.reduceLeDiff, List.map_cons, List.map_nil, Nat.add_zero, Nat.zero_add, Nat.zero_le, List.length_cons, List.length_nil, List.drop_zero, List.drop_succ_cons, List.take_succ_cons, List.take_nil, if_true, if_false, Nat.le_refl, ft_47_0, ft_47_2, it_3, it_5, lt_3, lt_47, f2, f12, f13, g1, g2, g3, cve, gx, b2, ea, wk, wi]
    refine hid_mk ⟨(i + 1, K ++ [⟨kind, t, ep, tx, log, rr, del, offs, order⟩]), ⟨f1, f2, f3, f9, f11, rfl, rfl, hlt.1, hlt.2, by simp; omega, a6.conv ?_, (k6.get h4.n (by omega) (fun hh => id5 hh)).trans s2, by omega, ?_, fun x hx => ?_, fun x hx => ?_⟩, by simp only; omega⟩
    · rw [← List.append_assoc, List.flatMap_append]; simp
    · intro hh
      rcases d6 with d | d
      · exact id5 (d ▸ hh)
      · have := d _ hh; omega
    · rcases List.mem_append.1 hx with hx | hx
      · exact hK x hx
      · rw [List.mem_singleton.1 hx]; exact ⟨rfl, ⟨k1, k2⟩, k3'⟩
    · rcases List.mem_append.1 hx with hx | hx
      · exact hKe x hx
      · rw [List.mem_singleton.1 hx]; exact hxl
  · have d1 : (decide ((i : Int) < ((m0.length : Nat) : Int)) = true ∧ decide ((i : Int) < 100) = false) ∨ decide ((i : Int) < ((m0.length : Nat) : Int)) = false := by
      by_cases hh : i < m0.length
      · exact .inl ⟨decide_eq_true (by omega), decide_eq_false (by omega)⟩
      · exact .inr (decide_eq_false (by omega))
    rcases d1 with ⟨d1, d2⟩ | d1
    all_goals
      first | simp only [wpA_region, wpA_seq, wpA_cond, wpA_exit, condI_false, seqQ_normal, seqQ_exit, blkQ_exit, endI_mk, goE, andThen_exit, goI_out, goI_ops, opsA_nil, opsA_cons, opsA_guardS, gvI_same, slotAt_zero, slotAt_succ, stepA_move, stepA_pick, stepA_binOp, stepA_len, stepA_call, thenV_some, pickV_true, eval_tmp, eval_const, put_some, aBin_lss, absV_int, absV_bool, aLen_imm, Nat.reduceEqDiff, List.map_cons, List.map_nil, if_true, if_false, kt_22, f3, f13, d1, d2] | simp only [wpA_region, wpA_seq, wpA_cond, wpA_exit, condI_false, seqQ_normal, seqQ_exit, blkQ_exit, endI_mk, goE, andThen_exit, goI_out, goI_ops, opsA_nil, opsA_cons, opsA_guardS, gvI_ft, slotAt_zero, slotAt_succ, stepA_move, stepA_pick, stepA_binOp, stepA_len, stepA_call, thenV_some, pickV_false, eval_tmp, eval_const, put_some, aBin_lss, absV_bool, aLen_imm, Nat.reduceEqDiff, List.map_cons, List.map_nil, if_true, if_false, kt_22, f3, f13, d1]
      have hlK : (F ++ K).length ≤ 400 := by rw [List.length_append]; omega
      have eK : ∀ x ∈ F ++ K, eLen x := fun x hx => (List.mem_append.1 hx).elim (heF x) (hKe x)
      refine callI_pure cal12 (pReadO (F ++ K) (by omega) eK h5 (by unfold KU; rw [acc.keep.glob]; exact hu) acc.own) ?_
      have hst := told_st (hsame K hK)
      have hT : tdC (toldOf (F ++ K)) = [.imm (logsOf F).length ((logsOf F).flatMap logC), .imm (tasksOf F).length ((tasksOf F).flatMap tvC), .int .i64 ((F.length + K.length : Nat) : Int)] := by
        unfold toldOf tdC
        simp only [hst.1, hst.2, List.length_append]
      have wl := wrap_len F.length K.length (by rw [List.length_append] at hlK; omega)
      obtain ⟨H6, hH6⟩ : ∃ y, y = h5.push (.cells (tdC (toldOf F)) 29 none) := ⟨_, rfl⟩
      have hHx : h5.push (.cells [.imm (logsOf F).length ((logsOf F).flatMap logC), .imm (tasksOf F).length ((tasksOf F).flatMap tvC), .int .i64 ((F.length : Nat) : Int)] 29 none) = H6 := hH6.symm
      have g6 : H6.get h5.n = .cells (tdC (toldOf F)) 29 none := by rw [hH6]; exact get_push_new
      have g64 : H6.get h4.n = .cells (tdC (toldOf F)) 29 none := by rw [hH6]; exact (get_push_lt n5).trans g5
      rw [hT]
      simp only [wpA_region, wpA_seq, seqQ_normal, goI_out, goI_ops, opsA_nil, opsA_cons, opsA_guardS, gvI_same, slotAt_zero, slotAt_succ, stepA_move, stepA_alloc, stepA_load, stepA_store, stepA_binOp, stepA_fieldAddr, thenV_some, thenH_some, thenS_some, eval_tmp, put_some, put_none, aBin_sub, cells_int, cells_agg, one_int, one_imm, all_nil, all_cons, aField_eq, fieldGo_ptr, aLoad_eq, loadGo_one, aPlace_ptr, dropC_cells, aStore_eq, storeGo_ptr, setC_row, setAll_nil, setAll_cons, aAlloc_eq, get_push_new, set_push, Nat.reduceEqDiff, Nat.reduceAdd, Nat.reduceLeDiff, Option.map_some, Nat.zero_add, List.length_cons, List.length_nil, List.drop_zero, List.drop_succ_cons, List.set_cons_zero, List.set_cons_succ, if_true, if_false, Bool.and_self, Nat.le_refl, ft_29_2, lt_29, lt_3, zc_29, zt_29, zt_3, f9, f11, f12, wl]
      rw [hHx]
      have d0 : ∀ t : TD, dropC (AObj.cells (tdC t) 29 none) 0 = some (tdC t) := fun _ => rfl
      have tk : ∀ t : TD, (tdC t).take 3 = tdC t := fun _ => rfl
      have tl : ∀ t : TD, (tdC t).length = 3 := fun _ => rfl
      have okF := tdOk F (by omega)
      simp only [goI_ops, opsA_guardS, gvI_same, slotAt_zero, slotAt_succ, stepA_load, stepA_call, thenV_some, eval_tmp, put_some, put_none, aLoad_eq, loadGo_row, aPlace_ptr, Nat.reduceEqDiff, List.map_cons, List.map_nil, if_true, if_false, Nat.le_refl, lt_29, g64, g6, d0, tk, tl]
      refine callI_pure cal11 (pSameTold (toldOf F) okF H6) ?_
      simp only [goI_ops, opsA_cons, opsA_guardS, gvI_same, slotAt_zero, slotAt_succ, stepA_move, stepA_pick, stepA_load, stepA_convert, stepA_call, thenV_some, thenC_some, pickV_true, eval_tmp, eval_const, put_some, put_none, aConv_int, absV_bool, aLoad_eq, loadGo_row, aPlace_ptr, Option.some.injEq, Nat.reduceEqDiff, List.map_cons, List.map_nil, if_true, if_false, Nat.le_refl, it_3, it_5, lt_29, f1, f11, g64, d0, tk, tl, cvt]
      refine callI_pure cal18 (pViewTask (toldOf F) okF t H6) ?_
      have eT : taskAt (toldOf F).tasks t = tvJ t (jobOf (stOf F) t) := taskAt_told F t
      rw [eT]
      generalize jobOf (stOf F) t = J at hfst
      have ey : tvC (tvJ t J) = [.int .i64 t, .int .i64 J.ep, .int .i64 J.tx, .imm J.offs.length (i64V J.offs), .imm J.ord.length (i64V J.ord), .int .i64 (J.opn.length : Nat)] := rfl
      have g9 : decide (e < J.ep) = true := decide_eq_true hfst.1
      simp only [wpA_ret, seqQ_normal, endI_mk, goI_out, goI_ops, opsA_nil, opsA_cons, opsA_guardS, gvI_same, slotAt_zero, slotAt_succ, stepA_move, stepA_assign, stepA_pick, stepA_binOp, stepA_convert, stepA_field, thenV_some, thenC_some, pickV_true, eval_tmp, eval_const, put_some, put_none, aBin_gtr, aConv_int, absV_bool, aFieldOf_eq, partGo_one, List.getElem?_cons_zero, List.getElem?_cons_succ, Option.some.injEq, Nat.reduceEqDiff, if_true, if_false, it_3, it_5, pt_41_1, f2, ey, cve, g9, retA_ret, Tryd.results5, resultsA_1]
      exact hid_mk rfl
end Go.Proofs.YtcdpepdjeneelaaDoor.Pk
