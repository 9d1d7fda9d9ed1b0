/-
  What functions of the program do, told of abstract states. Conditions: as each theorem says.
-/
import Derived.Test.YtlbekgogjlchjaaSlX
namespace Go.Proofs.Ytlbekgogjlchjaa.Pk
open Go Go.Proofs Go.Proofs.Ytlbekgogjlchjaa.Ab
set_option linter.unusedVariables false
set_option linter.unusedSimpArgs false
theorem nw_no {room ep at_ : Int} {b : List Nat} {l : Pays} (h : (nw room ep at_ b l).2 ≠ 0) : (nw room ep at_ b l).1 = l := by
  unfold nw at h ⊢
  split
  · rfl
  · rename_i hw
    rw [hw] at h
    simp only at h ⊢
    split
    · rename_i hP; rw [if_pos hP] at h; exact absurd rfl h
    · rfl
theorem nw_ep {room ep at_ : Int} {b : List Nat} {l : Pays} (h : (nw room ep at_ b l).2 = 0) : epOf l ≤ ep := by
  unfold nw at h
  by_cases hl : ep < (redoL l).1
  · have : wrI (redoL l) ep at_ b = some 2 ∨ wrI (redoL l) ep at_ b = some 7 := by
      unfold wrI
      split
      · exact .inl rfl
      · exact .inr rfl
    rcases this with e | e <;> rw [e] at h <;> cases h
  · unfold epOf; omega
theorem nseal_iff {room ep : Int} {l : Pays} (h0 : 0 ≤ epOf l) (h6 : (used l : Int) + 60 ≤ room) : ((nseal room ep l).2 == 0) = (decide (epOf l < ep) && decide (ep ≤ 1048576)) ∧ ((nseal room ep l).2 = 0 → epOf (nseal room ep l).1 = ep) ∧ used (nseal room ep l).1 ≤ used l + 54 ∧ 0 ≤ epOf (nseal room ep l).1 := by
  by_cases h : epOf l < ep ∧ ep ≤ 1048576
  · obtain ⟨a, b, c⟩ := nseal_fine (room := room) h.1 ⟨by omega, h.2⟩ h6
    refine ⟨by rw [a, decide_eq_true h.1, decide_eq_true h.2]; rfl, fun _ => c, b, by omega⟩
  · have hs : selI (redoL l) ep = some 2 ∨ selI (redoL l) ep = some 7 := by
      unfold selI
      split
      · exact .inl rfl
      · rename_i hm
        have hm : mayEp ep = true := by simpa using hm
        unfold mayEp at hm
        simp only [Bool.and_eq_true, decide_eq_true_eq] at hm
        rw [if_pos (by unfold epOf at h; omega)]
        exact .inr rfl
    have hf : (decide (epOf l < ep) && decide (ep ≤ 1048576)) = false := by
      rw [Bool.and_eq_false_iff, decide_eq_false_iff_not, decide_eq_false_iff_not]
      omega
    rw [hf]
    unfold nseal
    rcases hs with e | e <;> rw [e]
    · exact ⟨rfl, (fun hh => by simp at hh), Nat.le_add_right _ _, h0⟩
    · exact ⟨rfl, (fun hh => by simp at hh), Nat.le_add_right _ _, h0⟩
theorem nw_used {room ep at_ : Int} {b : List Nat} {l : Pays} : used (nw room ep at_ b l).1 ≤ used l + 54 + 2048 := by
  unfold nw
  split
  · exact Nat.le_trans (Nat.le_add_right _ 54) (Nat.le_add_right _ _)
  · rename_i hw
    split
    · obtain ⟨r1, r2, r3⟩ := wr_rng (wr_ok hw)
      have r3' : b.length ≤ 2048 := r3
      have ho : okAct ⟨1, ep, at_, b⟩ := ⟨by simp only; omega, by simp only; omega, by simp only; omega, r3⟩
      have hF := fr_len _ ho
      simp only at hF ⊢
      rw [used_snoc]
      omega
    · exact Nat.le_trans (Nat.le_add_right _ 54) (Nat.le_add_right _ _)
theorem readI_at (l : Pays) (at_ : Int) : readI (redoL l) at_ = match cellAt l at_ with | some c => (c, 0) | none => (⟨0, 0, []⟩, 6) := rfl
/-- What is told of a slot ahead of a write, and behind it. -/
theorem write_told (room ep at_ : Int) (b : List Nat) (l : Pays) (c c2 : Cel) (e e2 : Int) (h1 : readI (redoL l) at_ = (c, e)) (h2 : readI (redoL (nw room ep at_ b l).1) at_ = (c2, e2)) :
    ((nw room ep at_ b l).2 = 0 → epOf l ≤ ep ∧ e2 = 0 ∧ c2.epoch = ep ∧ c2.bytes = b) ∧ (e = 0 → e2 = 0 ∧ c.epoch ≤ c2.epoch ∧ (c2.epoch = c.epoch → c2.bytes = c.bytes)) ∧ ((nw room ep at_ b l).2 ≠ 0 → e2 = e ∧ c2.epoch = c.epoch) ∧ epOf (nw room ep at_ b l).1 = epOf l := by
  obtain ⟨p1, _, p3, p4⟩ := nw_post room ep at_ b l
  rw [readI_at] at h1 h2
  refine ⟨fun hz => ?_, fun he => ?_, fun hn => ?_, p1⟩
  · obtain ⟨d, hd, d1, d2⟩ := p4 hz
    rw [hd] at h2
    simp only [Prod.mk.injEq] at h2
    obtain ⟨rfl, rfl⟩ := h2
    exact ⟨nw_ep hz, rfl, d1, d2⟩
  · cases hc : cellAt l at_ with
    | none => rw [hc] at h1; simp only [Prod.mk.injEq] at h1; omega
    | some d =>
      rw [hc] at h1
      simp only [Prod.mk.injEq] at h1
      obtain ⟨rfl, rfl⟩ := h1
      rcases p3 with q | ⟨q, q2⟩
      · rw [q, hc] at h2
        simp only [Prod.mk.injEq] at h2
        obtain ⟨rfl, rfl⟩ := h2
        exact ⟨rfl, Int.le_refl _, fun _ => rfl⟩
      · rw [q] at h2
        simp only [Prod.mk.injEq] at h2
        obtain ⟨rfl, rfl⟩ := h2
        have := q2 d hc
        exact ⟨rfl, by simp only; omega, fun hh => by simp only at hh; omega⟩
  · rw [nw_no hn] at h2
    rw [h1] at h2
    simp only [Prod.mk.injEq] at h2
    obtain ⟨rfl, rfl⟩ := h2
    exact ⟨rfl, rfl⟩
set_option maxHeartbeats 4000000 in
set_option maxRecDepth 20000 in
theorem slotSealed (ds : List DeedS) (hd : ds.length ≤ 2 ^ 47) (hb : ∀ d ∈ ds, (∀ x ∈ d.b, x < 256) ∧ d.b.length ≤ 2 ^ 47) (h : AHeap) : SCalls Try.prog 4 [.imm ds.length (ds.flatMap dsE)] h (fun r h' => r = .bool true) := by
  refine SCalls.enterI (c := _) Try.func4 rfl (by kernel_rfl) (by simp) ?_
  simp only [wpA_region, wpA_seq, seqQ_normal, goI_out, goI_ops, opsA_nil, opsA_cons, stepA_assign, stepA_call, eval_const, absV_bool, List.map_nil]
  refine callI_pure cal13 (shown8 h) ?_
  simp only [wpA_region, wpA_seq, seqQ_normal, goI_out, goI_ops, opsA_nil, opsA_cons, stepA_assign, stepA_call, eval_tmp, eval_const, put_some, enterF_succ, absV_int, Nat.reduceEqDiff, List.map_cons, List.map_nil, if_true, if_false]
  refine callI_of cal14 (dNew h 1048576 (by decide) (by decide)) fun r1 h1 ⟨e1, d1, k1⟩ => ?_
  subst e1
  simp only [wpA_skip, wpA_region, wpA_seq, wpA_cond, condI_false, seqQ_normal, goI_out, goI_ops, opsA_nil, opsA_cons, opsA_guardS, gvI_same, slotAt_zero, slotAt_succ, stepA_move, stepA_assign, stepA_pick, stepA_binOp, stepA_extract, stepA_call, thenV_some, pickV_false, extV_zero, extV_succ, eval_tmp, eval_const, put_some, enterF_succ, aBin_neq, ptr_nil_eql, absV_int, absV_bool, absV_pnil, bne_self_eq_false, Nat.reduceEqDiff, List.map_cons, List.map_nil, if_true, if_false, kt_24]
  refine callI_of cal15 (nbOpen (l := []) d1 NOk.nil (by simp)) fun r2 h2 ⟨r0, e2, n0, i0, _, _⟩ => ?_
  subst e2
  simp only [wpA_region, wpA_seq, wpA_block, wpA_loop, seqQ_normal, goI_out, goI_ops, opsA_nil, opsA_cons, stepA_assign, eval_tmp, eval_const, put_some, enterF_succ, absV_int, Nat.reduceEqDiff, if_true, if_false]
  refine SWp.loopG (α := Nat × NR × Pays) (fun x f h' => f 0 = .imm ds.length (ds.flatMap dsE) ∧ f 3 = .bool true ∧ f 6 = .ptr x.2.1.a 0 ∧ f 7 = .int .i64 (x.1 : Nat) ∧ x.1 ≤ 80 ∧ NdB h' 1048576 x.2.1 x.2.2 ∧ used x.2.2 ≤ x.1 * 2102 ∧ 0 ≤ epOf x.2.2) (fun x => 80 - x.1) (0, r0, [])
    ⟨rfl, rfl, rfl, rfl, Nat.zero_le _, n0, Nat.le_refl _, Int.le_refl _⟩ ?_
  rintro ⟨i, r, l⟩ f h' ⟨f0, f3, f6, f7, hi, d, hu, hep⟩
  simp only at f6 f7 hi d hu hep
  refine wpI_sound (by kernel_rfl) ?_
  by_cases hlt : i < ds.length ∧ i < 80
  · obtain ⟨hlt, hlt2⟩ := hlt
    have c1 : decide ((i : Int) < ((ds.length : Nat) : Int)) = true := decide_eq_true (by omega)
    have c2 : decide ((i : Int) < 80) = true := decide_eq_true (by omega)
    have hw : IntKind.i64.wrap ((i : Int) + 1) = ((i + 1 : Nat) : Int) := by rw [Go.IntWalk.i64_in _ (by omega)]; rfl
    have x1 := ds_ix hlt
    obtain ⟨hbd, hbl⟩ := hb _ (List.getElem_mem hlt)
    have ld := ds_ld
    have cc := ds_cells
    have st := ds_store
    have D0 := ds_d0
    have D1 := ds_d1
    have D2 := ds_d2
    have D5 := ds_d5
    have C1 := cl_d1
    have C2 := cl_d2
    have CS := cl_st
    have CC := cl_cc
    generalize ds[i] = z at x1 hbd hbl
    have kP : Keep h' (h'.push (.cells (dsE z) 32 none)) none_ := Keep.push _ _ _
    have dP := d.keep kP (fun _ _ hh => hh)
    have gz : (h'.push (.cells (dsE z) 32 none)).get h'.n = .cells (dsE z) 32 none := get_push_new
    have nz : ¬ NP r h'.n := fun hh => by have := d.lt _ hh; omega
    have lz : h'.n < (h'.push (.cells (dsE z) 32 none)).n := Nat.lt_succ_self _
    simp only [wpA_skip, wpA_region, wpA_seq, wpA_cond, wpA_block, condI_true, seqQ_normal, goI_out, goI_ops, opsA_nil, opsA_cons, opsA_guardS, gvI_same, slotAt_zero, slotAt_succ, stepA_move, stepA_pick, stepA_alloc, stepA_load, stepA_store, stepA_binOp, stepA_fieldAddr, stepA_indexAddr, stepA_len, stepA_call, thenV_some, thenH_some, thenS_some, pickV_true, eval_tmp, eval_const, put_some, put_none, aBin_lss, absV_int, absV_bool, aField_eq, fieldGo_ptr, aLoad_eq, loadGo_one, loadGo_row, aPlace_ptr, aPlace_at, aStore_eq, storeGo_ptr, aAlloc_eq, aLen_imm, get_push_new, set_push, Nat.reduceEqDiff, reduceCtorEq, List.map_cons, List.map_nil, Option.map_some, Nat.zero_add, if_true, if_false, ft_32_2, kt_22, lt_3, lt_32, zc_32, zt_32, f0, f6, f7, c1, c2, x1, ld, cc, st, gz, D2]
    generalize h'.push (.cells (dsE z) 32 none) = hP at kP dP gz lz ⊢
    generalize h'.n = zb at gz nz lz ⊢
    refine callI_pure cal20 (ndRead dP.nd0 z.at_) ?_
    have hcb := readI_ok dP.ok z.at_
    generalize hR : readI (redoL l) z.at_ = R at hcb
    obtain ⟨c, e⟩ := R
    simp only at hcb
    have k1 : Keep hP (hP.push (.cells (celE c) 39 none)) none_ := Keep.push _ _ _
    have d1 := dP.keep k1 (fun _ _ hh => hh)
    have gz1 : (hP.push (.cells (celE c) 39 none)).get zb = .cells (dsE z) 32 none := (get_push_lt lz).trans gz
    have ga1 : (hP.push (.cells (celE c) 39 none)).get hP.n = .cells (celE c) 39 none := get_push_new
    have na1 : ¬ NP r hP.n := fun hh => by have := dP.lt _ hh; omega
    have la1 : hP.n < (hP.push (.cells (celE c) 39 none)).n := Nat.lt_succ_self _
    have lz1 : zb < (hP.push (.cells (celE c) 39 none)).n := Nat.lt_trans lz la1
    simp only [wpA_region, wpA_seq, seqQ_normal, goI_out, goI_ops, opsA_nil, opsA_cons, stepA_move, stepA_assign, stepA_alloc, stepA_store, stepA_extract, stepA_call, thenV_some, thenH_some, thenS_some, extV_zero, extV_succ, eval_tmp, put_some, put_none, aStore_eq, storeGo_ptr, aAlloc_eq, get_push_new, set_push, Nat.reduceEqDiff, List.map_cons, List.map_nil, Option.map_some, if_true, if_false, zc_39, zt_39, f6, CS, CC]
    generalize hP.push (.cells (celE c) 39 none) = h1 at k1 d1 gz1 ga1 la1 lz1 ⊢
    generalize hP.n = ab at ga1 na1 la1 ⊢
    have hE1 := ndEpoch d1.nd0
    refine callI_pure cal18 hE1 ?_
    by_cases k2 : z.kind = 2
    · have b1 : (z.kind == 2) = true := by simp [k2]
      simp only [wpA_region, wpA_seq, wpA_cond, condI_true, seqQ_normal, goI_out, goI_ops, opsA_nil, opsA_cons, stepA_move, stepA_assign, stepA_load, stepA_binOp, stepA_fieldAddr, stepA_call, thenV_some, eval_tmp, eval_const, put_some, put_none, aBin_eql, absV_int, aField_eq, fieldGo_ptr, aLoad_eq, loadGo_one, aPlace_ptr, Nat.reduceEqDiff, List.map_cons, List.map_nil, Nat.add_zero, Nat.zero_add, if_true, if_false, ft_32_0, ft_32_1, lt_3, f6, gz1, D0, D1, b1]
      refine callI_of cal16 (nbSealI d1 z.epoch) fun x h2 ⟨out, ex, _, r2, d2, st2⟩ => ?_
      subst ex
      obtain ⟨gz2, nz2, lz2⟩ := st2.get lz1 nz
      rw [gz1] at gz2
      obtain ⟨q1, q2, q3, q4⟩ := nseal_iff (room := 1048576) (ep := z.epoch) (l := l) hep (by omega)
      have sa := st2.1
      rw [← sa] at f6
      have hE2 := ndEpoch d2.nd0
      have wdec : epOf l = (redoL l).1 := rfl
      generalize (nseal 1048576 z.epoch l).2 = g at q1 q2 ⊢
      generalize (nseal 1048576 z.epoch l).1 = l2 at d2 q2 q3 q4 hE2
      rw [wdec] at q1
      by_cases hg : g = 0
      · have hE2' : (redoL l2).1 = z.epoch := q2 hg
        subst hg
        have t0 : ((0 : Int) == 0) = true := rfl
        rw [t0] at q1
        have q1' := q1.symm
        rw [Bool.and_eq_true] at q1'
        obtain ⟨p1, p2⟩ := q1'
        rw [hE2'] at hE2
        have pz : (z.epoch != z.epoch) = false := by simp
        simp only [wpA_seq, wpA_draw, seqQ_normal, goI_out, goI_ops, opsA_nil, opsA_cons, stepA_move, stepA_assign, stepA_extract, thenV_some, extV_zero, extV_succ, eval_tmp, put_some, put_none, Nat.reduceEqDiff, if_true, if_false]
        refine SWp.drawnS none_ [] (.q 0 (.q 1 (.q 2 (.q 3 (.q 4 (.q 5 (.q 6 (.q 7 (.q 8 (.q 9 (.q 10 (.q 11 (.q 12 (.q 13 (.q 14 (.q 15 (.q 16 (.c 17 (.q 18 (.q 19 (.q 20 (.q 21 (.q 22 .done))))))))))))))))))))))) (by kernel_rfl) (by kernel_rfl) (by kernel_rfl) ?_
        simp only [siI_q, sqI_some, mOk_none', implies_true, qI_nil, qI_cons, qI_guard, qgI_same, thenQ_some, q_move, q_pick, q_load, q_binOp, q_fieldAddr, goI_mk, slotAt_zero, slotAt_succ, pickV_true, eval_tmp, eval_const, put_some, put_none, aBin_eql, aBin_leq, aBin_gtr, aBin_bool_neq, absV_int, absV_bool, aField_eq, fieldGo_ptr, aLoad_eq, loadGo_one, aPlace_ptr, List.getElem?_cons_zero, List.getElem?_cons_succ, bne_self_eq_false, beq_self_eq_true, Nat.reduceEqDiff, Nat.zero_add, true_and, if_true, if_false, bt_4, ft_32_1, lt_3, f6, gz2, D1, p1, p2]
        have hEp : ∀ h', Keep h2 h' none_ ∨ h' = h2 → Ab.Pure Try.prog 18 [.ptr r2.a 0] h' (.int .i64 z.epoch) := fun h' hk => by
          rcases hk with hk | hk
          · have := ndEpoch (d2.keep hk fun _ _ hh => hh).nd0
            rw [hE2'] at this
            exact this
          · subst hk; exact hE2
        refine siI_c rfl rfl rfl hEp ?_
        simp only [siI_done, siI_q, sqI_some, mOk_none', implies_true, qI_nil, qI_cons, qI_guard, qgI_same, thenQ_some, q_pick, q_load, q_binOp, q_fieldAddr, wpA_skip, wpA_region, wpA_seq, wpA_cond, wpA_exit, wpA_ret, condI_false, seqQ_normal, seqQ_exit, blkQ_exit, endI_mk, goE, andThen_normal, andThen_exit, goI_out, goI_ops, goI_mk, opsA_nil, opsA_cons, slotAt_zero, slotAt_succ, stepA_move, stepA_assign, stepA_binOp, thenV_some, pickV_true, pickV_false, eval_tmp, eval_const, put_some, put_none, aBin_add, aBin_neq, absV_int, absV_bool, aField_eq, fieldGo_ptr, aLoad_eq, loadGo_one, aPlace_ptr, List.getElem?_cons_zero, List.getElem?_cons_succ, bne_self_eq_false, Nat.reduceEqDiff, reduceCtorEq, Nat.zero_add, true_and, if_true, if_false, ft_32_1, lt_3, f3, f7, gz2, D1, hw]
        exact hid_mk ⟨(i + 1, r2, l2), ⟨f0, f3, f6, rfl, by simp only; omega, d2, by simp only; omega, q4⟩, by simp only; omega⟩
      · have t0 : (g == 0) = false := by simp [hg]
        rw [t0] at q1
        simp only [wpA_seq, wpA_draw, seqQ_normal, goI_out, goI_ops, opsA_nil, opsA_cons, stepA_move, stepA_assign, stepA_extract, thenV_some, extV_zero, extV_succ, eval_tmp, put_some, put_none, Nat.reduceEqDiff, if_true, if_false]
        refine SWp.drawnS none_ [] (.q 0 (.q 1 (.q 2 (.q 3 (.q 4 (.q 5 (.q 6 (.q 7 (.q 8 (.q 9 (.q 10 (.q 11 (.q 12 (.q 13 (.q 14 (.q 15 (.q 16 (.c 17 (.q 18 (.q 19 (.q 20 (.q 21 (.q 22 .done))))))))))))))))))))))) (by kernel_rfl) (by kernel_rfl) (by kernel_rfl) ?_
        by_cases p1 : (redoL l).1 < z.epoch
        · have p1' : decide ((redoL l).1 < z.epoch) = true := decide_eq_true p1
          rw [p1', Bool.true_and] at q1
          have p2 := q1.symm
          simp only [siI_q, sqI_some, mOk_none', implies_true, qI_nil, qI_cons, qI_guard, qgI_same, qgI_ft, thenQ_some, q_move, q_pick, q_load, q_binOp, q_fieldAddr, goI_mk, slotAt_zero, slotAt_succ, pickV_true, eval_tmp, eval_const, put_some, put_none, aBin_eql, aBin_leq, aBin_gtr, aBin_bool_neq, absV_int, absV_bool, aField_eq, fieldGo_ptr, aLoad_eq, loadGo_one, aPlace_ptr, List.getElem?_cons_zero, List.getElem?_cons_succ, bne_self_eq_false, Nat.reduceEqDiff, Nat.zero_add, true_and, if_true, if_false, bt_4, ft_32_1, lt_3, gz2, D1, t0, p1', p2]
          refine siI_cskip rfl rfl ?_
          simp only [siI_done, siI_q, sqI_some, mOk_none', implies_true, qI_nil, qI_cons, qI_guard, qgI_same, qgI_ft, thenQ_some, q_pick, wpA_skip, wpA_region, wpA_seq, wpA_cond, wpA_exit, wpA_ret, condI_false, seqQ_normal, seqQ_exit, blkQ_exit, endI_mk, goE, andThen_normal, andThen_exit, goI_out, goI_ops, goI_mk, opsA_nil, opsA_cons, slotAt_zero, slotAt_succ, stepA_move, stepA_assign, stepA_binOp, thenV_some, pickV_false, eval_tmp, eval_const, put_some, put_none, aBin_add, absV_int, absV_bool, List.getElem?_cons_zero, List.getElem?_cons_succ, Nat.reduceEqDiff, reduceCtorEq, true_and, if_true, if_false, f3, f7, hw]
          exact hid_mk ⟨(i + 1, r2, l2), ⟨f0, f3, f6, rfl, by simp only; omega, d2, by simp only; omega, q4⟩, by simp only; omega⟩
        · have p1' : decide ((redoL l).1 < z.epoch) = false := decide_eq_false p1
          simp only [siI_q, sqI_some, mOk_none', implies_true, qI_nil, qI_cons, qI_guard, qgI_same, qgI_ft, thenQ_some, q_move, q_pick, q_load, q_binOp, q_fieldAddr, goI_mk, slotAt_zero, slotAt_succ, pickV_false, eval_tmp, eval_const, put_some, put_none, aBin_eql, aBin_gtr, aBin_bool_neq, absV_int, absV_bool, aField_eq, fieldGo_ptr, aLoad_eq, loadGo_one, aPlace_ptr, List.getElem?_cons_zero, List.getElem?_cons_succ, bne_self_eq_false, Nat.reduceEqDiff, Nat.zero_add, true_and, if_true, if_false, bt_4, ft_32_1, lt_3, gz2, D1, t0, p1']
          refine siI_cskip rfl rfl ?_
          simp only [siI_done, siI_q, sqI_some, mOk_none', implies_true, qI_nil, qI_cons, qI_guard, qgI_same, qgI_ft, thenQ_some, q_pick, wpA_skip, wpA_region, wpA_seq, wpA_cond, wpA_exit, wpA_ret, condI_false, seqQ_normal, seqQ_exit, blkQ_exit, endI_mk, goE, andThen_normal, andThen_exit, goI_out, goI_ops, goI_mk, opsA_nil, opsA_cons, slotAt_zero, slotAt_succ, stepA_move, stepA_assign, stepA_binOp, thenV_some, pickV_false, eval_tmp, eval_const, put_some, put_none, aBin_add, absV_int, absV_bool, List.getElem?_cons_zero, List.getElem?_cons_succ, Nat.reduceEqDiff, reduceCtorEq, true_and, if_true, if_false, f3, f7, hw]
          exact hid_mk ⟨(i + 1, r2, l2), ⟨f0, f3, f6, rfl, by simp only; omega, d2, by simp only; omega, q4⟩, by simp only; omega⟩
    · have b1 : (z.kind == 2) = false := by simp [k2]
      simp only [wpA_skip, wpA_region, wpA_seq, wpA_cond, condI_false, seqQ_normal, goI_out, goI_ops, opsA_nil, opsA_cons, stepA_move, stepA_assign, stepA_load, stepA_binOp, stepA_fieldAddr, stepA_call, thenV_some, eval_tmp, eval_const, put_some, put_none, aBin_eql, absV_int, aField_eq, fieldGo_ptr, aLoad_eq, loadGo_one, aPlace_ptr, Nat.reduceEqDiff, List.map_cons, List.map_nil, Nat.add_zero, Nat.zero_add, if_true, if_false, ft_32_0, ft_32_1, ft_32_2, ft_32_5, lt_3, lt_30, f6, gz1, D0, D1, D2, D5, b1]
      refine callI_of cal17 (nbWrite d1 z.epoch z.at_ z.b hbd (by omega)) fun x h2 ⟨ex, r2, d2, st2⟩ => ?_
      subst ex
      obtain ⟨gz2, nz2, lz2⟩ := st2.get lz1 nz
      rw [gz1] at gz2
      obtain ⟨ga2, na2, la2⟩ := st2.get la1 na1
      rw [ga1] at ga2
      have sa := st2.1
      rw [← sa] at f6
      have hus := nw_used (room := 1048576) (ep := z.epoch) (at_ := z.at_) (b := z.b) (l := l)
      have hcb2 := readI_ok d2.ok z.at_
      have hR2d := ndRead d2.nd0 z.at_
      have wt := write_told 1048576 z.epoch z.at_ z.b l c
      generalize (nw 1048576 z.epoch z.at_ z.b l).2 = g at wt ⊢
      generalize (nw 1048576 z.epoch z.at_ z.b l).1 = l2 at d2 hus hcb2 hR2d wt
      generalize hR2 : readI (redoL l2) z.at_ = R2 at hcb2 hR2d wt
      obtain ⟨cc2, ee2⟩ := R2
      obtain ⟨wt1, wt2, wt3, wt4⟩ := wt cc2 e ee2 hR rfl
      simp only at hcb2 hR2d
      have k3 : Keep h2 (h2.push (.cells (celE cc2) 39 none)) none_ := Keep.push _ _ _
      have d3 := d2.keep k3 (fun _ _ hh => hh)
      have gz3 : (h2.push (.cells (celE cc2) 39 none)).get zb = .cells (dsE z) 32 none := (get_push_lt lz2).trans gz2
      have ga3 : (h2.push (.cells (celE cc2) 39 none)).get ab = .cells (celE c) 39 none := (get_push_lt la2).trans ga2
      have gi3 : (h2.push (.cells (celE cc2) 39 none)).get h2.n = .cells (celE cc2) 39 none := get_push_new
      simp only [wpA_region, wpA_seq, seqQ_normal, goI_out, goI_ops, opsA_nil, opsA_cons, stepA_move, stepA_assign, stepA_load, stepA_fieldAddr, stepA_call, thenV_some, eval_tmp, put_some, put_none, aField_eq, fieldGo_ptr, aLoad_eq, loadGo_one, aPlace_ptr, Nat.reduceEqDiff, List.map_cons, List.map_nil, Nat.zero_add, if_true, if_false, ft_32_2, lt_3, f6, gz2, D2]
      refine callI_pure cal20 hR2d ?_
      simp only [wpA_region, wpA_seq, seqQ_normal, goI_out, goI_ops, opsA_nil, opsA_cons, opsA_guardS, slotAt_zero, slotAt_succ, stepA_move, stepA_assign, stepA_alloc, stepA_store, stepA_binOp, stepA_extract, thenV_some, thenH_some, thenS_some, extV_zero, extV_succ, eval_tmp, eval_const, put_some, put_none, aBin_eql, absV_int, aStore_eq, storeGo_ptr, aAlloc_eq, get_push_new, set_push, Nat.reduceEqDiff, Option.map_some, if_true, if_false, zc_39, zt_39, CS, CC]
      generalize h2.push (.cells (celE cc2) 39 none) = h3 at k3 d3 gz3 ga3 gi3 ⊢
      generalize h2.n = ib at gi3 ⊢
      have hE3 := ndEpoch d3.nd0
      have we : (redoL l2).1 = (redoL l).1 := wt4
      have pE : ((redoL l2).1 != (redoL l).1) = false := by rw [we]; simp
      have hep2 : 0 ≤ epOf l2 := by rw [wt4]; exact hep
      have sb := strB_eq hcb2 hbd
      have sc := strB_eq hcb2 hcb
      by_cases hg : g = 0
      · obtain ⟨g1, g2, g3, g4⟩ := wt1 hg
        subst hg
        subst g2
        have tg : ((0 : Int) == 0) = true := rfl
        have tn : ((0 : Int) != 0) = false := rfl
        have p1 : decide (z.epoch < (redoL l).1) = false := decide_eq_false (by have : (redoL l).1 ≤ z.epoch := g1; omega)
        have p2 : (cc2.epoch != z.epoch) = false := by rw [g3]; simp
        rw [decide_eq_true g4] at sb
        have n60 : ((6 : Int) == 0) = false := rfl
        by_cases he : e = 0
        · obtain ⟨_, e3, e4⟩ := wt2 he
          have te : (e == 0) = true := by simp [he]
          have p3 : decide (cc2.epoch < c.epoch) = false := decide_eq_false (by omega)
          by_cases hq : cc2.epoch = c.epoch
          · have p4 : (cc2.epoch == c.epoch) = true := by simp [hq]
            rw [decide_eq_true (e4 hq)] at sc
            simp only [wpA_skip, wpA_region, wpA_seq, wpA_cond, condI_false, seqQ_normal, goI_out, goI_ops, opsA_nil, opsA_cons, opsA_guardS, gvI_same, gvI_ft, gvI_u, slotAt_zero, slotAt_succ, stepA_move, stepA_pick, stepA_load, stepA_binOp, stepA_convert, stepA_fieldAddr, stepA_call, thenV_some, thenC_some, pickV_true, pickV_false, eval_tmp, eval_const, put_some, put_none, aBin_eql, aBin_neq, aBin_lss, aBin_str_neq, absV_int, absV_bool, aField_eq, fieldGo_ptr, aLoad_eq, loadGo_one, aPlace_ptr, bne_self_eq_false, beq_self_eq_true, Nat.reduceEqDiff, List.map_cons, List.map_nil, Nat.zero_add, if_true, if_false, Bool.not_true, ft_32_1, ft_32_5, ft_39_1, ft_39_2, lt_3, lt_30, f6, p1, p2, te, p3, p4, gz3, ga3, gi3, D1, D5, C1, C2, convB, sc, sb]
            refine callI_pure cal18 hE3 ?_
            simp only [wpA_skip, wpA_region, wpA_cond, condI_false, seqQ_normal, blkQ_normal, endI_mk, andThen_normal, goI_out, goI_ops, opsA_nil, opsA_cons, opsA_guardS, gvI_same, slotAt_zero, slotAt_succ, stepA_move, stepA_assign, stepA_pick, stepA_binOp, thenV_some, pickV_false, eval_tmp, eval_const, put_some, put_none, aBin_add, aBin_neq, absV_int, absV_bool, Nat.reduceEqDiff, if_true, if_false, f7, pE, hw]
            exact hid_mk ⟨(i + 1, r2, l2), ⟨f0, f3, f6, rfl, by simp only; omega, d3, by simp only; omega, hep2⟩, by simp only; omega⟩
          · have p4 : (cc2.epoch == c.epoch) = false := by simp [hq]
            simp only [wpA_skip, wpA_region, wpA_seq, wpA_cond, condI_false, seqQ_normal, goI_out, goI_ops, opsA_nil, opsA_cons, opsA_guardS, gvI_same, gvI_ft, gvI_u, slotAt_zero, slotAt_succ, stepA_move, stepA_pick, stepA_load, stepA_binOp, stepA_convert, stepA_fieldAddr, stepA_call, thenV_some, thenC_some, pickV_true, pickV_false, eval_tmp, eval_const, put_some, put_none, aBin_eql, aBin_neq, aBin_lss, aBin_str_neq, absV_int, absV_bool, aField_eq, fieldGo_ptr, aLoad_eq, loadGo_one, aPlace_ptr, bne_self_eq_false, beq_self_eq_true, Nat.reduceEqDiff, List.map_cons, List.map_nil, Nat.zero_add, if_true, if_false, Bool.not_true, ft_32_1, ft_32_5, ft_39_1, ft_39_2, lt_3, lt_30, f6, p1, p2, te, p3, p4, gz3, ga3, gi3, D1, D5, C1, C2, convB, sb]
            refine callI_pure cal18 hE3 ?_
            simp only [wpA_skip, wpA_region, wpA_cond, condI_false, seqQ_normal, blkQ_normal, endI_mk, andThen_normal, goI_out, goI_ops, opsA_nil, opsA_cons, opsA_guardS, gvI_same, slotAt_zero, slotAt_succ, stepA_move, stepA_assign, stepA_pick, stepA_binOp, thenV_some, pickV_false, eval_tmp, eval_const, put_some, put_none, aBin_add, aBin_neq, absV_int, absV_bool, Nat.reduceEqDiff, if_true, if_false, f7, pE, hw]
            exact hid_mk ⟨(i + 1, r2, l2), ⟨f0, f3, f6, rfl, by simp only; omega, d3, by simp only; omega, hep2⟩, by simp only; omega⟩
        · have te : (e == 0) = false := by simp [he]
          simp only [wpA_skip, wpA_region, wpA_seq, wpA_cond, condI_false, seqQ_normal, goI_out, goI_ops, opsA_nil, opsA_cons, opsA_guardS, gvI_same, gvI_ft, gvI_u, slotAt_zero, slotAt_succ, stepA_move, stepA_pick, stepA_load, stepA_binOp, stepA_convert, stepA_fieldAddr, stepA_call, thenV_some, thenC_some, pickV_true, pickV_false, eval_tmp, eval_const, put_some, put_none, aBin_eql, aBin_neq, aBin_lss, aBin_str_neq, absV_int, absV_bool, aField_eq, fieldGo_ptr, aLoad_eq, loadGo_one, aPlace_ptr, bne_self_eq_false, beq_self_eq_true, Nat.reduceEqDiff, List.map_cons, List.map_nil, Nat.zero_add, if_true, if_false, Bool.not_true, ft_32_1, ft_32_5, ft_39_1, ft_39_2, lt_3, lt_30, f6, p1, p2, te, gz3, gi3, D1, D5, C1, C2, convB, sb]
          refine callI_pure cal18 hE3 ?_
          simp only [wpA_skip, wpA_region, wpA_cond, condI_false, seqQ_normal, blkQ_normal, endI_mk, andThen_normal, goI_out, goI_ops, opsA_nil, opsA_cons, opsA_guardS, gvI_same, slotAt_zero, slotAt_succ, stepA_move, stepA_assign, stepA_pick, stepA_binOp, thenV_some, pickV_false, eval_tmp, eval_const, put_some, put_none, aBin_add, aBin_neq, absV_int, absV_bool, Nat.reduceEqDiff, if_true, if_false, f7, pE, hw]
          exact hid_mk ⟨(i + 1, r2, l2), ⟨f0, f3, f6, rfl, by simp only; omega, d3, by simp only; omega, hep2⟩, by simp only; omega⟩
      · have tg : (g == 0) = false := by simp [hg]
        have tn : (g != 0) = true := by simp [hg]
        obtain ⟨wa, wb⟩ := wt3 hg
        have pq : (ee2 != e) = false := by rw [wa]; simp
        have ph : (cc2.epoch != c.epoch) = false := by rw [wb]; simp
        by_cases he : e = 0
        · obtain ⟨_, e3, e4⟩ := wt2 he
          have te : (e == 0) = true := by simp [he]
          have tee : (ee2 != 0) = false := by rw [(wt3 hg).1, he]; rfl
          have p3 : decide (cc2.epoch < c.epoch) = false := decide_eq_false (by omega)
          by_cases hq : cc2.epoch = c.epoch
          · have p4 : (cc2.epoch == c.epoch) = true := by simp [hq]
            rw [decide_eq_true (e4 hq)] at sc
            simp only [wpA_skip, wpA_region, wpA_seq, wpA_cond, condI_false, seqQ_normal, goI_out, goI_ops, opsA_nil, opsA_cons, opsA_guardS, gvI_same, gvI_ft, gvI_u, slotAt_zero, slotAt_succ, stepA_move, stepA_pick, stepA_load, stepA_binOp, stepA_convert, stepA_fieldAddr, stepA_call, thenV_some, thenC_some, pickV_true, pickV_false, eval_tmp, eval_const, put_some, put_none, aBin_eql, aBin_neq, aBin_lss, aBin_str_neq, absV_int, absV_bool, aField_eq, fieldGo_ptr, aLoad_eq, loadGo_one, aPlace_ptr, Nat.reduceEqDiff, List.map_cons, List.map_nil, Nat.zero_add, if_true, if_false, Bool.not_true, ft_39_1, ft_39_2, lt_3, lt_30, f6, tg, tn, te, tee, p3, p4, ga3, gi3, C1, C2, convB, sc, pq, ph]
            refine callI_pure cal18 hE3 ?_
            simp only [wpA_skip, wpA_region, wpA_cond, condI_false, seqQ_normal, blkQ_normal, endI_mk, andThen_normal, goI_out, goI_ops, opsA_nil, opsA_cons, opsA_guardS, gvI_same, slotAt_zero, slotAt_succ, stepA_move, stepA_assign, stepA_pick, stepA_binOp, thenV_some, pickV_false, eval_tmp, eval_const, put_some, put_none, aBin_add, aBin_neq, absV_int, absV_bool, Nat.reduceEqDiff, if_true, if_false, f7, pE, hw]
            exact hid_mk ⟨(i + 1, r2, l2), ⟨f0, f3, f6, rfl, by simp only; omega, d3, by simp only; omega, hep2⟩, by simp only; omega⟩
          · have p4 : (cc2.epoch == c.epoch) = false := by simp [hq]
            simp only [wpA_skip, wpA_region, wpA_seq, wpA_cond, condI_false, seqQ_normal, goI_out, goI_ops, opsA_nil, opsA_cons, opsA_guardS, gvI_same, gvI_ft, gvI_u, slotAt_zero, slotAt_succ, stepA_move, stepA_pick, stepA_load, stepA_binOp, stepA_fieldAddr, stepA_call, thenV_some, pickV_true, pickV_false, eval_tmp, eval_const, put_some, put_none, aBin_eql, aBin_neq, aBin_lss, absV_int, absV_bool, aField_eq, fieldGo_ptr, aLoad_eq, loadGo_one, aPlace_ptr, Nat.reduceEqDiff, List.map_cons, List.map_nil, Nat.zero_add, if_true, if_false, ft_39_1, lt_3, f6, tg, tn, te, tee, p3, p4, ga3, gi3, C1, pq, ph]
            refine callI_pure cal18 hE3 ?_
            simp only [wpA_skip, wpA_region, wpA_cond, condI_false, seqQ_normal, blkQ_normal, endI_mk, andThen_normal, goI_out, goI_ops, opsA_nil, opsA_cons, opsA_guardS, gvI_same, slotAt_zero, slotAt_succ, stepA_move, stepA_assign, stepA_pick, stepA_binOp, thenV_some, pickV_false, eval_tmp, eval_const, put_some, put_none, aBin_add, aBin_neq, absV_int, absV_bool, Nat.reduceEqDiff, if_true, if_false, f7, pE, hw]
            exact hid_mk ⟨(i + 1, r2, l2), ⟨f0, f3, f6, rfl, by simp only; omega, d3, by simp only; omega, hep2⟩, by simp only; omega⟩
        · have te : (e == 0) = false := by simp [he]
          simp only [wpA_skip, wpA_region, wpA_seq, wpA_cond, condI_false, seqQ_normal, goI_out, goI_ops, opsA_nil, opsA_cons, opsA_guardS, gvI_same, gvI_ft, gvI_u, slotAt_zero, slotAt_succ, stepA_move, stepA_pick, stepA_load, stepA_binOp, stepA_fieldAddr, stepA_call, thenV_some, pickV_true, pickV_false, eval_tmp, eval_const, put_some, put_none, aBin_eql, aBin_neq, absV_int, absV_bool, aField_eq, fieldGo_ptr, aLoad_eq, loadGo_one, aPlace_ptr, Nat.reduceEqDiff, List.map_cons, List.map_nil, Nat.zero_add, if_true, if_false, ft_39_1, lt_3, f6, tg, tn, te, ga3, gi3, C1, pq, ph]
          refine callI_pure cal18 hE3 ?_
          simp only [wpA_skip, wpA_region, wpA_cond, condI_false, seqQ_normal, blkQ_normal, endI_mk, andThen_normal, goI_out, goI_ops, opsA_nil, opsA_cons, opsA_guardS, gvI_same, slotAt_zero, slotAt_succ, stepA_move, stepA_assign, stepA_pick, stepA_binOp, thenV_some, pickV_false, eval_tmp, eval_const, put_some, put_none, aBin_add, aBin_neq, absV_int, absV_bool, Nat.reduceEqDiff, if_true, if_false, f7, pE, hw]
          exact hid_mk ⟨(i + 1, r2, l2), ⟨f0, f3, f6, rfl, by simp only; omega, d3, by simp only; omega, hep2⟩, by simp only; omega⟩
  have hend : decide ((i : Int) < ((ds.length : Nat) : Int)) = false ∨ (decide ((i : Int) < ((ds.length : Nat) : Int)) = true ∧ decide ((i : Int) < 80) = false) := by
    simp only [decide_eq_false_iff_not, decide_eq_true_eq]
    omega
  rcases hend with c1 | ⟨c1, c2⟩
  · simp only [wpA_region, wpA_seq, wpA_cond, wpA_exit, wpA_ret, condI_false, seqQ_normal, seqQ_exit, blkQ_exit, endI_mk, goE, andThen_exit, goI_out, goI_ops, opsA_nil, opsA_cons, opsA_guardS, gvI_ft, slotAt_zero, slotAt_succ, stepA_move, stepA_assign, stepA_pick, stepA_binOp, stepA_len, thenV_some, pickV_false, eval_tmp, eval_const, put_some, aBin_lss, absV_bool, aLen_imm, Nat.reduceEqDiff, reduceCtorEq, if_true, if_false, kt_22, f0, f3, f7, c1, retA_ret, Try.results4, resultsA_1]
    exact hid_mk rfl
  · simp only [wpA_region, wpA_seq, wpA_cond, wpA_exit, wpA_ret, condI_false, seqQ_normal, seqQ_exit, blkQ_exit, endI_mk, goE, andThen_exit, goI_out, goI_ops, opsA_nil, opsA_cons, opsA_guardS, gvI_same, slotAt_zero, slotAt_succ, stepA_move, stepA_assign, stepA_pick, stepA_binOp, stepA_len, thenV_some, pickV_true, eval_tmp, eval_const, put_some, aBin_lss, absV_int, absV_bool, aLen_imm, Nat.reduceEqDiff, reduceCtorEq, if_true, if_false, kt_22, f0, f3, f7, c1, c2, retA_ret, Try.results4, resultsA_1]
    exact hid_mk rfl
end Go.Proofs.Ytlbekgogjlchjaa.Pk
