/-
  What functions of the program do, told of abstract states. Conditions: as each theorem says.
-/
import Derived.Test.YtjphnabogfiahaaDoorReO
namespace Go.Proofs.YtjphnabogfiahaaDoor.Pk
open Go Go.Proofs Go.Proofs.YtjphnabogfiahaaDoor.Ab
set_option linter.unusedVariables false
set_option linter.unusedSimpArgs false

theorem bytesV_take (l : List Nat) (k : Nat) : (bytesV l).take (k * 1) = bytesV (l.take k) := by rw [Nat.mul_one]; unfold bytesV; rw [List.map_take]
set_option maxHeartbeats 4000000 in
set_option maxRecDepth 10000 in
theorem recBack (x : Ent) (r : Rcd) (c : Nat) (hx : eIn x) (hl : eLen x) (hr : rIn r) (hc : c < 256) (h : AHeap) (hu : KU h) :
    SCalls Tryd.prog 5 [.agg (entE x), .agg (rcdE r), .int .u8 (c : Int)] h (fun v h' => v = .bool true) := by
  refine SCalls.enterI (c := _) Tryd.func5 rfl (by kernel_rfl) (by simp) ?_
  have hcx : (V.agg (entE x)).cells = some (entE x) := rfl
  have hcr : ∀ q : Rcd, (V.agg (rcdE q)).cells = some [.int .i64 q.k, .int .i64 q.v, .int .i64 q.t] := fun _ => rfl
  simp only [wpA_region, wpA_seq, seqQ_normal, goI_out, goI_ops, opsA_nil, opsA_cons, stepA_assign, stepA_box, stepA_call, thenH_some, eval_tmp, eval_const, put_some, enterF_zero, enterF_succ, absV_bool, aBox_eq, push_n, Nat.reduceEqDiff, List.map_nil, Option.map_some, if_false, hcx, hcr]
  obtain ⟨H, hH⟩ : ∃ y, y = (h.push (.cells (entE x) 35 none)).push (.cells [.int .i64 r.k, .int .i64 r.v, .int .i64 r.t] 23 none) := ⟨_, rfl⟩
  have g0 : H.get h.n = .cells (entE x) 35 none := by rw [hH]; exact get_push2'
  have g1 : H.get (h.n + 1) = .cells [.int .i64 r.k, .int .i64 r.v, .int .i64 r.t] 23 none := by rw [hH]; exact get_push2
  have kH : Keep h H none_ := by rw [hH]; exact (Keep.push _ _ _).then_push _
  have uH : KU H := by unfold KU; rw [kH.glob]; exact hu
  have nH : H.n = h.n + 2 := by rw [hH]; rfl
  rw [← hH]
  clear hH
  refine callI_pure cal9 (pShown3 _ uH) ?_
  simp only [wpA_region, wpA_seq, seqQ_normal, goI_out, goI_ops, opsA_nil, opsA_cons, stepA_assign, stepA_load, stepA_call, thenV_some, eval_tmp, put_some, enterF_succ, aLoad_eq, loadGo_row, aPlace_ptr, dropC_cells, Nat.reduceEqDiff, Nat.reduceAdd, List.map_cons, List.map_nil, Nat.zero_add, Nat.zero_le, List.length_cons, List.length_nil, List.drop_zero, List.take_succ_cons, List.take_nil, if_true, if_false, Nat.le_refl, lt_23, g1]
  refine callI_of cal12 (sRecord r H hr) fun v8 h1 a1 => ?_
  have l3 := encR_ge hr
  have l30 := encR_le hr
  have p0 := (a1.keep.get h.n (by omega) (by simp [none_])).trans g0
  have p1 := (a1.keep.get (h.n + 1) (by omega) (by simp [none_])).trans g1
  have n1 := a1.keep.n
  have u1 : KU h1 := by unfold KU; rw [a1.keep.glob]; exact uH
  simp only [wpA_region, wpA_seq, seqQ_normal, goI_out, goI_ops, opsA_nil, opsA_cons, stepA_move, stepA_assign, stepA_call, eval_tmp, put_some, enterF_succ, Nat.reduceEqDiff, List.map_cons, List.map_nil, if_true, if_false]
  refine callI_pure cal10 (pToRecord v8 _ h1 (Rd.own a1.own) (encR_lt r) (by omega)) ?_
  rw [recD_enc hr]
  have hlen8 : ∀ h', Keep h1 h' none_ → aLen Tryd.prog 24 v8 h' = some (.int .i64 ((encR r).length : Nat)) := (Rd.own a1.own).len
  have hl3 : decide ((((encR r).length : Nat) : Int) < 3) = false := decide_eq_false (by omega)
  have p1p : ∀ o, (h1.push o).get (h.n + 1) = _ := fun o => (get_push_lt (by omega)).trans p1
  have rz : ∀ a b : Rcd, ∀ xo yo : Operand, aBin Tryd.prog .neq 23 xo yo (.agg [.int .i64 a.k, .int .i64 a.v, .int .i64 a.t]) (.agg [.int .i64 b.k, .int .i64 b.v, .int .i64 b.t]) = some (.bool (!decide (a = b))) := fun a b xo yo => by
    have := rcd_eql a b (xo := xo) (yo := yo)
    have h : eqK [0, 0, 0] [.int .i64 a.k, .int .i64 a.v, .int .i64 a.t] [.int .i64 b.k, .int .i64 b.v, .int .i64 b.t] = some (decide (a = b)) := by
      simp only [eqK, if_true, Option.map_some, Option.some.injEq]
      rw [Bool.eq_iff_iff]
      cases a; cases b
      simp
    rw [aBin_sk_neq sk_23 h]
  have hr0 := hx.2.2.2.2.2.1
  have z1 : (((0 : Nat) : Int) == 0) = true := rfl
  have z2 : (((2 : Nat) : Int) == 0) = false := rfl
  cases ht : timeOk r.t
  · obtain ⟨H1, hH1⟩ : ∃ y, y = h1.push (.cells [.int .i64 0, .int .i64 0, .int .i64 0] 23 none) := ⟨_, rfl⟩
    have k1 : Keep h1 H1 none_ := by rw [hH1]; exact Keep.push _ _ _
    have hcz : (V.agg (rcdE zR)).cells = some [.int .i64 0, .int .i64 0, .int .i64 0] := rfl
    have P1' := (k1.get (h.n + 1) (by omega) (by simp [none_])).trans p1
    simp only [Bool.false_eq_true, if_false]
    by_cases t0 : 0 ≤ r.t
    · have c1 : decide (0 ≤ r.t) = true := decide_eq_true t0
      have c2 : decide (r.t ≤ 1099511627776) = false := decide_eq_false (fun hh => by have := (time_iff _).2 ⟨t0, hh⟩; rw [ht] at this; cases this)
      simp only [wpA_region, wpA_seq, seqQ_normal, goI_out, goI_ops, opsA_nil, opsA_cons, opsA_guardS, gvI_same, gvI_ft, slotAt_zero, slotAt_succ, stepA_move, stepA_assign, stepA_pick, stepA_alloc, stepA_load, stepA_store, stepA_binOp, stepA_fieldAddr, stepA_extract, stepA_len, thenV_some, thenH_some, thenS_some, pickV_true, pickV_false, extV_zero, extV_succ, eval_tmp, eval_const, put_some, put_none, enterF_succ, aBin_eql, aBin_leq, aBin_geq, aBin_bool_neq, absV_int, absV_bool, one_int, all_nil, all_cons, aField_eq, fieldGo_ptr, aLoad_eq, loadGo_one, aPlace_ptr, dropC_cells, aStore_eq, storeGo_ptr, setC_row, setAll_nil, setAll_cons, aAlloc_eq, get_push_new, set_push, bne_self_eq_false, Nat.reduceEqDiff, Nat.reduceAdd, Nat.reduceLeDiff, Option.map_some, Nat.zero_add, List.length_cons, List.length_nil, List.drop_zero, List.drop_succ_cons, List.set_cons_zero, List.set_cons_succ, if_true, if_false, Bool.and_self, Nat.le_refl, bt_4, ft_23_2, lt_2, zc_23, zt_23, hcz, p1p, c1, c2, z2]
      rw [← hH1]
      clear hH1
      simp only [wpA_skip, wpA_region, wpA_seq, wpA_cond, condI_false, seqQ_normal, goI_out, goI_ops, opsA_nil, opsA_cons, opsA_guardS, gvI_same, slotAt_zero, slotAt_succ, stepA_move, stepA_pick, stepA_binOp, stepA_slice, stepA_len, thenV_some, pickV_false, eval_tmp, eval_const, put_some, put_none, enterF_succ, aBin_sub, aBin_lss, absV_int, absV_bool, Nat.reduceEqDiff, Option.map_some, Option.map_none, if_true, if_false, hlen8 H1 k1, hl3]
      have w1 : IntKind.i64.wrap ((((encR r).length : Nat) : Int) - 1) = (((encR r).length - 1 : Nat) : Int) := by rw [Go.IntWalk.i64_in _ (by omega)]; omega
      have o1 := a1.own.keepN k1
      obtain ⟨v9, s9, o9, _⟩ := own_to (P := Tryd.prog) (k := .i64) sl_24 (by decide) o1 (n := (encR r).length - 1) (by simp only [bytesV_length]; omega)
      simp only [bytesV_take] at o9
      have b9 : ∀ b ∈ (encR r).take ((encR r).length - 1), b < 256 := fun b hb => encR_lt r b (List.mem_of_mem_take hb)
      simp only [goI_ops, opsA_cons, stepA_call, thenV_some, eval_tmp, put_some, put_none, enterF_succ, Nat.reduceEqDiff, List.map_cons, List.map_nil, if_true, if_false, w1, s9]
      refine callI_pure cal10 (pToRecord v9 _ H1 (Rd.own o9) b9 (by simp only [List.length_take]; omega)) ?_
      have e9 : (recD ((encR r).take ((encR r).length - 1))).2 ≠ 0 := recD_cut hr (by omega)
      generalize recD ((encR r).take ((encR r).length - 1)) = D9 at e9
      obtain ⟨q9, er9⟩ := D9
      simp only at e9
      simp only [wpA_region, wpA_seq, seqQ_normal, goI_out, goI_ops, opsA_nil, opsA_cons, stepA_move, stepA_assign, stepA_alloc, stepA_buildSlice, stepA_store, stepA_extract, thenV_some, thenH_some, thenS_some, extV_zero, extV_succ, eval_tmp, put_some, put_none, enterF_zero, enterF_succ, one_int, all_nil, all_cons, aStore_eq, storeGo_ptr, setC_row, setAll_nil, setAll_cons, aAlloc_eq, get_push_new, set_push, Nat.reduceEqDiff, Nat.reduceAdd, List.map_cons, List.map_nil, Option.map_some, Nat.zero_add, List.length_cons, List.length_nil, List.set_cons_zero, List.set_cons_succ, if_true, if_false, Bool.and_self, Nat.le_refl, zc_23, zt_23, hcr]
      obtain ⟨H2, hH2⟩ : ∃ y, y = H1.push (.cells [.int .i64 q9.k, .int .i64 q9.v, .int .i64 q9.t] 23 none) := ⟨_, rfl⟩
      have k2 : Keep H1 H2 none_ := by rw [hH2]; exact Keep.push _ _ _
      rw [← hH2]
      clear hH2
      obtain ⟨v10, h3, s10, o10, k10, d10⟩ := append_elem (P := Tryd.prog) sl_24 (by decide) (o1.keepN k2) (xs := [.int .u8 (c : Int)]) rfl rfl (by simp [bytesV_length, lim]; omega) (by simp [bytesV_length, lim]; omega)
      have o10' : Own h3 5 1 v10 (bytesV (encR r ++ [c])) := by
        have : bytesV (encR r) ++ [V.int .u8 (c : Int)] = bytesV (encR r ++ [c]) := by rw [bytesV_append]; rfl
        rw [← this]; exact o10
      have b10 : ∀ b ∈ encR r ++ [c], b < 256 := fun b hb => by
        rcases List.mem_append.1 hb with hb | hb
        · exact encR_lt r b hb
        · rw [List.mem_singleton.1 hb]; exact hc
      have lb1 : aBuildSlice Tryd.prog 24 1 [(0, .int .u8 (c : Int))] H2 = some (.sl H2.n 0 1 1, H2.push (.cells [.int .u8 (c : Int)] 5 none)) := lit1b H2 c
      simp only [goI_ops, opsA_cons, stepA_append, stepA_call, thenH_some, eval_tmp, put_some, put_none, enterF_succ, Nat.reduceEqDiff, List.map_cons, List.map_nil, if_true, if_false, lb1, s10]
      refine callI_pure cal10 (pToRecord v10 _ h3 (Rd.own o10') b10 (by simp only [List.length_append, List.length_cons, List.length_nil]; omega)) ?_
      have e10 : (recD (encR r ++ [c])).2 ≠ 0 := recD_more hr c
      generalize recD (encR r ++ [c]) = D10 at e10
      obtain ⟨q10, er10⟩ := D10
      simp only at e10
      have c9 : (((er9 : Nat) : Int) == 0) = false := by simp; omega
      have c10 : (((er10 : Nat) : Int) == 0) = false := by simp; omega
      obtain ⟨H4, hH4⟩ : ∃ y, y = h3.push (.cells [.int .i64 q10.k, .int .i64 q10.v, .int .i64 q10.t] 23 none) := ⟨_, rfl⟩
      have k4 : Keep h3 H4 none_ := by rw [hH4]; exact Keep.push _ _ _
      have ne8 : ¬ isId v8 h.n := fun hh => by have := a1.new _ hh; omega
      have m1 := k1.n
      have m2 := k2.n
      have m3 := k10.n
      have m4 := k4.n
      have P1 := (k1.get h.n (by omega) (by simp [none_])).trans p0
      have P2 := (k2.get h.n (by omega) (by simp [none_])).trans P1
      have P3 := (k10.get h.n (by omega) ne8).trans P2
      have P4 := (k4.get h.n (by omega) (by simp [none_])).trans P3
      have U4 : KU H4 := by unfold KU; rw [k4.glob, k10.glob, k2.glob, k1.glob]; exact u1
      have hdr : dropC (AObj.cells (entE x) 35 none) 0 = some (entE x) := rfl
      have hld : (if 11 ≤ (entE x).length then some (V.agg (List.take 11 (entE x))) else none) = some (.agg (entE x)) := rfl
      simp only [wpA_skip, wpA_region, wpA_seq, wpA_cond, condI_false, seqQ_normal, goI_out, goI_ops, opsA_nil, opsA_cons, opsA_guardS, gvI_same, slotAt_zero, slotAt_succ, stepA_move, stepA_assign, stepA_pick, stepA_alloc, stepA_load, stepA_store, stepA_binOp, stepA_extract, thenV_some, thenH_some, thenS_some, pickV_false, extV_zero, extV_succ, eval_tmp, eval_const, put_some, put_none, enterF_succ, aBin_eql, absV_int, absV_bool, one_int, all_nil, all_cons, aLoad_eq, aPlace_ptr, aStore_eq, storeGo_ptr, setC_row, setAll_nil, setAll_cons, aAlloc_eq, get_push_new, set_push, Nat.reduceEqDiff, Nat.reduceAdd, Option.map_some, Nat.zero_add, List.length_cons, List.length_nil, List.set_cons_zero, List.set_cons_succ, if_true, if_false, Bool.and_self, Nat.le_refl, lt_35, zc_23, zt_23, hcr, c9, c10]
      rw [← hH4]
      clear hH4
      simp only [goI_ops, opsA_cons, stepA_call, thenV_some, eval_tmp, put_some, put_none, enterF_succ, loadGo_row, Nat.reduceEqDiff, List.map_cons, List.map_nil, if_true, if_false, P4, hdr, hld]
      refine callI_of cal14 (sEntry x H4 U4 hx hl) fun rv h5 ⟨v16, ev, a5⟩ => ?_
      subst ev
      have m5 := a5.keep.n
      have P5 := (a5.keep.get h.n (by omega) (by simp [none_])).trans P4
      have U5 : KU h5 := by unfold KU; rw [a5.keep.glob]; exact U4
      cases hm : mayB x
      · have cv : codeV x = 1 := by simp [codeV, hm]
        rw [cv]
        simp only [wpA_region, wpA_seq, wpA_cond, condI_true, seqQ_normal, goI_out, goI_ops, opsA_nil, opsA_cons, opsA_guardS, gvI_same, slotAt_zero, slotAt_succ, stepA_move, stepA_assign, stepA_load, stepA_binOp, stepA_extract, stepA_call, thenV_some, extV_zero, extV_succ, eval_tmp, eval_const, put_some, put_none, enterF_succ, aBin_neq, absV_int, aLoad_eq, loadGo_row, aPlace_ptr, Int.reduceBNe, Nat.reduceEqDiff, List.map_cons, List.map_nil, if_true, if_false, lt_35, P5, hdr, hld]
        refine callI_pure cal19 (pMay x h5 U5 hl) ?_
        rw [hm]
        simp only [wpA_ret, seqQ_normal, seqQ_ret, endI_mk, goI_out, goI_ops, opsA_nil, opsA_cons, opsA_guardS, gvI_same, slotAt_zero, slotAt_succ, stepA_assign, stepA_pick, stepA_unOp, thenV_some, pickV_true, eval_tmp, eval_const, put_some, put_none, enterF_succ, aUn_not, absV_bool, Nat.reduceEqDiff, if_true, if_false, Bool.not_false, retA_ret, Tryd.results5, resultsA_1]
        exact hid_mk rfl
      have cv : codeV x = 0 := by simp [codeV, hm]
      have ev : encV x = encT x := by simp [encV, hm]
      rw [cv]
      rw [ev] at a5
      have g11 := encT_ge hr0 hm
      have g4k := encT_le hr0 hm
      have hce : ∀ x : Ent, (V.agg (entE x)).cells = some (entE x) := fun _ => rfl
      have hst : ∀ x : Ent, setC (some 11) (AObj.cells [.int .i64 0, .int .i64 0, .int .i64 0, .int .i64 0, .int .i64 0, .int .i64 0, .int .i64 0, .int .i64 0, .bool false, .snil, .snil] 35 none) 0 (entE x) = some (.cells (entE x) 35 none) := fun x => rfl
      simp only [wpA_skip, wpA_region, wpA_seq, wpA_cond, condI_false, seqQ_normal, goI_out, goI_ops, opsA_nil, opsA_cons, stepA_move, stepA_assign, stepA_binOp, stepA_extract, stepA_call, thenV_some, extV_zero, extV_succ, eval_tmp, eval_const, put_some, put_none, enterF_succ, aBin_neq, absV_int, bne_self_eq_false, Nat.reduceEqDiff, List.map_cons, List.map_nil, if_true, if_false]
      refine callI_pure cal16 (pToEntry v16 _ h5 U5 (Rd.own a5.own) (encT_lt x) (by omega)) ?_
      rw [entD_enc hr0 hm]
      have hlen16 := (Rd.own a5.own).len
      obtain ⟨H6, hH6⟩ : ∃ y, y = h5.push (.cells (entE x) 35 none) := ⟨_, rfl⟩
      have k6 : Keep h5 H6 none_ := by rw [hH6]; exact Keep.push _ _ _
      have y6 : H6.get h5.n = .cells (entE x) 35 none := by rw [hH6]; exact get_push_new
      have z6 : H6.n = h5.n + 1 := by rw [hH6]; rfl
      have hl11 : decide ((((encT x).length : Nat) : Int) < 11) = false := decide_eq_false (by omega)
      have w2 : IntKind.i64.wrap ((((encT x).length : Nat) : Int) - 1) = (((encT x).length - 1 : Nat) : Int) := by rw [Go.IntWalk.i64_in _ (by omega)]; omega
      have o6 := a5.own.keepN k6
      obtain ⟨v17, s17, o17, _⟩ := own_to (P := Tryd.prog) (k := .i64) sl_24 (by decide) o6 (n := (encT x).length - 1) (by simp only [bytesV_length]; omega)
      simp only [bytesV_take] at o17
      have b17 : ∀ b ∈ (encT x).take ((encT x).length - 1), b < 256 := fun b hb => encT_lt x b (List.mem_of_mem_take hb)
      have U6 : KU H6 := by unfold KU; rw [k6.glob]; exact U5
      simp only [wpA_region, wpA_seq, seqQ_normal, goI_out, goI_ops, opsA_nil, opsA_cons, stepA_move, stepA_assign, stepA_alloc, stepA_store, stepA_extract, stepA_len, thenV_some, thenH_some, thenS_some, extV_zero, extV_succ, eval_tmp, put_some, put_none, enterF_succ, aStore_eq, storeGo_ptr, aAlloc_eq, get_push_new, set_push, Nat.reduceEqDiff, Option.map_some, if_true, if_false, zc_35, zt_35, hce, hst]
      rw [← hH6]
      clear hH6
      simp only [wpA_skip, wpA_region, wpA_seq, wpA_cond, condI_false, seqQ_normal, goI_out, goI_ops, opsA_nil, opsA_cons, stepA_move, stepA_binOp, stepA_slice, stepA_len, stepA_call, thenV_some, eval_tmp, eval_const, put_some, put_none, enterF_succ, aBin_sub, aBin_lss, absV_int, Nat.reduceEqDiff, List.map_cons, List.map_nil, Option.map_some, Option.map_none, if_true, if_false, hlen16 H6 k6, hl11, w2, s17]
      refine callI_pure cal16 (pToEntry v17 _ H6 U6 (Rd.own o17) b17 (by simp only [List.length_take]; omega)) ?_
      have e17 : (entD ((encT x).take ((encT x).length - 1))).2 ≠ 0 := entD_cut hr0 hm
      generalize entD ((encT x).take ((encT x).length - 1)) = D17 at e17
      obtain ⟨q17, er17⟩ := D17
      simp only at e17
      simp only [wpA_region, wpA_seq, seqQ_normal, goI_out, goI_ops, opsA_nil, opsA_cons, stepA_move, stepA_assign, stepA_alloc, stepA_buildSlice, stepA_store, stepA_extract, thenV_some, thenH_some, thenS_some, extV_zero, extV_succ, eval_tmp, put_some, put_none, enterF_zero, enterF_succ, aStore_eq, storeGo_ptr, aAlloc_eq, get_push_new, set_push, Nat.reduceEqDiff, List.map_cons, List.map_nil, Option.map_some, if_true, if_false, zc_35, zt_35, hce, hst]
      obtain ⟨H7, hH7⟩ : ∃ y, y = H6.push (.cells (entE q17) 35 none) := ⟨_, rfl⟩
      have k7 : Keep H6 H7 none_ := by rw [hH7]; exact Keep.push _ _ _
      rw [← hH7]
      clear hH7
      obtain ⟨v18, h8, s18, o18, k18, d18⟩ := append_elem (P := Tryd.prog) sl_24 (by decide) (o6.keepN k7) (xs := [.int .u8 (c : Int)]) rfl rfl (by simp [bytesV_length, lim]; omega) (by simp [bytesV_length, lim]; omega)
      have o18' : Own h8 5 1 v18 (bytesV (encT x ++ [c])) := by
        have : bytesV (encT x) ++ [V.int .u8 (c : Int)] = bytesV (encT x ++ [c]) := by rw [bytesV_append]; rfl
        rw [← this]; exact o18
      have b18 : ∀ b ∈ encT x ++ [c], b < 256 := fun b hb => by
        rcases List.mem_append.1 hb with hb | hb
        · exact encT_lt x b hb
        · rw [List.mem_singleton.1 hb]; exact hc
      have lb2 : aBuildSlice Tryd.prog 24 1 [(0, .int .u8 (c : Int))] H7 = some (.sl H7.n 0 1 1, H7.push (.cells [.int .u8 (c : Int)] 5 none)) := lit1b H7 c
      have ne16 : ∀ j, j < H4.n → ¬ isId v16 j := fun j hj hh => by have := a5.new _ hh; omega
      have ne16' : ¬ isId v16 h5.n := fun hh => by have := a5.own.lt _ hh; omega
      have m6 := k6.n
      have m7 := k7.n
      have m8 := k18.n
      have U8 : KU h8 := by unfold KU; rw [k18.glob, k7.glob]; exact U6
      have P6 := (k6.get h.n (by omega) (by simp [none_])).trans P5
      have P7 := (k7.get h.n (by omega) (by simp [none_])).trans P6
      have P8 := (k18.get h.n (by omega) (ne16 _ (by omega))).trans P7
      have Y7 := (k7.get h5.n (by omega) (by simp [none_])).trans y6
      have Y8 := (k18.get h5.n (by omega) ne16').trans Y7
      simp only [goI_ops, opsA_cons, stepA_append, stepA_call, thenH_some, eval_tmp, put_some, put_none, enterF_succ, Nat.reduceEqDiff, List.map_cons, List.map_nil, if_true, if_false, lb2, s18]
      refine callI_pure cal16 (pToEntry v18 _ h8 U8 (Rd.own o18') b18 (by simp only [List.length_append, List.length_cons, List.length_nil]; omega)) ?_
      have e18 : (entD (encT x ++ [c])).2 ≠ 0 := entD_more hr0 hm c
      generalize entD (encT x ++ [c]) = D18 at e18
      obtain ⟨q18, er18⟩ := D18
      simp only at e18
      have c17 : (((er17 : Nat) : Int) != 0) = true := by simp; omega
      have c18 : (((er18 : Nat) : Int) != 0) = true := by simp; omega
      have P9 : ∀ o, (h8.push o).get h.n = _ := fun o => (get_push_lt (by omega)).trans P8
      have Y9 : ∀ o, (h8.push o).get h5.n = _ := fun o => (get_push_lt (by omega)).trans Y8
      have z0 : (((0 : Nat) : Int) == 0) = true := rfl
      simp only [wpA_region, wpA_seq, seqQ_normal, goI_out, goI_ops, opsA_nil, opsA_cons, opsA_guardS, gvI_same, slotAt_zero, slotAt_succ, stepA_move, stepA_assign, stepA_pick, stepA_alloc, stepA_load, stepA_store, stepA_binOp, stepA_extract, stepA_call, thenV_some, thenH_some, thenS_some, pickV_true, extV_zero, extV_succ, eval_tmp, eval_const, put_some, put_none, enterF_succ, aBin_eql, absV_int, absV_bool, aLoad_eq, loadGo_row, aPlace_ptr, aStore_eq, storeGo_ptr, aAlloc_eq, get_push_new, set_push, Nat.reduceEqDiff, List.map_cons, List.map_nil, Option.map_some, if_true, if_false, lt_35, zc_35, zt_35, hce, hst, z0, P9, Y9, hdr, hld]
      refine callI_pure cal18 (pSame3 x x _ hl) ?_
      simp only [wpA_ret, seqQ_normal, endI_mk, goI_out, goI_ops, opsA_nil, opsA_cons, opsA_guardS, gvI_same, slotAt_zero, slotAt_succ, stepA_move, stepA_assign, stepA_pick, stepA_binOp, thenV_some, pickV_true, eval_tmp, eval_const, put_some, put_none, enterF_succ, aBin_neq, absV_int, absV_bool, decide_true, Nat.reduceEqDiff, if_true, if_false, c17, c18, decide_true, retA_ret, Tryd.results5, resultsA_1]
      exact hid_mk rfl
    · have c1 : decide (0 ≤ r.t) = false := decide_eq_false t0
      simp only [wpA_region, wpA_seq, seqQ_normal, goI_out, goI_ops, opsA_nil, opsA_cons, opsA_guardS, gvI_same, gvI_ft, slotAt_zero, slotAt_succ, stepA_move, stepA_assign, stepA_pick, stepA_alloc, stepA_load, stepA_store, stepA_binOp, stepA_fieldAddr, stepA_extract, stepA_len, thenV_some, thenH_some, thenS_some, pickV_false, extV_zero, extV_succ, eval_tmp, eval_const, put_some, put_none, enterF_succ, aBin_eql, aBin_geq, aBin_bool_neq, absV_int, absV_bool, one_int, all_nil, all_cons, aField_eq, fieldGo_ptr, aLoad_eq, loadGo_one, aPlace_ptr, dropC_cells, aStore_eq, storeGo_ptr, setC_row, setAll_nil, setAll_cons, aAlloc_eq, get_push_new, set_push, bne_self_eq_false, Nat.reduceEqDiff, Nat.reduceAdd, Nat.reduceLeDiff, Option.map_some, Nat.zero_add, List.length_cons, List.length_nil, List.drop_zero, List.drop_succ_cons, List.set_cons_zero, List.set_cons_succ, if_true, if_false, Bool.and_self, Nat.le_refl, bt_4, ft_23_2, lt_2, zc_23, zt_23, hcz, p1p, c1, z2]
      rw [← hH1]
      clear hH1
      simp only [wpA_skip, wpA_region, wpA_seq, wpA_cond, condI_false, seqQ_normal, goI_out, goI_ops, opsA_nil, opsA_cons, opsA_guardS, gvI_same, slotAt_zero, slotAt_succ, stepA_move, stepA_pick, stepA_binOp, stepA_slice, stepA_len, thenV_some, pickV_false, eval_tmp, eval_const, put_some, put_none, enterF_succ, aBin_sub, aBin_lss, absV_int, absV_bool, Nat.reduceEqDiff, Option.map_some, Option.map_none, if_true, if_false, hlen8 H1 k1, hl3]
      have w1 : IntKind.i64.wrap ((((encR r).length : Nat) : Int) - 1) = (((encR r).length - 1 : Nat) : Int) := by rw [Go.IntWalk.i64_in _ (by omega)]; omega
      have o1 := a1.own.keepN k1
      obtain ⟨v9, s9, o9, _⟩ := own_to (P := Tryd.prog) (k := .i64) sl_24 (by decide) o1 (n := (encR r).length - 1) (by simp only [bytesV_length]; omega)
      simp only [bytesV_take] at o9
      have b9 : ∀ b ∈ (encR r).take ((encR r).length - 1), b < 256 := fun b hb => encR_lt r b (List.mem_of_mem_take hb)
      simp only [goI_ops, opsA_cons, stepA_call, thenV_some, eval_tmp, put_some, put_none, enterF_succ, Nat.reduceEqDiff, List.map_cons, List.map_nil, if_true, if_false, w1, s9]
      refine callI_pure cal10 (pToRecord v9 _ H1 (Rd.own o9) b9 (by simp only [List.length_take]; omega)) ?_
      have e9 : (recD ((encR r).take ((encR r).length - 1))).2 ≠ 0 := recD_cut hr (by omega)
      generalize recD ((encR r).take ((encR r).length - 1)) = D9 at e9
      obtain ⟨q9, er9⟩ := D9
      simp only at e9
      simp only [wpA_region, wpA_seq, seqQ_normal, goI_out, goI_ops, opsA_nil, opsA_cons, stepA_move, stepA_assign, stepA_alloc, stepA_buildSlice, stepA_store, stepA_extract, thenV_some, thenH_some, thenS_some, extV_zero, extV_succ, eval_tmp, put_some, put_none, enterF_zero, enterF_succ, one_int, all_nil, all_cons, aStore_eq, storeGo_ptr, setC_row, setAll_nil, setAll_cons, aAlloc_eq, get_push_new, set_push, Nat.reduceEqDiff, Nat.reduceAdd, List.map_cons, List.map_nil, Option.map_some, Nat.zero_add, List.length_cons, List.length_nil, List.set_cons_zero, List.set_cons_succ, if_true, if_false, Bool.and_self, Nat.le_refl, zc_23, zt_23, hcr]
      obtain ⟨H2, hH2⟩ : ∃ y, y = H1.push (.cells [.int .i64 q9.k, .int .i64 q9.v, .int .i64 q9.t] 23 none) := ⟨_, rfl⟩
      have k2 : Keep H1 H2 none_ := by rw [hH2]; exact Keep.push _ _ _
      rw [← hH2]
      clear hH2
      obtain ⟨v10, h3, s10, o10, k10, d10⟩ := append_elem (P := Tryd.prog) sl_24 (by decide) (o1.keepN k2) (xs := [.int .u8 (c : Int)]) rfl rfl (by simp [bytesV_length, lim]; omega) (by simp [bytesV_length, lim]; omega)
      have o10' : Own h3 5 1 v10 (bytesV (encR r ++ [c])) := by
        have : bytesV (encR r) ++ [V.int .u8 (c : Int)] = bytesV (encR r ++ [c]) := by rw [bytesV_append]; rfl
        rw [← this]; exact o10
      have b10 : ∀ b ∈ encR r ++ [c], b < 256 := fun b hb => by
        rcases List.mem_append.1 hb with hb | hb
        · exact encR_lt r b hb
        · rw [List.mem_singleton.1 hb]; exact hc
      have lb1 : aBuildSlice Tryd.prog 24 1 [(0, .int .u8 (c : Int))] H2 = some (.sl H2.n 0 1 1, H2.push (.cells [.int .u8 (c : Int)] 5 none)) := lit1b H2 c
      simp only [goI_ops, opsA_cons, stepA_append, stepA_call, thenH_some, eval_tmp, put_some, put_none, enterF_succ, Nat.reduceEqDiff, List.map_cons, List.map_nil, if_true, if_false, lb1, s10]
      refine callI_pure cal10 (pToRecord v10 _ h3 (Rd.own o10') b10 (by simp only [List.length_append, List.length_cons, List.length_nil]; omega)) ?_
      have e10 : (recD (encR r ++ [c])).2 ≠ 0 := recD_more hr c
      generalize recD (encR r ++ [c]) = D10 at e10
      obtain ⟨q10, er10⟩ := D10
      simp only at e10
      have c9 : (((er9 : Nat) : Int) == 0) = false := by simp; omega
      have c10 : (((er10 : Nat) : Int) == 0) = false := by simp; omega
      obtain ⟨H4, hH4⟩ : ∃ y, y = h3.push (.cells [.int .i64 q10.k, .int .i64 q10.v, .int .i64 q10.t] 23 none) := ⟨_, rfl⟩
      have k4 : Keep h3 H4 none_ := by rw [hH4]; exact Keep.push _ _ _
      have ne8 : ¬ isId v8 h.n := fun hh => by have := a1.new _ hh; omega
      have m1 := k1.n
      have m2 := k2.n
      have m3 := k10.n
      have m4 := k4.n
      have P1 := (k1.get h.n (by omega) (by simp [none_])).trans p0
      have P2 := (k2.get h.n (by omega) (by simp [none_])).trans P1
      have P3 := (k10.get h.n (by omega) ne8).trans P2
      have P4 := (k4.get h.n (by omega) (by simp [none_])).trans P3
      have U4 : KU H4 := by unfold KU; rw [k4.glob, k10.glob, k2.glob, k1.glob]; exact u1
      have hdr : dropC (AObj.cells (entE x) 35 none) 0 = some (entE x) := rfl
      have hld : (if 11 ≤ (entE x).length then some (V.agg (List.take 11 (entE x))) else none) = some (.agg (entE x)) := rfl
      simp only [wpA_skip, wpA_region, wpA_seq, wpA_cond, condI_false, seqQ_normal, goI_out, goI_ops, opsA_nil, opsA_cons, opsA_guardS, gvI_same, slotAt_zero, slotAt_succ, stepA_move, stepA_assign, stepA_pick, stepA_alloc, stepA_load, stepA_store, stepA_binOp, stepA_extract, thenV_some, thenH_some, thenS_some, pickV_false, extV_zero, extV_succ, eval_tmp, eval_const, put_some, put_none, enterF_succ, aBin_eql, absV_int, absV_bool, one_int, all_nil, all_cons, aLoad_eq, aPlace_ptr, aStore_eq, storeGo_ptr, setC_row, setAll_nil, setAll_cons, aAlloc_eq, get_push_new, set_push, Nat.reduceEqDiff, Nat.reduceAdd, Option.map_some, Nat.zero_add, List.length_cons, List.length_nil, List.set_cons_zero, List.set_cons_succ, if_true, if_false, Bool.and_self, Nat.le_refl, lt_35, zc_23, zt_23, hcr, c9, c10]
      rw [← hH4]
      clear hH4
      simp only [goI_ops, opsA_cons, stepA_call, thenV_some, eval_tmp, put_some, put_none, enterF_succ, loadGo_row, Nat.reduceEqDiff, List.map_cons, List.map_nil, if_true, if_false, P4, hdr, hld]
      refine callI_of cal14 (sEntry x H4 U4 hx hl) fun rv h5 ⟨v16, ev, a5⟩ => ?_
      subst ev
      have m5 := a5.keep.n
      have P5 := (a5.keep.get h.n (by omega) (by simp [none_])).trans P4
      have U5 : KU h5 := by unfold KU; rw [a5.keep.glob]; exact U4
      cases hm : mayB x
      · have cv : codeV x = 1 := by simp [codeV, hm]
        rw [cv]
        simp only [wpA_region, wpA_seq, wpA_cond, condI_true, seqQ_normal, goI_out, goI_ops, opsA_nil, opsA_cons, opsA_guardS, gvI_same, slotAt_zero, slotAt_succ, stepA_move, stepA_assign, stepA_load, stepA_binOp, stepA_extract, stepA_call, thenV_some, extV_zero, extV_succ, eval_tmp, eval_const, put_some, put_none, enterF_succ, aBin_neq, absV_int, aLoad_eq, loadGo_row, aPlace_ptr, Int.reduceBNe, Nat.reduceEqDiff, List.map_cons, List.map_nil, if_true, if_false, lt_35, P5, hdr, hld]
        refine callI_pure cal19 (pMay x h5 U5 hl) ?_
        rw [hm]
        simp only [wpA_ret, seqQ_normal, seqQ_ret, endI_mk, goI_out, goI_ops, opsA_nil, opsA_cons, opsA_guardS, gvI_same, slotAt_zero, slotAt_succ, stepA_assign, stepA_pick, stepA_unOp, thenV_some, pickV_true, eval_tmp, eval_const, put_some, put_none, enterF_succ, aUn_not, absV_bool, Nat.reduceEqDiff, if_true, if_false, Bool.not_false, retA_ret, Tryd.results5, resultsA_1]
        exact hid_mk rfl
      have cv : codeV x = 0 := by simp [codeV, hm]
      have ev : encV x = encT x := by simp [encV, hm]
      rw [cv]
      rw [ev] at a5
      have g11 := encT_ge hr0 hm
      have g4k := encT_le hr0 hm
      have hce : ∀ x : Ent, (V.agg (entE x)).cells = some (entE x) := fun _ => rfl
      have hst : ∀ x : Ent, setC (some 11) (AObj.cells [.int .i64 0, .int .i64 0, .int .i64 0, .int .i64 0, .int .i64 0, .int .i64 0, .int .i64 0, .int .i64 0, .bool false, .snil, .snil] 35 none) 0 (entE x) = some (.cells (entE x) 35 none) := fun x => rfl
      simp only [wpA_skip, wpA_region, wpA_seq, wpA_cond, condI_false, seqQ_normal, goI_out, goI_ops, opsA_nil, opsA_cons, stepA_move, stepA_assign, stepA_binOp, stepA_extract, stepA_call, thenV_some, extV_zero, extV_succ, eval_tmp, eval_const, put_some, put_none, enterF_succ, aBin_neq, absV_int, bne_self_eq_false, Nat.reduceEqDiff, List.map_cons, List.map_nil, if_true, if_false]
      refine callI_pure cal16 (pToEntry v16 _ h5 U5 (Rd.own a5.own) (encT_lt x) (by omega)) ?_
      rw [entD_enc hr0 hm]
      have hlen16 := (Rd.own a5.own).len
      obtain ⟨H6, hH6⟩ : ∃ y, y = h5.push (.cells (entE x) 35 none) := ⟨_, rfl⟩
      have k6 : Keep h5 H6 none_ := by rw [hH6]; exact Keep.push _ _ _
      have y6 : H6.get h5.n = .cells (entE x) 35 none := by rw [hH6]; exact get_push_new
      have z6 : H6.n = h5.n + 1 := by rw [hH6]; rfl
      have hl11 : decide ((((encT x).length : Nat) : Int) < 11) = false := decide_eq_false (by omega)
      have w2 : IntKind.i64.wrap ((((encT x).length : Nat) : Int) - 1) = (((encT x).length - 1 : Nat) : Int) := by rw [Go.IntWalk.i64_in _ (by omega)]; omega
      have o6 := a5.own.keepN k6
      obtain ⟨v17, s17, o17, _⟩ := own_to (P := Tryd.prog) (k := .i64) sl_24 (by decide) o6 (n := (encT x).length - 1) (by simp only [bytesV_length]; omega)
      simp only [bytesV_take] at o17
      have b17 : ∀ b ∈ (encT x).take ((encT x).length - 1), b < 256 := fun b hb => encT_lt x b (List.mem_of_mem_take hb)
      have U6 : KU H6 := by unfold KU; rw [k6.glob]; exact U5
      simp only [wpA_region, wpA_seq, seqQ_normal, goI_out, goI_ops, opsA_nil, opsA_cons, stepA_move, stepA_assign, stepA_alloc, stepA_store, stepA_extract, stepA_len, thenV_some, thenH_some, thenS_some, extV_zero, extV_succ, eval_tmp, put_some, put_none, enterF_succ, aStore_eq, storeGo_ptr, aAlloc_eq, get_push_new, set_push, Nat.reduceEqDiff, Option.map_some, if_true, if_false, zc_35, zt_35, hce, hst]
      rw [← hH6]
      clear hH6
      simp only [wpA_skip, wpA_region, wpA_seq, wpA_cond, condI_false, seqQ_normal, goI_out, goI_ops, opsA_nil, opsA_cons, stepA_move, stepA_binOp, stepA_slice, stepA_len, stepA_call, thenV_some, eval_tmp, eval_const, put_some, put_none, enterF_succ, aBin_sub, aBin_lss, absV_int, Nat.reduceEqDiff, List.map_cons, List.map_nil, Option.map_some, Option.map_none, if_true, if_false, hlen16 H6 k6, hl11, w2, s17]
      refine callI_pure cal16 (pToEntry v17 _ H6 U6 (Rd.own o17) b17 (by simp only [List.length_take]; omega)) ?_
      have e17 : (entD ((encT x).take ((encT x).length - 1))).2 ≠ 0 := entD_cut hr0 hm
      generalize entD ((encT x).take ((encT x).length - 1)) = D17 at e17
      obtain ⟨q17, er17⟩ := D17
      simp only at e17
      simp only [wpA_region, wpA_seq, seqQ_normal, goI_out, goI_ops, opsA_nil, opsA_cons, stepA_move, stepA_assign, stepA_alloc, stepA_buildSlice, stepA_store, stepA_extract, thenV_some, thenH_some, thenS_some, extV_zero, extV_succ, eval_tmp, put_some, put_none, enterF_zero, enterF_succ, aStore_eq, storeGo_ptr, aAlloc_eq, get_push_new, set_push, Nat.reduceEqDiff, List.map_cons, List.map_nil, Option.map_some, if_true, if_false, zc_35, zt_35, hce, hst]
      obtain ⟨H7, hH7⟩ : ∃ y, y = H6.push (.cells (entE q17) 35 none) := ⟨_, rfl⟩
      have k7 : Keep H6 H7 none_ := by rw [hH7]; exact Keep.push _ _ _
      rw [← hH7]
      clear hH7
      obtain ⟨v18, h8, s18, o18, k18, d18⟩ := append_elem (P := Tryd.prog) sl_24 (by decide) (o6.keepN k7) (xs := [.int .u8 (c : Int)]) rfl rfl (by simp [bytesV_length, lim]; omega) (by simp [bytesV_length, lim]; omega)
      have o18' : Own h8 5 1 v18 (bytesV (encT x ++ [c])) := by
        have : bytesV (encT x) ++ [V.int .u8 (c : Int)] = bytesV (encT x ++ [c]) := by rw [bytesV_append]; rfl
        rw [← this]; exact o18
      have b18 : ∀ b ∈ encT x ++ [c], b < 256 := fun b hb => by
        rcases List.mem_append.1 hb with hb | hb
        · exact encT_lt x b hb
        · rw [List.mem_singleton.1 hb]; exact hc
      have lb2 : aBuildSlice Tryd.prog 24 1 [(0, .int .u8 (c : Int))] H7 = some (.sl H7.n 0 1 1, H7.push (.cells [.int .u8 (c : Int)] 5 none)) := lit1b H7 c
      have ne16 : ∀ j, j < H4.n → ¬ isId v16 j := fun j hj hh => by have := a5.new _ hh; omega
      have ne16' : ¬ isId v16 h5.n := fun hh => by have := a5.own.lt _ hh; omega
      have m6 := k6.n
      have m7 := k7.n
      have m8 := k18.n
      have U8 : KU h8 := by unfold KU; rw [k18.glob, k7.glob]; exact U6
      have P6 := (k6.get h.n (by omega) (by simp [none_])).trans P5
      have P7 := (k7.get h.n (by omega) (by simp [none_])).trans P6
      have P8 := (k18.get h.n (by omega) (ne16 _ (by omega))).trans P7
      have Y7 := (k7.get h5.n (by omega) (by simp [none_])).trans y6
      have Y8 := (k18.get h5.n (by omega) ne16').trans Y7
      simp only [goI_ops, opsA_cons, stepA_append, stepA_call, thenH_some, eval_tmp, put_some, put_none, enterF_succ, Nat.reduceEqDiff, List.map_cons, List.map_nil, if_true, if_false, lb2, s18]
      refine callI_pure cal16 (pToEntry v18 _ h8 U8 (Rd.own o18') b18 (by simp only [List.length_append, List.length_cons, List.length_nil]; omega)) ?_
      have e18 : (entD (encT x ++ [c])).2 ≠ 0 := entD_more hr0 hm c
      generalize entD (encT x ++ [c]) = D18 at e18
      obtain ⟨q18, er18⟩ := D18
      simp only at e18
      have c17 : (((er17 : Nat) : Int) != 0) = true := by simp; omega
      have c18 : (((er18 : Nat) : Int) != 0) = true := by simp; omega
      have P9 : ∀ o, (h8.push o).get h.n = _ := fun o => (get_push_lt (by omega)).trans P8
      have Y9 : ∀ o, (h8.push o).get h5.n = _ := fun o => (get_push_lt (by omega)).trans Y8
      have z0 : (((0 : Nat) : Int) == 0) = true := rfl
      simp only [wpA_region, wpA_seq, seqQ_normal, goI_out, goI_ops, opsA_nil, opsA_cons, opsA_guardS, gvI_same, slotAt_zero, slotAt_succ, stepA_move, stepA_assign, stepA_pick, stepA_alloc, stepA_load, stepA_store, stepA_binOp, stepA_extract, stepA_call, thenV_some, thenH_some, thenS_some, pickV_true, extV_zero, extV_succ, eval_tmp, eval_const, put_some, put_none, enterF_succ, aBin_eql, absV_int, absV_bool, aLoad_eq, loadGo_row, aPlace_ptr, aStore_eq, storeGo_ptr, aAlloc_eq, get_push_new, set_push, Nat.reduceEqDiff, List.map_cons, List.map_nil, Option.map_some, if_true, if_false, lt_35, zc_35, zt_35, hce, hst, z0, P9, Y9, hdr, hld]
      refine callI_pure cal18 (pSame3 x x _ hl) ?_
      simp only [wpA_ret, seqQ_normal, endI_mk, goI_out, goI_ops, opsA_nil, opsA_cons, opsA_guardS, gvI_same, slotAt_zero, slotAt_succ, stepA_move, stepA_assign, stepA_pick, stepA_binOp, thenV_some, pickV_true, eval_tmp, eval_const, put_some, put_none, enterF_succ, aBin_neq, absV_int, absV_bool, decide_true, Nat.reduceEqDiff, if_true, if_false, c17, c18, decide_true, retA_ret, Tryd.results5, resultsA_1]
      exact hid_mk rfl
  · obtain ⟨H1, hH1⟩ : ∃ y, y = h1.push (.cells [.int .i64 r.k, .int .i64 r.v, .int .i64 r.t] 23 none) := ⟨_, rfl⟩
    have k1 : Keep h1 H1 none_ := by rw [hH1]; exact Keep.push _ _ _
    have P1' := (k1.get (h.n + 1) (by omega) (by simp [none_])).trans p1
    obtain ⟨t1, t2⟩ := (time_iff _).1 ht
    have c1 : decide (0 ≤ r.t) = true := decide_eq_true t1
    have c2 : decide (r.t ≤ 1099511627776) = true := decide_eq_true t2
    have rzz := fun xo yo => rz r r xo yo
    simp only [decide_true, Bool.not_true] at rzz
    simp only [if_true]
    simp only [wpA_region, wpA_seq, seqQ_normal, goI_out, goI_ops, opsA_nil, opsA_cons, opsA_guardS, gvI_same, slotAt_zero, slotAt_succ, stepA_move, stepA_assign, stepA_pick, stepA_alloc, stepA_load, stepA_store, stepA_binOp, stepA_fieldAddr, stepA_extract, stepA_len, thenV_some, thenH_some, thenS_some, pickV_true, pickV_false, extV_zero, extV_succ, eval_tmp, eval_const, put_some, put_none, enterF_succ, aBin_eql, aBin_leq, aBin_geq, aBin_bool_neq, absV_int, absV_bool, one_int, all_nil, all_cons, aField_eq, fieldGo_ptr, aLoad_eq, loadGo_one, loadGo_row, aPlace_ptr, dropC_cells, aStore_eq, storeGo_ptr, setC_row, setAll_nil, setAll_cons, aAlloc_eq, get_push_new, set_push, bne_self_eq_false, Nat.reduceEqDiff, Nat.reduceAdd, Nat.reduceLeDiff, Option.map_some, Nat.zero_add, Nat.zero_le, List.length_cons, List.length_nil, List.drop_zero, List.drop_succ_cons, List.take_succ_cons, List.take_nil, List.set_cons_zero, List.set_cons_succ, if_true, if_false, Bool.and_self, Nat.le_refl, bt_4, ft_23_2, lt_2, lt_23, zc_23, zt_23, hcr, p1p, c1, c2, z1, rzz]
    rw [← hH1]
    clear hH1
    simp only [wpA_skip, wpA_region, wpA_seq, wpA_cond, condI_false, seqQ_normal, goI_out, goI_ops, opsA_nil, opsA_cons, opsA_guardS, gvI_same, slotAt_zero, slotAt_succ, stepA_move, stepA_pick, stepA_binOp, stepA_slice, stepA_len, thenV_some, pickV_false, eval_tmp, eval_const, put_some, put_none, enterF_succ, aBin_sub, aBin_lss, absV_int, absV_bool, Nat.reduceEqDiff, Option.map_some, Option.map_none, if_true, if_false, hlen8 H1 k1, hl3]
    have w1 : IntKind.i64.wrap ((((encR r).length : Nat) : Int) - 1) = (((encR r).length - 1 : Nat) : Int) := by rw [Go.IntWalk.i64_in _ (by omega)]; omega
    have o1 := a1.own.keepN k1
    obtain ⟨v9, s9, o9, _⟩ := own_to (P := Tryd.prog) (k := .i64) sl_24 (by decide) o1 (n := (encR r).length - 1) (by simp only [bytesV_length]; omega)
    simp only [bytesV_take] at o9
    have b9 : ∀ b ∈ (encR r).take ((encR r).length - 1), b < 256 := fun b hb => encR_lt r b (List.mem_of_mem_take hb)
    simp only [goI_ops, opsA_cons, stepA_call, thenV_some, eval_tmp, put_some, put_none, enterF_succ, Nat.reduceEqDiff, List.map_cons, List.map_nil, if_true, if_false, w1, s9]
    refine callI_pure cal10 (pToRecord v9 _ H1 (Rd.own o9) b9 (by simp only [List.length_take]; omega)) ?_
    have e9 : (recD ((encR r).take ((encR r).length - 1))).2 ≠ 0 := recD_cut hr (by omega)
    generalize recD ((encR r).take ((encR r).length - 1)) = D9 at e9
    obtain ⟨q9, er9⟩ := D9
    simp only at e9
    simp only [wpA_region, wpA_seq, seqQ_normal, goI_out, goI_ops, opsA_nil, opsA_cons, stepA_move, stepA_assign, stepA_alloc, stepA_buildSlice, stepA_store, stepA_extract, thenV_some, thenH_some, thenS_some, extV_zero, extV_succ, eval_tmp, put_some, put_none, enterF_zero, enterF_succ, one_int, all_nil, all_cons, aStore_eq, storeGo_ptr, setC_row, setAll_nil, setAll_cons, aAlloc_eq, get_push_new, set_push, Nat.reduceEqDiff, Nat.reduceAdd, List.map_cons, List.map_nil, Option.map_some, Nat.zero_add, List.length_cons, List.length_nil, List.set_cons_zero, List.set_cons_succ, if_true, if_false, Bool.and_self, Nat.le_refl, zc_23, zt_23, hcr]
    obtain ⟨H2, hH2⟩ : ∃ y, y = H1.push (.cells [.int .i64 q9.k, .int .i64 q9.v, .int .i64 q9.t] 23 none) := ⟨_, rfl⟩
    have k2 : Keep H1 H2 none_ := by rw [hH2]; exact Keep.push _ _ _
    rw [← hH2]
    clear hH2
    obtain ⟨v10, h3, s10, o10, k10, d10⟩ := append_elem (P := Tryd.prog) sl_24 (by decide) (o1.keepN k2) (xs := [.int .u8 (c : Int)]) rfl rfl (by simp [bytesV_length, lim]; omega) (by simp [bytesV_length, lim]; omega)
    have o10' : Own h3 5 1 v10 (bytesV (encR r ++ [c])) := by
      have : bytesV (encR r) ++ [V.int .u8 (c : Int)] = bytesV (encR r ++ [c]) := by rw [bytesV_append]; rfl
      rw [← this]; exact o10
    have b10 : ∀ b ∈ encR r ++ [c], b < 256 := fun b hb => by
      rcases List.mem_append.1 hb with hb | hb
      · exact encR_lt r b hb
      · rw [List.mem_singleton.1 hb]; exact hc
    have lb1 : aBuildSlice Tryd.prog 24 1 [(0, .int .u8 (c : Int))] H2 = some (.sl H2.n 0 1 1, H2.push (.cells [.int .u8 (c : Int)] 5 none)) := lit1b H2 c
    simp only [goI_ops, opsA_cons, stepA_append, stepA_call, thenH_some, eval_tmp, put_some, put_none, enterF_succ, Nat.reduceEqDiff, List.map_cons, List.map_nil, if_true, if_false, lb1, s10]
    refine callI_pure cal10 (pToRecord v10 _ h3 (Rd.own o10') b10 (by simp only [List.length_append, List.length_cons, List.length_nil]; omega)) ?_
    have e10 : (recD (encR r ++ [c])).2 ≠ 0 := recD_more hr c
    generalize recD (encR r ++ [c]) = D10 at e10
    obtain ⟨q10, er10⟩ := D10
    simp only at e10
    have c9 : (((er9 : Nat) : Int) == 0) = false := by simp; omega
    have c10 : (((er10 : Nat) : Int) == 0) = false := by simp; omega
    obtain ⟨H4, hH4⟩ : ∃ y, y = h3.push (.cells [.int .i64 q10.k, .int .i64 q10.v, .int .i64 q10.t] 23 none) := ⟨_, rfl⟩
    have k4 : Keep h3 H4 none_ := by rw [hH4]; exact Keep.push _ _ _
    have ne8 : ¬ isId v8 h.n := fun hh => by have := a1.new _ hh; omega
    have m1 := k1.n
    have m2 := k2.n
    have m3 := k10.n
    have m4 := k4.n
    have P1 := (k1.get h.n (by omega) (by simp [none_])).trans p0
    have P2 := (k2.get h.n (by omega) (by simp [none_])).trans P1
    have P3 := (k10.get h.n (by omega) ne8).trans P2
    have P4 := (k4.get h.n (by omega) (by simp [none_])).trans P3
    have U4 : KU H4 := by unfold KU; rw [k4.glob, k10.glob, k2.glob, k1.glob]; exact u1
    have hdr : dropC (AObj.cells (entE x) 35 none) 0 = some (entE x) := rfl
    have hld : (if 11 ≤ (entE x).length then some (V.agg (List.take 11 (entE x))) else none) = some (.agg (entE x)) := rfl
    simp only [wpA_skip, wpA_region, wpA_seq, wpA_cond, condI_false, seqQ_normal, goI_out, goI_ops, opsA_nil, opsA_cons, opsA_guardS, gvI_same, slotAt_zero, slotAt_succ, stepA_move, stepA_assign, stepA_pick, stepA_alloc, stepA_load, stepA_store, stepA_binOp, stepA_extract, thenV_some, thenH_some, thenS_some, pickV_false, extV_zero, extV_succ, eval_tmp, eval_const, put_some, put_none, enterF_succ, aBin_eql, absV_int, absV_bool, one_int, all_nil, all_cons, aLoad_eq, aPlace_ptr, aStore_eq, storeGo_ptr, setC_row, setAll_nil, setAll_cons, aAlloc_eq, get_push_new, set_push, Nat.reduceEqDiff, Nat.reduceAdd, Option.map_some, Nat.zero_add, List.length_cons, List.length_nil, List.set_cons_zero, List.set_cons_succ, if_true, if_false, Bool.and_self, Nat.le_refl, lt_35, zc_23, zt_23, hcr, c9, c10]
    rw [← hH4]
    clear hH4
    simp only [goI_ops, opsA_cons, stepA_call, thenV_some, eval_tmp, put_some, put_none, enterF_succ, loadGo_row, Nat.reduceEqDiff, List.map_cons, List.map_nil, if_true, if_false, P4, hdr, hld]
    refine callI_of cal14 (sEntry x H4 U4 hx hl) fun rv h5 ⟨v16, ev, a5⟩ => ?_
    subst ev
    have m5 := a5.keep.n
    have P5 := (a5.keep.get h.n (by omega) (by simp [none_])).trans P4
    have U5 : KU h5 := by unfold KU; rw [a5.keep.glob]; exact U4
    cases hm : mayB x
    · have cv : codeV x = 1 := by simp [codeV, hm]
      rw [cv]
      simp only [wpA_region, wpA_seq, wpA_cond, condI_true, seqQ_normal, goI_out, goI_ops, opsA_nil, opsA_cons, opsA_guardS, gvI_same, slotAt_zero, slotAt_succ, stepA_move, stepA_assign, stepA_load, stepA_binOp, stepA_extract, stepA_call, thenV_some, extV_zero, extV_succ, eval_tmp, eval_const, put_some, put_none, enterF_succ, aBin_neq, absV_int, aLoad_eq, loadGo_row, aPlace_ptr, Int.reduceBNe, Nat.reduceEqDiff, List.map_cons, List.map_nil, if_true, if_false, lt_35, P5, hdr, hld]
      refine callI_pure cal19 (pMay x h5 U5 hl) ?_
      rw [hm]
      simp only [wpA_ret, seqQ_normal, seqQ_ret, endI_mk, goI_out, goI_ops, opsA_nil, opsA_cons, opsA_guardS, gvI_same, slotAt_zero, slotAt_succ, stepA_assign, stepA_pick, stepA_unOp, thenV_some, pickV_true, eval_tmp, eval_const, put_some, put_none, enterF_succ, aUn_not, absV_bool, Nat.reduceEqDiff, if_true, if_false, Bool.not_false, retA_ret, Tryd.results5, resultsA_1]
      exact hid_mk rfl
    have cv : codeV x = 0 := by simp [codeV, hm]
    have ev : encV x = encT x := by simp [encV, hm]
    rw [cv]
    rw [ev] at a5
    have g11 := encT_ge hr0 hm
    have g4k := encT_le hr0 hm
    have hce : ∀ x : Ent, (V.agg (entE x)).cells = some (entE x) := fun _ => rfl
    have hst : ∀ x : Ent, setC (some 11) (AObj.cells [.int .i64 0, .int .i64 0, .int .i64 0, .int .i64 0, .int .i64 0, .int .i64 0, .int .i64 0, .int .i64 0, .bool false, .snil, .snil] 35 none) 0 (entE x) = some (.cells (entE x) 35 none) := fun x => rfl
    simp only [wpA_skip, wpA_region, wpA_seq, wpA_cond, condI_false, seqQ_normal, goI_out, goI_ops, opsA_nil, opsA_cons, stepA_move, stepA_assign, stepA_binOp, stepA_extract, stepA_call, thenV_some, extV_zero, extV_succ, eval_tmp, eval_const, put_some, put_none, enterF_succ, aBin_neq, absV_int, bne_self_eq_false, Nat.reduceEqDiff, List.map_cons, List.map_nil, if_true, if_false]
    refine callI_pure cal16 (pToEntry v16 _ h5 U5 (Rd.own a5.own) (encT_lt x) (by omega)) ?_
    rw [entD_enc hr0 hm]
    have hlen16 := (Rd.own a5.own).len
    obtain ⟨H6, hH6⟩ : ∃ y, y = h5.push (.cells (entE x) 35 none) := ⟨_, rfl⟩
    have k6 : Keep h5 H6 none_ := by rw [hH6]; exact Keep.push _ _ _
    have y6 : H6.get h5.n = .cells (entE x) 35 none := by rw [hH6]; exact get_push_new
    have z6 : H6.n = h5.n + 1 := by rw [hH6]; rfl
    have hl11 : decide ((((encT x).length : Nat) : Int) < 11) = false := decide_eq_false (by omega)
    have w2 : IntKind.i64.wrap ((((encT x).length : Nat) : Int) - 1) = (((encT x).length - 1 : Nat) : Int) := by rw [Go.IntWalk.i64_in _ (by omega)]; omega
    have o6 := a5.own.keepN k6
    obtain ⟨v17, s17, o17, _⟩ := own_to (P := Tryd.prog) (k := .i64) sl_24 (by decide) o6 (n := (encT x).length - 1) (by simp only [bytesV_length]; omega)
    simp only [bytesV_take] at o17
    have b17 : ∀ b ∈ (encT x).take ((encT x).length - 1), b < 256 := fun b hb => encT_lt x b (List.mem_of_mem_take hb)
    have U6 : KU H6 := by unfold KU; rw [k6.glob]; exact U5
    simp only [wpA_region, wpA_seq, seqQ_normal, goI_out, goI_ops, opsA_nil, opsA_cons, stepA_move, stepA_assign, stepA_alloc, stepA_store, stepA_extract, stepA_len, thenV_some, thenH_some, thenS_some, extV_zero, extV_succ, eval_tmp, put_some, put_none, enterF_succ, aStore_eq, storeGo_ptr, aAlloc_eq, get_push_new, set_push, Nat.reduceEqDiff, Option.map_some, if_true, if_false, zc_35, zt_35, hce, hst]
    rw [← hH6]
    clear hH6
    simp only [wpA_skip, wpA_region, wpA_seq, wpA_cond, condI_false, seqQ_normal, goI_out, goI_ops, opsA_nil, opsA_cons, stepA_move, stepA_binOp, stepA_slice, stepA_len, stepA_call, thenV_some, eval_tmp, eval_const, put_some, put_none, enterF_succ, aBin_sub, aBin_lss, absV_int, Nat.reduceEqDiff, List.map_cons, List.map_nil, Option.map_some, Option.map_none, if_true, if_false, hlen16 H6 k6, hl11, w2, s17]
    refine callI_pure cal16 (pToEntry v17 _ H6 U6 (Rd.own o17) b17 (by simp only [List.length_take]; omega)) ?_
    have e17 : (entD ((encT x).take ((encT x).length - 1))).2 ≠ 0 := entD_cut hr0 hm
    generalize entD ((encT x).take ((encT x).length - 1)) = D17 at e17
    obtain ⟨q17, er17⟩ := D17
    simp only at e17
    simp only [wpA_region, wpA_seq, seqQ_normal, goI_out, goI_ops, opsA_nil, opsA_cons, stepA_move, stepA_assign, stepA_alloc, stepA_buildSlice, stepA_store, stepA_extract, thenV_some, thenH_some, thenS_some, extV_zero, extV_succ, eval_tmp, put_some, put_none, enterF_zero, enterF_succ, aStore_eq, storeGo_ptr, aAlloc_eq, get_push_new, set_push, Nat.reduceEqDiff, List.map_cons, List.map_nil, Option.map_some, if_true, if_false, zc_35, zt_35, hce, hst]
    obtain ⟨H7, hH7⟩ : ∃ y, y = H6.push (.cells (entE q17) 35 none) := ⟨_, rfl⟩
    have k7 : Keep H6 H7 none_ := by rw [hH7]; exact Keep.push _ _ _
    rw [← hH7]
    clear hH7
    obtain ⟨v18, h8, s18, o18, k18, d18⟩ := append_elem (P := Tryd.prog) sl_24 (by decide) (o6.keepN k7) (xs := [.int .u8 (c : Int)]) rfl rfl (by simp [bytesV_length, lim]; omega) (by simp [bytesV_length, lim]; omega)
    have o18' : Own h8 5 1 v18 (bytesV (encT x ++ [c])) := by
      have : bytesV (encT x) ++ [V.int .u8 (c : Int)] = bytesV (encT x ++ [c]) := by rw [bytesV_append]; rfl
      rw [← this]; exact o18
    have b18 : ∀ b ∈ encT x ++ [c], b < 256 := fun b hb => by
      rcases List.mem_append.1 hb with hb | hb
      · exact encT_lt x b hb
      · rw [List.mem_singleton.1 hb]; exact hc
    have lb2 : aBuildSlice Tryd.prog 24 1 [(0, .int .u8 (c : Int))] H7 = some (.sl H7.n 0 1 1, H7.push (.cells [.int .u8 (c : Int)] 5 none)) := lit1b H7 c
    have ne16 : ∀ j, j < H4.n → ¬ isId v16 j := fun j hj hh => by have := a5.new _ hh; omega
    have ne16' : ¬ isId v16 h5.n := fun hh => by have := a5.own.lt _ hh; omega
    have m6 := k6.n
    have m7 := k7.n
    have m8 := k18.n
    have U8 : KU h8 := by unfold KU; rw [k18.glob, k7.glob]; exact U6
    have P6 := (k6.get h.n (by omega) (by simp [none_])).trans P5
    have P7 := (k7.get h.n (by omega) (by simp [none_])).trans P6
    have P8 := (k18.get h.n (by omega) (ne16 _ (by omega))).trans P7
    have Y7 := (k7.get h5.n (by omega) (by simp [none_])).trans y6
    have Y8 := (k18.get h5.n (by omega) ne16').trans Y7
    simp only [goI_ops, opsA_cons, stepA_append, stepA_call, thenH_some, eval_tmp, put_some, put_none, enterF_succ, Nat.reduceEqDiff, List.map_cons, List.map_nil, if_true, if_false, lb2, s18]
    refine callI_pure cal16 (pToEntry v18 _ h8 U8 (Rd.own o18') b18 (by simp only [List.length_append, List.length_cons, List.length_nil]; omega)) ?_
    have e18 : (entD (encT x ++ [c])).2 ≠ 0 := entD_more hr0 hm c
    generalize entD (encT x ++ [c]) = D18 at e18
    obtain ⟨q18, er18⟩ := D18
    simp only at e18
    have c17 : (((er17 : Nat) : Int) != 0) = true := by simp; omega
    have c18 : (((er18 : Nat) : Int) != 0) = true := by simp; omega
    have P9 : ∀ o, (h8.push o).get h.n = _ := fun o => (get_push_lt (by omega)).trans P8
    have Y9 : ∀ o, (h8.push o).get h5.n = _ := fun o => (get_push_lt (by omega)).trans Y8
    have z0 : (((0 : Nat) : Int) == 0) = true := rfl
    simp only [wpA_region, wpA_seq, seqQ_normal, goI_out, goI_ops, opsA_nil, opsA_cons, opsA_guardS, gvI_same, slotAt_zero, slotAt_succ, stepA_move, stepA_assign, stepA_pick, stepA_alloc, stepA_load, stepA_store, stepA_binOp, stepA_extract, stepA_call, thenV_some, thenH_some, thenS_some, pickV_true, extV_zero, extV_succ, eval_tmp, eval_const, put_some, put_none, enterF_succ, aBin_eql, absV_int, absV_bool, aLoad_eq, loadGo_row, aPlace_ptr, aStore_eq, storeGo_ptr, aAlloc_eq, get_push_new, set_push, Nat.reduceEqDiff, List.map_cons, List.map_nil, Option.map_some, if_true, if_false, lt_35, zc_35, zt_35, hce, hst, z0, P9, Y9, hdr, hld]
    refine callI_pure cal18 (pSame3 x x _ hl) ?_
    simp only [wpA_ret, seqQ_normal, endI_mk, goI_out, goI_ops, opsA_nil, opsA_cons, opsA_guardS, gvI_same, slotAt_zero, slotAt_succ, stepA_move, stepA_assign, stepA_pick, stepA_binOp, thenV_some, pickV_true, eval_tmp, eval_const, put_some, put_none, enterF_succ, aBin_neq, absV_int, absV_bool, decide_true, Nat.reduceEqDiff, if_true, if_false, c17, c18, decide_true, retA_ret, Tryd.results5, resultsA_1]
    exact hid_mk rfl
end Go.Proofs.YtjphnabogfiahaaDoor.Pk
