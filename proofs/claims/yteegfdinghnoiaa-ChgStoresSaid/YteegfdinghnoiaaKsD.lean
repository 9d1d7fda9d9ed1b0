/-
  What functions of the program do, told of abstract states. Conditions: as each theorem says.
-/
import Derived.Test.YteegfdinghnoiaaKsC
import Derived.Test.YteegfdinghnoiaaMeK
namespace Go.Proofs.Yteegfdinghnoiaa.Pk
open Go Go.Proofs Go.Proofs.Yteegfdinghnoiaa.Ab
set_option linter.unusedVariables false
set_option linter.unusedSimpArgs false
set_option maxRecDepth 10000
theorem st_new {h h1 h2 h3 : AHeap} (q1 : IsKv h1 h.n .snil 1024 []) (q2 : IsWin h2 (h1.n + 1) h1.n 1024 10 [] 0) (q3 : IsSes h3 h2.n .snil 1024 5 []) (k1 : Keep h h1 none_) (k2 : Keep h1 h2 none_) (k3 : Keep h2 h3 none_) :
    St h3 h.n (h1.n + 1) h2.n ⟨[h.n], [], .snil, [], []⟩ ⟨[h1.n + 1, h1.n], [], .snil, [], []⟩ ⟨[h2.n], [], .snil, [], []⟩ 0 := by
  have l1 := q1.lt
  have l2 := q2.lt
  have l3 := q3.lt
  refine ⟨⟨.kv ((q1.keepN k2).keepN k3), Own.snil _ _ _, by simp [idOf], rfl, by simp⟩,
    ⟨.win (e := []) ⟨q2.keepN k3, ⟨by simp [wE, mapK], by simp [wE, mapK]⟩, KNodup.nil, by simp⟩ (by simp [RelW]) (WfK.nil ⟨by decide, by decide⟩), Own.snil _ _ _, by simp [idOf], rfl, by simp⟩,
    ⟨.ses q3, Own.snil _ _ _, by simp [idOf], rfl, by simp⟩, ?_, ?_, ?_⟩
  all_goals
    intro q hq hh
    simp [Cl.ft, idL, idOf] at hq hh
    omega
set_option maxHeartbeats 4000000 in
theorem chgStores (ds : List Dd) (hd : ds.length < 2 ^ 47) (h : AHeap) :
    SCalls Try.prog 3 [.imm ds.length (ds.flatMap ddE)] h (fun r h' => r = .bool true) := by
  refine SCalls.enterI (c := _) Try.func3 rfl (by kernel_rfl) (by simp) ?_
  simp only [wpA_region, wpA_seq, seqQ_normal, goI_out, goI_ops, opsA_nil, opsA_cons, stepA_assign, stepA_call, eval_const, absV_bool, List.map_nil]
  refine callI_pure cal4 (pShown15 h) ?_
  simp only [wpA_region, wpA_seq, seqQ_normal, goI_out, goI_ops, opsA_nil, opsA_cons, stepA_assign, stepA_call, eval_tmp, eval_const, put_some, enterF_succ, absV_int, Nat.reduceEqDiff, List.map_cons, List.map_nil, if_true, if_false]
  refine callI_of cal5 (kvNew h 1024 (by decide) (by decide)) fun r h1 ⟨e1, q1, k1⟩ => ?_
  subst e1
  simp only [wpA_region, wpA_seq, seqQ_normal, goI_out, goI_ops, opsA_nil, opsA_cons, stepA_move, stepA_assign, stepA_extract, stepA_call, thenV_some, extV_zero, extV_succ, eval_tmp, eval_const, put_some, enterF_succ, absV_int, Nat.reduceEqDiff, List.map_cons, List.map_nil, if_true, if_false]
  refine callI_of cal6 (winNew h1 1024 10 (by decide) (by decide) (by decide) (by decide)) fun r h2 ⟨e2, q2, k2⟩ => ?_
  subst e2
  simp only [wpA_region, wpA_seq, seqQ_normal, goI_out, goI_ops, opsA_nil, opsA_cons, stepA_move, stepA_assign, stepA_extract, stepA_call, thenV_some, extV_zero, extV_succ, eval_tmp, eval_const, put_some, enterF_succ, absV_int, Nat.reduceEqDiff, List.map_cons, List.map_nil, if_true, if_false]
  refine callI_of cal7 (sesNew 1024 5 (by decide) (by decide) (by decide) (by decide) h2) fun r h3 ⟨e3, e3'⟩ => ?_
  subst e3
  have k3 : Keep h2 h3 none_ := by rw [e3']; exact Keep.push _ _ _
  have q3 : IsSes h3 h2.n .snil 1024 5 [] := by rw [e3']; exact IsSes.new (by decide) (by decide)
  clear e3'
  have S := st_new q1 q2 q3 k1 k2 k3
  generalize h.n = i1 at *
  generalize h1.n + 1 = i2 at *
  generalize h2.n = i3 at *
  simp only [wpA_region, wpA_seq, seqQ_normal, goI_out, goI_ops, opsA_nil, opsA_cons, opsA_guardS, slotAt_zero, slotAt_succ, stepA_move, stepA_assign, stepA_binOp, stepA_extract, thenV_some, extV_zero, extV_succ, eval_tmp, eval_const, put_some, enterF_succ, aBin_add, aBin_neq, absV_int, Nat.reduceEqDiff, if_true, if_false]
  refine SWp.loopG (α := Nat × Cl × Cl × Cl) (fun x f h' => f 0 = .imm ds.length (ds.flatMap ddE) ∧ f 3 = .bool true ∧ f 4 = .ptr i1 0 ∧ f 6 = .ptr i2 0 ∧ f 8 = .ptr i3 0 ∧ f 10 = x.2.1.v ∧ f 11 = x.2.2.1.v ∧ f 12 = x.2.2.2.v ∧ f 13 = .int .i64 (x.1 : Nat) ∧ x.1 ≤ 100 ∧
      x.2.1.p = [] ∧ x.2.2.1.p = [] ∧ x.2.2.2.p = [] ∧ St h' i1 i2 i3 x.2.1 x.2.2.1 x.2.2.2 (3075 * x.1)) (fun x => 100 - x.1) (0, ⟨[i1], [], .snil, [], []⟩, ⟨_, [], .snil, [], []⟩, ⟨[i3], [], .snil, [], []⟩)
    ⟨rfl, rfl, rfl, rfl, rfl, rfl, rfl, rfl, rfl, Nat.zero_le _, rfl, rfl, rfl, S⟩ ?_
  clear q1 q2 q3 k1 k2 k3 S
  rintro ⟨t, x, y, z⟩ f h' ⟨f0, f3, f4, f6, f8, f10, f11, f12, f13, ht, px, py, pz, s⟩
  simp only at f10 f11 f12 f13 ht px py pz s
  refine wpI_sound (by kernel_rfl) ?_
  by_cases hlt : t < ds.length ∧ t < 100
  · have d1 : decide ((t : Int) < ((ds.length : Nat) : Int)) = true := decide_eq_true (by omega)
    have d2 : decide ((t : Int) < 100) = true := decide_eq_true (by omega)
    have hw := inc64 hlt.2 (by omega)
    obtain ⟨rr, x1⟩ := dd_ix (kk := .i64) hlt.1
    generalize ds[t] = d at x1
    obtain ⟨fin, key, time, val⟩ := d
    simp only [ddE, List.cons_append, List.nil_append] at x1
    have cc : ∀ c : Chg, (V.agg (chgE c)).cells = some (chgE c) := fun _ => rfl
    have st : ∀ c : Chg, setC (some 5) (AObj.cells [V.int .i64 0, V.int .i64 0, V.int .i64 0, V.int .i64 0, V.bool false] 38 none) 0 (chgE c) = some (.cells (chgE c) 38 none) := fun _ => rfl
    have ld : ∀ c : Chg, loadGo (some (some 5)) (some (chgE c)) = some (.agg (chgE c)) := fun _ => rfl
    have dc : ∀ c : Chg, dropC (.cells (chgE c) 38 none) 0 = some (chgE c) := fun _ => rfl
    obtain ⟨n, hn⟩ : ∃ n, n = 3075 * t := ⟨_, rfl⟩
    rw [← hn] at s
    obtain ⟨d, hd0⟩ : ∃ d, d = h'.n := ⟨_, rfl⟩
    have ax : ∀ q ∈ x.ft, q ≠ d := fun q hq => by have := s.a.lt q hq; omega
    have ay : ∀ q ∈ y.ft, q ≠ d := fun q hq => by have := s.b.lt q hq; omega
    have az : ∀ q ∈ z.ft, q ≠ d := fun q hq => by have := s.c.lt q hq; omega
    cases fin
    · simp only [wpA_skip, wpA_region, wpA_seq, wpA_cond, wpA_block, condI_true, condI_false, seqQ_normal, goI_out, goI_ops, opsA_nil, opsA_cons, opsA_guardS, gvI_same, slotAt_zero, slotAt_succ, stepA_move, stepA_pick, stepA_alloc, stepA_load, stepA_store, stepA_binOp, stepA_fieldAddr, stepA_indexAddr, stepA_len, stepA_call, thenV_some, thenH_some, thenS_some, pickV_true, eval_tmp, eval_const, put_some, put_none, aBin_lss, absV_int, absV_bool, cells_agg, one_int, one_bool, all_nil, all_cons, aField_eq, fieldGo_ptr, aLoad_eq, loadGo_one, loadGo_row, aPlace_ptr, aPlace_at, dropC_cells, aStore_eq, storeGo_ptr, setC_row, setAll_nil, setAll_cons, aAlloc_eq, aLen_imm, get_push_new, set_push, Nat.reduceEqDiff, Nat.reduceAdd, Nat.reduceLeDiff, reduceCtorEq, List.map_cons, List.map_nil, Option.map_some, Nat.add_zero, Nat.zero_add, Nat.zero_le, List.length_cons, List.length_nil, List.drop_zero, List.drop_succ_cons, List.take_succ_cons, List.take_zero, List.set_cons_zero, List.set_cons_succ, if_true, if_false, Bool.and_self, Nat.le_refl, ft_36_0, ft_36_1, ft_36_3, kt_22, lt_2, lt_36, lt_4, zc_36, zt_36, f0, f4, f13, d1, d2, x1]
      rw [← hd0]
      obtain ⟨H0, hH0⟩ : ∃ y, y = h'.push (AObj.cells [V.bool false, V.int IntKind.i64 key, V.int IntKind.i64 time, V.int IntKind.i64 val] 36 none) := ⟨_, rfl⟩
      have k0 : Keep h' H0 none_ := by rw [hH0]; exact Keep.push _ _ _
      have g0 : H0.get d = AObj.cells [V.bool false, V.int IntKind.i64 key, V.int IntKind.i64 time, V.int IntKind.i64 val] 36 none := by rw [hH0, hd0]; exact get_push_new
      have n0 : H0.n = d + 1 := by rw [hH0, hd0]; rfl
      rw [← hH0]
      clear hH0
      have s0 := s.keepN k0
      refine callI_of cal11 (kKvPut s0.a.k key val) fun r ha ⟨c1, er1, O1, l1, e1, ka, nla, ika, one1⟩ => ?_
      subst e1
      obtain ⟨ica, kfa, nfa⟩ := s0.a.op px ka nla ika one1 (m := 1025) (by split <;> simp)
      have sa := s0.u1 ica kfa nfa (Nat.le_add_right _ _)
      have ga := (kfa.get d (by omega) (fun hh => ax d hh rfl)).trans g0
      have na := kfa.n
      obtain ⟨Ha, hHa⟩ : ∃ y, y = ha.push (AObj.cells (chgE c1) 38 none) := ⟨_, rfl⟩
      have kA : Keep ha Ha none_ := by rw [hHa]; exact Keep.push _ _ _
      have gA : Ha.get ha.n = AObj.cells (chgE c1) 38 none := by rw [hHa]; exact get_push_new
      have nA : Ha.n = ha.n + 1 := by rw [hHa]; rfl
      have gAd := (kA.get d (by omega) (by simp [none_])).trans ga
      have sA := sa.keepN kA
      simp only [wpA_region, wpA_seq, seqQ_normal, goI_out, goI_ops, opsA_nil, opsA_cons, stepA_move, stepA_assign, stepA_alloc, stepA_load, stepA_store, stepA_fieldAddr, stepA_extract, thenV_some, thenH_some, thenS_some, extV_zero, extV_succ, eval_tmp, put_some, put_none, aField_eq, fieldGo_ptr, aLoad_eq, aPlace_ptr, aStore_eq, storeGo_ptr, aAlloc_eq, get_push_new, set_push, Nat.reduceEqDiff, Option.map_some, Nat.zero_add, if_true, if_false, ft_36_1, lt_2, zc_38, zt_38, f6, cc, st]
      rw [← hHa]
      clear hHa
      simp only [goI_ops, opsA_cons, stepA_load, stepA_fieldAddr, stepA_call, thenV_some, eval_tmp, put_some, put_none, aField_eq, fieldGo_ptr, aLoad_eq, loadGo_one, aPlace_ptr, dropC_cells, Nat.reduceEqDiff, Nat.reduceAdd, Nat.reduceLeDiff, List.map_cons, List.map_nil, Nat.zero_add, List.length_cons, List.length_nil, List.drop_zero, List.drop_succ_cons, if_true, if_false, ft_36_2, ft_36_3, lt_2, gAd]
      refine callI_of cal12 (kWinPut sA.b.k key time val) fun r hb ⟨c2, er2, O2, l2, e2, kb, nlb, ikb, one2⟩ => ?_
      subst e2
      obtain ⟨icb, kfb, nfb⟩ := sA.b.op py kb nlb ikb one2 (m := 1025) (by split <;> simp)
      have sb := sA.u2 icb kfb nfb (Nat.le_add_right _ _)
      have gb := (kfb.get d (by omega) (fun hh => ay d hh rfl)).trans gAd
      have gb1 := (kfb.get ha.n (by omega) (fun hh => by have := s.b.lt _ hh; omega)).trans gA
      have nb := kfb.n
      obtain ⟨Hb, hHb⟩ : ∃ y, y = hb.push (AObj.cells (chgE c2) 38 none) := ⟨_, rfl⟩
      have kB : Keep hb Hb none_ := by rw [hHb]; exact Keep.push _ _ _
      have gB : Hb.get hb.n = AObj.cells (chgE c2) 38 none := by rw [hHb]; exact get_push_new
      have nB : Hb.n = hb.n + 1 := by rw [hHb]; rfl
      have gBd := (kB.get d (by omega) (by simp [none_])).trans gb
      have gB1 := (kB.get ha.n (by omega) (by simp [none_])).trans gb1
      have sB := sb.keepN kB
      simp only [wpA_region, wpA_seq, seqQ_normal, goI_out, goI_ops, opsA_nil, opsA_cons, stepA_move, stepA_assign, stepA_alloc, stepA_load, stepA_store, stepA_fieldAddr, stepA_extract, thenV_some, thenH_some, thenS_some, extV_zero, extV_succ, eval_tmp, put_some, put_none, aField_eq, fieldGo_ptr, aLoad_eq, aPlace_ptr, aStore_eq, storeGo_ptr, aAlloc_eq, get_push_new, set_push, Nat.reduceEqDiff, Option.map_some, Nat.zero_add, if_true, if_false, ft_36_1, lt_2, zc_38, zt_38, f8, cc, st]
      rw [← hHb]
      clear hHb
      simp only [goI_ops, opsA_cons, stepA_load, stepA_fieldAddr, stepA_call, thenV_some, eval_tmp, put_some, put_none, aField_eq, fieldGo_ptr, aLoad_eq, loadGo_one, aPlace_ptr, dropC_cells, Nat.reduceEqDiff, Nat.reduceAdd, Nat.reduceLeDiff, List.map_cons, List.map_nil, Nat.zero_add, List.length_cons, List.length_nil, List.drop_zero, List.drop_succ_cons, if_true, if_false, ft_36_2, ft_36_3, lt_2, gBd]
      refine callI_of cal13 (kSesPut sB.c.k key time val) fun r hc ⟨c3, er3, O3, l3, e3, cl3, kc, nlc, ikc, one3⟩ => ?_
      subst e3
      obtain ⟨icc, kfc, nfc⟩ := sB.c.op pz kc nlc ikc one3 cl3
      have sc := sB.u3 icc kfc nfc (Nat.le_add_right _ _)
      have nc := kfc.n
      have gc1 := (kfc.get ha.n (by omega) (fun hh => by have := s.c.lt _ hh; omega)).trans gB1
      have gc2 := (kfc.get hb.n (by omega) (fun hh => by have := s.c.lt _ hh; omega)).trans gB
      have hN : n + 1025 + 1025 + 1025 ≤ 2 ^ 40 := by omega
      have lx : ∀ q ∈ (Cl.mk O1 l1 x.v x.A []).ft, q < ha.n := ica.lt
      clear s s0 sa sA sb sB ica icb icc k0 g0
      simp only [wpA_region, wpA_seq, wpA_cond, seqQ_normal, goI_out, goI_ops, opsA_nil, opsA_cons, stepA_move, stepA_assign, stepA_binOp, stepA_extract, thenV_some, extV_zero, extV_succ, eval_tmp, eval_const, put_some, put_none, aBin_eql, absV_int, Nat.reduceEqDiff, if_true, if_false]
      cases hz1 : (er1 == 0)
      · have hp1 : (if er1 = 0 then [c1] else []) = [] := if_neg (by simpa using hz1)
        rw [hp1] at sc
        simp only [wpA_skip, wpA_region, wpA_seq, wpA_cond, condI_false, seqQ_normal, goI_out, goI_ops, opsA_nil, opsA_cons, stepA_move, stepA_binOp, thenV_some, eval_tmp, eval_const, put_some, put_none, aBin_eql, absV_int, Nat.reduceEqDiff, if_true, if_false]
        cases hz2 : (er2 == 0)
        · have hp2 : (if er2 = 0 then [c2] else []) = [] := if_neg (by simpa using hz2)
          rw [hp2] at sc
          simp only [wpA_skip, wpA_region, condI_false, seqQ_normal, goI_ops, opsA_cons, stepA_move, stepA_append, eval_tmp, put_some, put_none, Nat.reduceEqDiff, if_true, if_false, f12]
          obtain ⟨v3, hz, q3, ic3, kf3, nf3⟩ := sc.c.app (srcC c3 hc) hN
          have q3' : aAppend Try.prog 34 34 z.v (rowC c3) hc = some (v3, hz) := q3
          have s3 := sc.u3 ic3 kf3 nf3 (Nat.le_refl _)
          simp only [wpA_region, seqQ_normal, blkQ_normal, endI_mk, andThen_normal, goI_out, goI_ops, opsA_nil, opsA_cons, stepA_move, stepA_assign, stepA_binOp, thenV_some, thenH_some, eval_tmp, eval_const, put_some, put_none, aBin_add, absV_int, Nat.reduceEqDiff, if_true, if_false, f13, hw, q3']
          exact hid_mk ⟨(t + 1, ⟨O1, l1, x.v, x.A, []⟩, ⟨O2, l2, y.v, y.A, []⟩, ⟨O3, l3, v3, z.A ++ c3, []⟩), ⟨f0, f3, f4, f6, f8, f10, f11, rfl, rfl, hlt.2, rfl, rfl, rfl, s3.mono (by omega)⟩, by simp only; omega⟩
        · have hp2 : (if er2 = 0 then [c2] else []) = [c2] := if_pos (by simpa using hz2)
          rw [hp2] at sc
          have kP2 : Keep hc (hc.push (.cells (chgE c2) 38 none)) none_ := Keep.push _ _ _
          have t2 := sc.keepN kP2
          obtain ⟨v2, h5, q2, ic2, kf2, nf2⟩ := t2.b.app (c := .sl hc.n 0 1 1) (src1 c2 hc) hN
          have q2' : aAppend Try.prog 34 34 y.v (.sl hc.n 0 1 1) (hc.push (.cells (chgE c2) 38 none)) = some (v2, h5) := q2
          have s2 := t2.u2 ic2 kf2 nf2 (Nat.le_refl _)
          simp only [wpA_region, condI_true, seqQ_normal, goI_out, goI_ops, opsA_nil, opsA_cons, stepA_move, stepA_assign, stepA_buildSlice, stepA_load, stepA_append, thenV_some, thenH_some, eval_tmp, put_some, put_none, aLoad_eq, aPlace_ptr, Nat.reduceEqDiff, List.map_cons, List.map_nil, if_true, if_false, lt_38, f11, f12, gc2, dc, ld, lit1c, q2']
          obtain ⟨v3, hz, q3, ic3, kf3, nf3⟩ := s2.c.app (srcC c3 h5) hN
          have q3' : aAppend Try.prog 34 34 z.v (rowC c3) h5 = some (v3, hz) := q3
          have s3 := s2.u3 ic3 kf3 nf3 (Nat.le_refl _)
          simp only [wpA_region, seqQ_normal, blkQ_normal, endI_mk, andThen_normal, goI_out, goI_ops, opsA_nil, opsA_cons, stepA_move, stepA_assign, stepA_binOp, thenV_some, thenH_some, eval_tmp, eval_const, put_some, put_none, aBin_add, absV_int, Nat.reduceEqDiff, if_true, if_false, f13, hw, q3']
          exact hid_mk ⟨(t + 1, ⟨O1, l1, x.v, x.A, []⟩, ⟨O2, l2, v2, y.A ++ [c2], []⟩, ⟨O3, l3, v3, z.A ++ c3, []⟩), ⟨f0, f3, f4, f6, f8, f10, rfl, rfl, rfl, hlt.2, rfl, rfl, rfl, s3.mono (by omega)⟩, by simp only; omega⟩
      · have hp1 : (if er1 = 0 then [c1] else []) = [c1] := if_pos (by simpa using hz1)
        rw [hp1] at sc
        have kP1 : Keep hc (hc.push (.cells (chgE c1) 38 none)) none_ := Keep.push _ _ _
        have t1 := sc.keepN kP1
        obtain ⟨v1, h4, q1, ic1, kf1, nf1⟩ := t1.a.app (c := .sl hc.n 0 1 1) (src1 c1 hc) hN
        have q1' : aAppend Try.prog 34 34 x.v (.sl hc.n 0 1 1) (hc.push (.cells (chgE c1) 38 none)) = some (v1, h4) := q1
        have s1 := t1.u1 ic1 kf1 nf1 (Nat.le_refl _)
        have nP1 := kP1.n
        have g42 := (kf1.get hb.n (by omega) (fun hh => by have := lx _ hh; omega)).trans ((kP1.get hb.n (by omega) (by simp [none_])).trans gc2)
        simp only [wpA_region, wpA_seq, wpA_cond, condI_true, seqQ_normal, goI_out, goI_ops, opsA_nil, opsA_cons, stepA_move, stepA_assign, stepA_buildSlice, stepA_load, stepA_binOp, stepA_append, thenV_some, thenH_some, eval_tmp, eval_const, put_some, put_none, aBin_eql, absV_int, aLoad_eq, aPlace_ptr, Nat.reduceEqDiff, List.map_cons, List.map_nil, if_true, if_false, lt_38, f10, gc1, dc, ld, lit1c, q1']
        cases hz2 : (er2 == 0)
        · have hp2 : (if er2 = 0 then [c2] else []) = [] := if_neg (by simpa using hz2)
          rw [hp2] at s1
          simp only [wpA_skip, wpA_region, condI_false, seqQ_normal, goI_ops, opsA_cons, stepA_move, stepA_append, eval_tmp, put_some, put_none, Nat.reduceEqDiff, if_true, if_false, f12]
          obtain ⟨v3, hz, q3, ic3, kf3, nf3⟩ := s1.c.app (srcC c3 h4) hN
          have q3' : aAppend Try.prog 34 34 z.v (rowC c3) h4 = some (v3, hz) := q3
          have s3 := s1.u3 ic3 kf3 nf3 (Nat.le_refl _)
          simp only [wpA_region, seqQ_normal, blkQ_normal, endI_mk, andThen_normal, goI_out, goI_ops, opsA_nil, opsA_cons, stepA_move, stepA_assign, stepA_binOp, thenV_some, thenH_some, eval_tmp, eval_const, put_some, put_none, aBin_add, absV_int, Nat.reduceEqDiff, if_true, if_false, f13, hw, q3']
          exact hid_mk ⟨(t + 1, ⟨O1, l1, v1, x.A ++ [c1], []⟩, ⟨O2, l2, y.v, y.A, []⟩, ⟨O3, l3, v3, z.A ++ c3, []⟩), ⟨f0, f3, f4, f6, f8, rfl, f11, rfl, rfl, hlt.2, rfl, rfl, rfl, s3.mono (by omega)⟩, by simp only; omega⟩
        · have hp2 : (if er2 = 0 then [c2] else []) = [c2] := if_pos (by simpa using hz2)
          rw [hp2] at s1
          have kP2 : Keep h4 (h4.push (.cells (chgE c2) 38 none)) none_ := Keep.push _ _ _
          have t2 := s1.keepN kP2
          obtain ⟨v2, h5, q2, ic2, kf2, nf2⟩ := t2.b.app (c := .sl h4.n 0 1 1) (src1 c2 h4) hN
          have q2' : aAppend Try.prog 34 34 y.v (.sl h4.n 0 1 1) (h4.push (.cells (chgE c2) 38 none)) = some (v2, h5) := q2
          have s2 := t2.u2 ic2 kf2 nf2 (Nat.le_refl _)
          simp only [wpA_region, condI_true, seqQ_normal, goI_out, goI_ops, opsA_nil, opsA_cons, stepA_move, stepA_assign, stepA_buildSlice, stepA_load, stepA_append, thenV_some, thenH_some, eval_tmp, put_some, put_none, aLoad_eq, aPlace_ptr, Nat.reduceEqDiff, List.map_cons, List.map_nil, if_true, if_false, lt_38, f11, f12, g42, dc, ld, lit1c, q2']
          obtain ⟨v3, hz, q3, ic3, kf3, nf3⟩ := s2.c.app (srcC c3 h5) hN
          have q3' : aAppend Try.prog 34 34 z.v (rowC c3) h5 = some (v3, hz) := q3
          have s3 := s2.u3 ic3 kf3 nf3 (Nat.le_refl _)
          simp only [wpA_region, seqQ_normal, blkQ_normal, endI_mk, andThen_normal, goI_out, goI_ops, opsA_nil, opsA_cons, stepA_move, stepA_assign, stepA_binOp, thenV_some, thenH_some, eval_tmp, eval_const, put_some, put_none, aBin_add, absV_int, Nat.reduceEqDiff, if_true, if_false, f13, hw, q3']
          exact hid_mk ⟨(t + 1, ⟨O1, l1, v1, x.A ++ [c1], []⟩, ⟨O2, l2, v2, y.A ++ [c2], []⟩, ⟨O3, l3, v3, z.A ++ c3, []⟩), ⟨f0, f3, f4, f6, f8, rfl, rfl, rfl, rfl, hlt.2, rfl, rfl, rfl, s3.mono (by omega)⟩, by simp only; omega⟩
    · simp only [wpA_skip, wpA_region, wpA_seq, wpA_cond, wpA_block, condI_true, seqQ_normal, goI_out, goI_ops, opsA_nil, opsA_cons, opsA_guardS, gvI_same, slotAt_zero, slotAt_succ, stepA_move, stepA_pick, stepA_alloc, stepA_load, stepA_store, stepA_binOp, stepA_fieldAddr, stepA_indexAddr, stepA_len, stepA_call, thenV_some, thenH_some, thenS_some, pickV_true, eval_tmp, eval_const, put_some, put_none, aBin_lss, absV_int, absV_bool, cells_agg, one_int, one_bool, all_nil, all_cons, aField_eq, fieldGo_ptr, aLoad_eq, loadGo_one, loadGo_row, aPlace_ptr, aPlace_at, dropC_cells, aStore_eq, storeGo_ptr, setC_row, setAll_nil, setAll_cons, aAlloc_eq, aLen_imm, get_push_new, set_push, Nat.reduceEqDiff, Nat.reduceAdd, Nat.reduceLeDiff, reduceCtorEq, List.map_cons, List.map_nil, Option.map_some, Nat.add_zero, Nat.zero_add, Nat.zero_le, List.length_cons, List.length_nil, List.drop_zero, List.drop_succ_cons, List.take_succ_cons, List.take_zero, List.set_cons_zero, List.set_cons_succ, if_true, if_false, Bool.and_self, Nat.le_refl, ft_36_0, ft_36_1, kt_22, lt_2, lt_36, lt_4, zc_36, zt_36, f0, f4, f13, d1, d2, x1]
      rw [← hd0]
      obtain ⟨H0, hH0⟩ : ∃ y, y = h'.push (AObj.cells [V.bool true, V.int IntKind.i64 key, V.int IntKind.i64 time, V.int IntKind.i64 val] 36 none) := ⟨_, rfl⟩
      have k0 : Keep h' H0 none_ := by rw [hH0]; exact Keep.push _ _ _
      have g0 : H0.get d = AObj.cells [V.bool true, V.int IntKind.i64 key, V.int IntKind.i64 time, V.int IntKind.i64 val] 36 none := by rw [hH0, hd0]; exact get_push_new
      have n0 : H0.n = d + 1 := by rw [hH0, hd0]; rfl
      rw [← hH0]
      clear hH0
      have s0 := s.keepN k0
      refine callI_of cal8 (kKvDel s0.a.k key) fun r ha ⟨c1, er1, O1, l1, e1, ka, nla, ika, one1⟩ => ?_
      subst e1
      obtain ⟨ica, kfa, nfa⟩ := s0.a.op px ka nla ika one1 (m := 1025) (by split <;> simp)
      have sa := s0.u1 ica kfa nfa (Nat.le_add_right _ _)
      have ga := (kfa.get d (by omega) (fun hh => ax d hh rfl)).trans g0
      have na := kfa.n
      obtain ⟨Ha, hHa⟩ : ∃ y, y = ha.push (AObj.cells (chgE c1) 38 none) := ⟨_, rfl⟩
      have kA : Keep ha Ha none_ := by rw [hHa]; exact Keep.push _ _ _
      have gA : Ha.get ha.n = AObj.cells (chgE c1) 38 none := by rw [hHa]; exact get_push_new
      have nA : Ha.n = ha.n + 1 := by rw [hHa]; rfl
      have gAd := (kA.get d (by omega) (by simp [none_])).trans ga
      have sA := sa.keepN kA
      simp only [wpA_region, wpA_seq, wpA_cond, seqQ_normal, goI_out, goI_ops, opsA_nil, opsA_cons, stepA_move, stepA_assign, stepA_alloc, stepA_store, stepA_binOp, stepA_extract, thenV_some, thenH_some, thenS_some, extV_zero, extV_succ, eval_tmp, eval_const, put_some, put_none, aBin_eql, absV_int, aStore_eq, storeGo_ptr, aAlloc_eq, get_push_new, set_push, Nat.reduceEqDiff, Option.map_some, if_true, if_false, zc_38, zt_38, cc, st]
      rw [← hHa]
      clear hHa
      cases hz1 : (er1 == 0)
      · have hp1 : (if er1 = 0 then [c1] else []) = [] := if_neg (by simpa using hz1)
        rw [hp1] at sA
        have kfd : d < Ha.n := by omega
        simp only [wpA_skip, wpA_region, wpA_seq, condI_false, seqQ_normal, goI_ops, opsA_cons, stepA_move, stepA_load, stepA_fieldAddr, stepA_call, thenV_some, eval_tmp, put_some, put_none, aField_eq, fieldGo_ptr, aLoad_eq, loadGo_one, aPlace_ptr, dropC_cells, Nat.reduceEqDiff, Nat.reduceAdd, Nat.reduceLeDiff, List.map_cons, List.map_nil, Nat.zero_add, List.length_cons, List.length_nil, List.drop_zero, List.drop_succ_cons, if_true, if_false, ft_36_2, lt_2, f6, f11, gAd]
        refine callI_of cal9 (kWinExp sA.b.k time) fun r hb ⟨c2, O2, l2, e2, cl2, kb, nlb, ikb, one2⟩ => ?_
        subst e2
        obtain ⟨icb, kfb, nfb⟩ := sA.b.op py kb nlb ikb one2 (m := 1025) (by omega)
        have sb := sA.u2 icb kfb nfb (Nat.le_add_right _ _)
        have gb := (kfb.get d (by have := kfd; omega) (fun hh => ay d hh rfl)).trans gAd
        have nb := kfb.n
        obtain ⟨v2, hb2, q2, ic2, kf2, nf2⟩ := sb.b.app (srcC c2 hb) (by omega)
        have q2' : aAppend Try.prog 34 34 y.v (rowC c2) hb = some (v2, hb2) := q2
        have s2 := sb.u2 ic2 kf2 nf2 (Nat.le_refl _)
        have gb2 := (kf2.get d (by have := kfd; omega) (fun hh => by
          rcases nfb d hh with hh | hh
          · exact ay d hh rfl
          · have := kfd; omega)).trans gb
        have nb2 := kf2.n
        simp only [wpA_region, wpA_seq, seqQ_normal, goI_out, goI_ops, opsA_nil, opsA_cons, stepA_move, stepA_assign, stepA_load, stepA_fieldAddr, stepA_append, stepA_call, thenV_some, thenH_some, eval_tmp, put_some, put_none, aField_eq, fieldGo_ptr, aLoad_eq, loadGo_one, aPlace_ptr, dropC_cells, Nat.reduceEqDiff, Nat.reduceAdd, Nat.reduceLeDiff, List.map_cons, List.map_nil, Nat.zero_add, List.length_cons, List.length_nil, List.drop_zero, List.drop_succ_cons, if_true, if_false, ft_36_2, lt_2, f8, f12, q2', gb2]
        refine callI_of cal10 (kSesExp s2.c.k time) fun r hc ⟨c3, O3, l3, e3, cl3, kc, nlc, ikc, one3⟩ => ?_
        subst e3
        obtain ⟨icc, kfc, nfc⟩ := s2.c.op pz kc nlc ikc one3 (m := 1025) (by omega)
        have sc := s2.u3 icc kfc nfc (Nat.le_add_right _ _)
        obtain ⟨v3, hz, q3, ic3, kf3, nf3⟩ := sc.c.app (srcC c3 hc) (by omega)
        have q3' : aAppend Try.prog 34 34 z.v (rowC c3) hc = some (v3, hz) := q3
        have s3 := sc.u3 ic3 kf3 nf3 (Nat.le_refl _)
        simp only [wpA_region, wpA_exit, seqQ_normal, seqQ_exit, blkQ_exit, endI_mk, andThen_normal, andThen_exit, goI_out, goI_ops, opsA_nil, opsA_cons, stepA_move, stepA_assign, stepA_binOp, stepA_append, thenV_some, thenH_some, eval_tmp, eval_const, put_some, put_none, aBin_add, absV_int, Nat.reduceEqDiff, if_true, if_false, f13, hw, q3']
        exact hid_mk ⟨(t + 1, ⟨O1, l1, x.v, x.A, []⟩, ⟨O2, l2, v2, y.A ++ c2, []⟩, ⟨O3, l3, v3, z.A ++ c3, []⟩), ⟨f0, f3, f4, f6, f8, f10, rfl, rfl, rfl, hlt.2, rfl, rfl, rfl, s3.mono (by omega)⟩, by simp only; omega⟩
      · have hp1 : (if er1 = 0 then [c1] else []) = [c1] := if_pos (by simpa using hz1)
        rw [hp1] at sA
        have kP1 : Keep Ha (Ha.push (.cells (chgE c1) 38 none)) none_ := Keep.push _ _ _
        have t1 := sA.keepN kP1
        obtain ⟨v1, h4, q1, ic1, kf1, nf1⟩ := t1.a.app (c := .sl Ha.n 0 1 1) (src1 c1 Ha) (by omega)
        have q1' : aAppend Try.prog 34 34 x.v (.sl Ha.n 0 1 1) (Ha.push (.cells (chgE c1) 38 none)) = some (v1, h4) := q1
        have s1 := t1.u1 ic1 kf1 nf1 (Nat.le_refl _)
        have nP1 := kP1.n
        have n4 := kf1.n
        have kfd : d < h4.n := by omega
        have gd4 := (kf1.get d (by omega) (fun hh => by
          rcases nfa d hh with hh | hh
          · exact ax d hh rfl
          · omega)).trans ((kP1.get d (by omega) (by simp [none_])).trans gAd)
        simp only [wpA_region, wpA_seq, condI_true, seqQ_normal, goI_out, goI_ops, opsA_nil, opsA_cons, stepA_move, stepA_assign, stepA_buildSlice, stepA_load, stepA_fieldAddr, stepA_append, stepA_call, thenV_some, thenH_some, eval_tmp, put_some, put_none, aField_eq, fieldGo_ptr, aLoad_eq, loadGo_one, aPlace_ptr, dropC_cells, Nat.reduceEqDiff, Nat.reduceAdd, Nat.reduceLeDiff, List.map_cons, List.map_nil, Nat.zero_add, List.length_cons, List.length_nil, List.drop_zero, List.drop_succ_cons, if_true, if_false, ft_36_2, lt_2, lt_38, f6, f10, f11, gA, dc, ld, lit1c, q1', gd4]
        refine callI_of cal9 (kWinExp s1.b.k time) fun r hb ⟨c2, O2, l2, e2, cl2, kb, nlb, ikb, one2⟩ => ?_
        subst e2
        obtain ⟨icb, kfb, nfb⟩ := s1.b.op py kb nlb ikb one2 (m := 1025) (by omega)
        have sb := s1.u2 icb kfb nfb (Nat.le_add_right _ _)
        have gb := (kfb.get d (by have := kfd; omega) (fun hh => ay d hh rfl)).trans gd4
        have nb := kfb.n
        obtain ⟨v2, hb2, q2, ic2, kf2, nf2⟩ := sb.b.app (srcC c2 hb) (by omega)
        have q2' : aAppend Try.prog 34 34 y.v (rowC c2) hb = some (v2, hb2) := q2
        have s2 := sb.u2 ic2 kf2 nf2 (Nat.le_refl _)
        have gb2 := (kf2.get d (by have := kfd; omega) (fun hh => by
          rcases nfb d hh with hh | hh
          · exact ay d hh rfl
          · have := kfd; omega)).trans gb
        have nb2 := kf2.n
        simp only [wpA_region, wpA_seq, seqQ_normal, goI_out, goI_ops, opsA_nil, opsA_cons, stepA_move, stepA_assign, stepA_load, stepA_fieldAddr, stepA_append, stepA_call, thenV_some, thenH_some, eval_tmp, put_some, put_none, aField_eq, fieldGo_ptr, aLoad_eq, loadGo_one, aPlace_ptr, dropC_cells, Nat.reduceEqDiff, Nat.reduceAdd, Nat.reduceLeDiff, List.map_cons, List.map_nil, Nat.zero_add, List.length_cons, List.length_nil, List.drop_zero, List.drop_succ_cons, if_true, if_false, ft_36_2, lt_2, f8, f12, q2', gb2]
        refine callI_of cal10 (kSesExp s2.c.k time) fun r hc ⟨c3, O3, l3, e3, cl3, kc, nlc, ikc, one3⟩ => ?_
        subst e3
        obtain ⟨icc, kfc, nfc⟩ := s2.c.op pz kc nlc ikc one3 (m := 1025) (by omega)
        have sc := s2.u3 icc kfc nfc (Nat.le_add_right _ _)
        obtain ⟨v3, hz, q3, ic3, kf3, nf3⟩ := sc.c.app (srcC c3 hc) (by omega)
        have q3' : aAppend Try.prog 34 34 z.v (rowC c3) hc = some (v3, hz) := q3
        have s3 := sc.u3 ic3 kf3 nf3 (Nat.le_refl _)
        simp only [wpA_region, wpA_exit, seqQ_normal, seqQ_exit, blkQ_exit, endI_mk, andThen_normal, andThen_exit, goI_out, goI_ops, opsA_nil, opsA_cons, stepA_move, stepA_assign, stepA_binOp, stepA_append, thenV_some, thenH_some, eval_tmp, eval_const, put_some, put_none, aBin_add, absV_int, Nat.reduceEqDiff, if_true, if_false, f13, hw, q3']
        exact hid_mk ⟨(t + 1, ⟨O1, l1, v1, x.A ++ [c1], []⟩, ⟨O2, l2, v2, y.A ++ c2, []⟩, ⟨O3, l3, v3, z.A ++ c3, []⟩), ⟨f0, f3, f4, f6, f8, rfl, rfl, rfl, rfl, hlt.2, rfl, rfl, rfl, s3.mono (by omega)⟩, by simp only; omega⟩
  · have hcond : decide ((t : Int) < ((ds.length : Nat) : Int)) = false ∨ (decide ((t : Int) < ((ds.length : Nat) : Int)) = true ∧ decide ((t : Int) < 100) = false) := by
      by_cases ha : t < ds.length
      · exact .inr ⟨decide_eq_true (by omega), decide_eq_false (by omega)⟩
      · exact .inl (decide_eq_false (by omega))
    have la := s.a.len
    have lb := s.b.len
    have lc := s.c.len
    have bla : (listK .kv x.l).length ≤ 2 ^ 20 := by have := (inK_perm .kv x.l).length_eq; have := s.a.k.wf.len; unfold listK; omega
    have blb : (listK (.win 10) y.l).length ≤ 2 ^ 20 := by have := (inK_perm (.win 10) y.l).length_eq; have := s.b.k.wf.len; unfold listK; omega
    have blc : (listK (.ses 5) z.l).length ≤ 2 ^ 20 := by have := (inK_perm (.ses 5) z.l).length_eq; have := s.c.k.wf.len; unfold listK; omega
    obtain ⟨hA, cA, kA⟩ := Cast.own s.a.a (n := x.A.length) (rows_len chgE_len _) (by decide)
    have sbA := s.b.keep kA fun q hq hh => s.ab q (mem_ft.2 (.inr hh)) hq
    have scA := s.c.keep kA fun q hq hh => s.ac q (mem_ft.2 (.inr hh)) hq
    obtain ⟨hB, cB, kB⟩ := Cast.own sbA.a (n := y.A.length) (rows_len chgE_len _) (by decide)
    have scB := scA.keep kB fun q hq hh => s.bc q (mem_ft.2 (.inr hh)) hq
    obtain ⟨hC, cC, kC⟩ := Cast.own scB.a (n := z.A.length) (rows_len chgE_len _) (by decide)
    have r1 := s.a.last px trivial
    have r2 := s.b.last py ⟨by decide, by decide⟩
    have r3 := s.c.last pz ⟨by decide, by decide⟩
    have E1 := SCalls.args (CastL.cons cA (CastL.refl _ _)) (pAgain x.A (listK .kv x.l) (by omega) bla hA)
    have E2 := SCalls.args (CastL.cons cB (CastL.refl _ _)) (pAgain y.A (listK (.win 10) y.l) (by omega) blb hB)
    have E3 := SCalls.args (CastL.cons cC (CastL.refl _ _)) (pAgain z.A (listK (.ses 5) z.l) (by omega) blc hC)
    rw [r1] at E1
    rw [r2] at E2
    rw [r3] at E3
    rcases hcond with d1 | ⟨d1, d2⟩
    · simp only [wpA_region, wpA_seq, wpA_cond, wpA_exit, condI_false, seqQ_normal, seqQ_exit, endI_mk, goE, goI_out, goI_ops, opsA_nil, opsA_cons, opsA_guardS, gvI_ft, slotAt_zero, slotAt_succ, stepA_move, stepA_pick, stepA_binOp, stepA_len, thenV_some, pickV_false, eval_tmp, eval_const, put_some, aBin_lss, absV_bool, aLen_imm, Nat.reduceEqDiff, reduceCtorEq, if_true, if_false, kt_22, f0, f13, d1, inBlk, andThen]
      change @wpI _ _ _ (Qt.fn _) _ _
      simp only [wpA_region, wpA_seq, goI_ops, opsA_cons, opsA_guardS, gvI_same, slotAt_zero, slotAt_succ, stepA_move, stepA_call, eval_tmp, put_some, Nat.reduceEqDiff, List.map_cons, List.map_nil, if_true, if_false, f3, f4, f10]
      refine callI_pure cal15 (kKvList s.a.k) ?_
      simp only [goI_ops, opsA_guardS, gvI_same, slotAt_zero, slotAt_succ, stepA_call, eval_tmp, put_some, Nat.reduceEqDiff, List.map_cons, List.map_nil, if_true, if_false]
      refine callI_of cal14 E1 fun r h5 ⟨e5, e5'⟩ => ?_
      subst e5 e5'
      simp only [goI_ops, opsA_cons, opsA_guardS, gvI_same, slotAt_zero, slotAt_succ, stepA_move, stepA_pick, stepA_call, thenV_some, pickV_true, eval_tmp, eval_const, put_some, absV_bool, Nat.reduceEqDiff, List.map_cons, List.map_nil, if_true, if_false, f6, f11]
      refine callI_pure cal16 (kWinList sbA.k) ?_
      simp only [goI_ops, opsA_guardS, gvI_same, slotAt_zero, slotAt_succ, stepA_call, eval_tmp, put_some, Nat.reduceEqDiff, List.map_cons, List.map_nil, if_true, if_false]
      refine callI_of cal14 E2 fun r h6 ⟨e6, e6'⟩ => ?_
      subst e6 e6'
      simp only [goI_ops, opsA_cons, opsA_guardS, gvI_same, slotAt_zero, slotAt_succ, stepA_move, stepA_pick, stepA_call, thenV_some, pickV_true, eval_tmp, eval_const, put_some, absV_bool, Nat.reduceEqDiff, List.map_cons, List.map_nil, if_true, if_false, f8, f12]
      refine callI_pure cal17 (kSesList scB.k) ?_
      simp only [goI_ops, opsA_guardS, gvI_same, slotAt_zero, slotAt_succ, stepA_call, eval_tmp, put_some, Nat.reduceEqDiff, List.map_cons, List.map_nil, if_true, if_false]
      refine callI_of cal14 E3 fun r h7 ⟨e7, e7'⟩ => ?_
      subst e7 e7'
      simp only [wpA_ret, seqQ_normal, endI_mk, goI_out, goI_ops, opsA_nil, opsA_cons, stepA_assign, stepA_pick, thenV_some, pickV_true, eval_tmp, eval_const, put_some, absV_bool, Nat.reduceEqDiff, if_true, if_false, retA_ret, Try.results3, resultsA_1]
      exact hid_mk rfl
    · simp only [wpA_region, wpA_seq, wpA_cond, wpA_exit, condI_false, seqQ_normal, seqQ_exit, endI_mk, goE, goI_out, goI_ops, opsA_nil, opsA_cons, opsA_guardS, gvI_same, slotAt_zero, slotAt_succ, stepA_move, stepA_pick, stepA_binOp, stepA_len, thenV_some, pickV_true, eval_tmp, eval_const, put_some, aBin_lss, absV_int, absV_bool, aLen_imm, Nat.reduceEqDiff, reduceCtorEq, if_true, if_false, kt_22, f0, f13, d1, d2, inBlk, andThen]
      change @wpI _ _ _ (Qt.fn _) _ _
      simp only [wpA_region, wpA_seq, goI_ops, opsA_cons, opsA_guardS, gvI_same, slotAt_zero, slotAt_succ, stepA_move, stepA_call, eval_tmp, put_some, Nat.reduceEqDiff, List.map_cons, List.map_nil, if_true, if_false, f3, f4, f10]
      refine callI_pure cal15 (kKvList s.a.k) ?_
      simp only [goI_ops, opsA_guardS, gvI_same, slotAt_zero, slotAt_succ, stepA_call, eval_tmp, put_some, Nat.reduceEqDiff, List.map_cons, List.map_nil, if_true, if_false]
      refine callI_of cal14 E1 fun r h5 ⟨e5, e5'⟩ => ?_
      subst e5 e5'
      simp only [goI_ops, opsA_cons, opsA_guardS, gvI_same, slotAt_zero, slotAt_succ, stepA_move, stepA_pick, stepA_call, thenV_some, pickV_true, eval_tmp, eval_const, put_some, absV_bool, Nat.reduceEqDiff, List.map_cons, List.map_nil, if_true, if_false, f6, f11]
      refine callI_pure cal16 (kWinList sbA.k) ?_
      simp only [goI_ops, opsA_guardS, gvI_same, slotAt_zero, slotAt_succ, stepA_call, eval_tmp, put_some, Nat.reduceEqDiff, List.map_cons, List.map_nil, if_true, if_false]
      refine callI_of cal14 E2 fun r h6 ⟨e6, e6'⟩ => ?_
      subst e6 e6'
      simp only [goI_ops, opsA_cons, opsA_guardS, gvI_same, slotAt_zero, slotAt_succ, stepA_move, stepA_pick, stepA_call, thenV_some, pickV_true, eval_tmp, eval_const, put_some, absV_bool, Nat.reduceEqDiff, List.map_cons, List.map_nil, if_true, if_false, f8, f12]
      refine callI_pure cal17 (kSesList scB.k) ?_
      simp only [goI_ops, opsA_guardS, gvI_same, slotAt_zero, slotAt_succ, stepA_call, eval_tmp, put_some, Nat.reduceEqDiff, List.map_cons, List.map_nil, if_true, if_false]
      refine callI_of cal14 E3 fun r h7 ⟨e7, e7'⟩ => ?_
      subst e7 e7'
      simp only [wpA_ret, seqQ_normal, endI_mk, goI_out, goI_ops, opsA_nil, opsA_cons, stepA_assign, stepA_pick, thenV_some, pickV_true, eval_tmp, eval_const, put_some, absV_bool, Nat.reduceEqDiff, if_true, if_false, retA_ret, Try.results3, resultsA_1]
      exact hid_mk rfl
end Go.Proofs.Yteegfdinghnoiaa.Pk
