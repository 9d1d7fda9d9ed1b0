/-
  What functions of the program do, told of abstract states. Conditions: as each theorem says.
-/
import Derived.Test.YtjphnabogfiahaaSeD
namespace Go.Proofs.Ytjphnabogfiahaa.Pk
open Go Go.Proofs Go.Proofs.Ytjphnabogfiahaa.Ab
set_option linter.unusedVariables false
set_option linter.unusedSimpArgs false
theorem NewOr.after {h H : AHeap} {v v' : V} (d : NewOr H v v') (hn : h.n ≤ H.n) : NewOr h v v' := by
  rcases d with d | d
  · exact .inl d
  · exact .inr fun q hq => Nat.le_trans hn (d q hq)
theorem app1C {h : AHeap} {s : V} {cs : List Chg} (o : Own h 30 5 s (cs.flatMap chgE)) (hl : cs.length ≤ 2 ^ 40) (c : Chg) :
    ∃ s' h', aAppend Try.prog 28 28 s (.sl h.n 0 1 1) (h.push (.cells (chgE c) 30 none)) = some (s', h') ∧ Own h' 30 5 s' ((cs ++ [c]).flatMap chgE) ∧ Keep h h' (isId s) ∧ NewOr h s s' := by
  have kp : Keep h (h.push (.cells (chgE c) 30 none)) none_ := Keep.push _ _ _
  have oj : Own (h.push (.cells (chgE c) 30 none)) 30 5 (.sl h.n 0 1 1) (chgE c) := Own.fresh' (chgE c) 1 rfl (by decide)
  have hsrc := own_src (P := Try.prog) (t := 28) kt_28 oj (n := 1) rfl (by decide) (chgE_one c)
  obtain ⟨s', h', ea, oa, ka, na⟩ := append_ownM (P := Try.prog) (t := 28) (tx := 28) sl_28 (by decide) (o.keepN kp) hsrc rfl (fun m hm => by
    change m * 5 = _ + 5 at hm
    rw [rows_len chgE_len] at hm
    exact ⟨by simp only [lim]; omega, by simp only [lim]; omega⟩)
  refine ⟨s', h', ea, ?_, (kp.up).trans' ka, NewOr.after na kp.n⟩
  rw [List.flatMap_append]
  simpa using oa
theorem chg_ld (p : Chg) (r : List V) : loadGo (some (some 5)) (some (chgE p ++ r)) = some (.agg (chgE p)) := load_row (chgE_len p)
theorem chg_ldc (p : Chg) : (if 5 ≤ (chgE p).length then some (V.agg (List.take 5 (chgE p))) else none) = some (.agg (chgE p)) := rfl
theorem chg_st (p : Chg) : setC (some 5) (AObj.cells [V.int .i64 0, V.int .i64 0, V.int .i64 0, V.int .i64 0, V.bool false] 30 none) 0 (chgE p) = some (.cells (chgE p) 30 none) := rfl
theorem chg_cellsE (p : Chg) : (V.agg (chgE p)).cells = some (chgE p) := rfl
theorem chg_d1 (p : Chg) : List.drop 1 (chgE p) = [.int .i64 p.fr, .int .i64 p.to, .int .i64 p.val, .bool p.del] := rfl
theorem chg_d2 (p : Chg) : List.drop 2 (chgE p) = [.int .i64 p.to, .int .i64 p.val, .bool p.del] := rfl
theorem putC_snoc (c : Chg) (cs : List Chg) (p : Chg) : ((cs ++ [p]).filter (otherS c)).map goneS = ((cs.filter (otherS c)).map goneS) ++ (if otherS c p = true then [goneS p] else []) := by
  rw [List.filter_append, List.map_append]
  cases h : otherS c p <;> simp [h]
theorem touched_has {g : Int} {l : List Chg} (hs : SS l) (k t : Int) {j : Nat} {p : Chg} (hp : (found g l k t)[j]? = some p) : p ∈ rmAll l ((found g l k t).take j) := by
  have hs' : SS (found g l k t) := hs.filter _
  have hm : p ∈ found g l k t := List.mem_of_getElem? hp
  refine mem_rmAll hs (List.mem_filter.1 hm).1 (fun hin => ?_) fun y hy => (List.mem_filter.1 (List.mem_of_mem_take hy)).1
  have hj := (List.getElem?_eq_some_iff.1 hp).1
  have e : found g l k t = (found g l k t).take j ++ p :: (found g l k t).drop (j + 1) := by
    have := List.take_append_drop j (found g l k t)
    rw [List.drop_eq_getElem_cons hj, (List.getElem?_eq_some_iff.1 hp).2] at this
    exact this.symm
  rw [e] at hs'
  exact absurd ((List.pairwise_append.1 hs').2.2 p hin p (by simp)) (lt3_irr (same3_iff.2 ⟨rfl, rfl, rfl⟩))
set_option maxHeartbeats 4000000 in
set_option maxRecDepth 10000 in
theorem sesPut (h : AHeap) (i : Nat) (v : V) (room g key time val : Int) (l : List Chg) (hmt : mayT time = true) (hroom : (l.length : Int) < room) (hl : l.length < 1024) (k : IsSes h i v room g l) :
    SCalls Try.prog 11 [.ptr i 0, .int .i64 key, .int .i64 time, .int .i64 val] h (fun r h' => ∃ v', r = .tuple [.imm (putC g l key time val).length ((putC g l key time val).flatMap chgE), .int .i64 0] ∧ IsSes h' i v' room g (putS g l key time val) ∧ Keep h h' (sesO i v) ∧ NewOr h v v') := by
  refine SCalls.cast ?_
  refine SCalls.enterI (c := _) Try.func11 rfl (by kernel_rfl) (by simp) ?_
  have hg := k.get
  have hal := k.alen h
  have hti := mayT_iff.1 hmt
  have hin := k.lt
  have hg1 := k.g1
  simp only [wpA_skip, wpA_region, wpA_seq, wpA_cond, condI_false, seqQ_normal, goI_out, goI_ops, opsA_nil, opsA_cons, stepA_move, stepA_assign, stepA_binOp, stepA_call, thenV_some, eval_tmp, eval_const, put_some, enterF_zero, enterF_succ, ptr_nil_eql, absV_int, absV_pnil, absV_snil, Nat.reduceEqDiff, reduceCtorEq, List.map_cons, List.map_nil, if_true, if_false, kt_24]
  refine callI_pure cal19 (pMayT time h) ?_
  simp only [wpA_skip, wpA_region, wpA_seq, wpA_cond, condI_false, seqQ_normal, goI_out, goI_ops, opsA_nil, opsA_cons, stepA_move, stepA_unOp, stepA_call, thenV_some, eval_tmp, put_some, enterF_zero, enterF_succ, aUn_not, Nat.reduceEqDiff, reduceCtorEq, List.map_cons, List.map_nil, if_true, if_false, Bool.not_true, hmt]
  refine callI_pure cal15 (sesFind h i v room g key time l k) ?_
  have hft : foundT g l key time = found g l key time := by rw [foundT, if_pos hmt]
  rw [hft]
  obtain ⟨cs, hcs⟩ : ∃ y, y = found g l key time := ⟨_, rfl⟩
  have hcl : cs.length ≤ 1024 := by rw [hcs]; have := found_le g l key time; omega
  have d0 : decide (room ≤ ((l.length : Nat) : Int)) = false := decide_eq_false (by omega)
  rw [← hcs]
  obtain ⟨c, hc⟩ : ∃ y, y = mkS g l key time val := ⟨_, rfl⟩
  have hcf : c.fr = loF time cs := by rw [hc, hcs]; rfl
  have hct : c.to = hiF time cs := by rw [hc, hcs]; rfl
  have hck : c.key = key := by rw [hc]; rfl
  have hcv : c.val = val := by rw [hc]; rfl
  have hcd : c.del = false := by rw [hc]; rfl
  have hcok : okS c := by rw [hc]; exact mkS_ok k.ok val hti.1 hti.2
  simp only [wpA_seq, wpA_draw, seqQ_normal, goI_out, goI_ops, opsA_nil, opsA_cons, stepA_assign, eval_tmp, put_some, enterF_succ, Nat.reduceEqDiff, if_true, if_false]
  cases hb : (((cs.length : Nat) : Int) == 0)
  all_goals
    refine SWp.drawnS none_ [] (.q 0 (.q 1 (.q 2 (.q 3 (.q 4 (.q 5 (.q 6 (.q 7 (.q 8 (.q 9 (.q 10 (.q 11 (.q 12 (.q 13 (.q 14 .done))))))))))))))) (by kernel_rfl) (by kernel_rfl) (by kernel_rfl) ?_
    simp only [siI_done, siI_q, sqI_some, mOk_none', implies_true, qI_nil, qI_cons, qI_guard, qgI_same, qgI_ft, thenQ_some, q_move, q_pick, q_load, q_nilCheck, q_binOp, q_fieldAddr, q_len, wpA_skip, wpA_region, wpA_seq, wpA_cond, wpA_block, wpA_loop, condI_false, seqQ_normal, goI_out, goI_ops, goI_mk, opsA_nil, opsA_cons, slotAt_zero, slotAt_succ, stepA_move, stepA_assign, stepA_len, thenV_some, pickV_true, pickV_false, nilV_ptr, eval_tmp, eval_const, put_some, enterF_zero, enterF_succ, aBin_eql, aBin_geq, absV_int, absV_bool, aField_eq, fieldGo_ptr, aLoad_eq, loadGo_one, aPlace_ptr, dropC_cells, aLen_imm, List.getElem?_cons_zero, List.getElem?_cons_succ, Nat.reduceEqDiff, Nat.reduceAdd, Nat.reduceLeDiff, reduceCtorEq, Nat.add_zero, Nat.zero_add, Nat.zero_le, List.length_cons, List.length_nil, List.drop_zero, List.drop_succ_cons, true_and, if_true, if_false, ft_49_0, ft_49_2, kt_28, lt_3, lt_47, hb, hg, hal, d0]
    refine SWp.loopG (α := Nat) (fun t f h' => f 0 = .ptr i 0 ∧ f 1 = .int .i64 key ∧ f 3 = .int .i64 val ∧ f 10 = .imm cs.length (cs.flatMap chgE) ∧ f 11 = .int .i64 (loF time (cs.take t)) ∧ f 12 = .int .i64 (hiF time (cs.take t)) ∧ f 46 = .imm cs.length (cs.flatMap chgE) ∧ f 47 = .int .i64 (cs.length : Nat) ∧ f 48 = .int .i64 (t : Nat) ∧ t ≤ cs.length ∧ Keep h h' none_) (fun t => cs.length - t) 0
      ⟨rfl, rfl, rfl, rfl, rfl, rfl, rfl, rfl, rfl, Nat.zero_le _, Keep.refl _ _⟩ ?_
    rintro t f h1 ⟨f0, f1, f3, f10, f11, f12, f46, f47, f48, ht, k1⟩
    refine wpI_sound (by kernel_rfl) ?_
    by_cases hlt : t < cs.length
    · have d1 : decide ((t : Int) < ((cs.length : Nat) : Int)) = true := decide_eq_true (by omega)
      have hw := inc64 hlt (by omega)
      have x1 := chg_ix (kk := .i64) hlt
      have ht1 : cs.take (t + 1) = cs.take t ++ [cs[t]] := List.take_succ_eq_append_getElem hlt
      have ea := loF_snoc time (cs.take t) cs[t]
      have eb := hiF_snoc time (cs.take t) cs[t]
      rw [← ht1] at ea eb
      generalize cs[t] = p at x1 ht1 ea eb
      have ld := chg_ld p
      have ldc := chg_ldc p
      have st := chg_st p
      have cc := chg_cellsE p
      have c1 := chg_d1 p
      have c2 := chg_d2 p
      simp only [wpA_skip, wpA_region, wpA_seq, wpA_cond, wpA_block, wpA_draw, condI_true, seqQ_normal, goI_out, goI_ops, opsA_nil, opsA_cons, stepA_alloc, stepA_load, stepA_store, stepA_binOp, stepA_indexAddr, thenV_some, thenH_some, thenS_some, eval_tmp, put_some, aBin_lss, aLoad_eq, aPlace_at, aStore_eq, storeGo_ptr, aAlloc_eq, get_push_new, set_push, Nat.reduceEqDiff, Option.map_some, if_true, if_false, lt_30, zc_30, zt_30, f46, f47, f48, d1, x1, ld, st, cc]
      refine SWp.drawnS none_ [] (.q 0 (.q 1 (.q 2 (.q 3 (.q 4 (.q 5 (.q 6 (.q 7 (.q 8 (.q 9 .done)))))))))) (by kernel_rfl) (by kernel_rfl) (by kernel_rfl) ?_
      simp only [siI_done, siI_q, sqI_some, mOk_none', implies_true, qI_nil, qI_cons, thenQ_some, q_move, q_assign, q_load, q_fieldAddr, q_min, q_max, wpA_region, seqQ_normal, blkQ_normal, endI_mk, andThen_normal, goI_out, goI_ops, goI_mk, opsA_nil, opsA_cons, stepA_move, stepA_binOp, thenV_some, eval_tmp, eval_const, put_some, put_none, aBin_add, mmV_min, mmV_max, absV_int, aField_eq, fieldGo_ptr, aLoad_eq, loadGo_one, aPlace_ptr, dropC_cells, get_push_new, List.getElem?_cons_zero, List.getElem?_cons_succ, Nat.reduceEqDiff, Nat.reduceLeDiff, Nat.zero_add, true_and, if_true, if_false, ft_30_1, ft_30_2, lt_2, f11, f12, f48, c1, c2, chgE_len, hw]
      exact hid_mk ⟨t + 1, ⟨f0, f1, f3, f10, by rw [ea]; rfl, by rw [eb]; rfl, f46, f47, rfl, hlt, k1.then_push _⟩, by omega⟩
    · have d1 : decide ((t : Int) < ((cs.length : Nat) : Int)) = false := decide_eq_false (by omega)
      rw [List.take_of_length_le (by omega)] at f11 f12
      rw [← hcf] at f11
      rw [← hct] at f12
      simp only [wpA_region, wpA_seq, wpA_cond, wpA_block, wpA_exit, wpA_loop, condI_false, seqQ_normal, seqQ_exit, blkQ_exit, endI_mk, goE, andThen_exit, goI_out, goI_ops, opsA_nil, opsA_cons, stepA_move, stepA_assign, stepA_binOp, stepA_len, thenV_some, eval_tmp, eval_const, put_some, aBin_lss, absV_int, absV_snil, aLen_imm, Nat.reduceEqDiff, if_true, if_false, kt_28, f10, f47, f48, d1]
      have k1' := k.keepN k1
      refine SWp.loopG (α := Nat × V × V) (fun x f h' => f 0 = .ptr i 0 ∧ f 1 = .int .i64 key ∧ f 3 = .int .i64 val ∧ f 11 = .int .i64 c.fr ∧ f 12 = .int .i64 c.to ∧ f 15 = x.2.2 ∧ f 61 = .imm cs.length (cs.flatMap chgE) ∧ f 62 = .int .i64 (cs.length : Nat) ∧ f 63 = .int .i64 (x.1 : Nat) ∧ x.1 ≤ cs.length ∧ IsSes h' i x.2.1 room g (rmAll l (cs.take x.1)) ∧
          Own h' 30 5 x.2.2 ((((cs.take x.1).filter (otherS c)).map goneS).flatMap chgE) ∧ Keep h h' (sesO i v) ∧ NewOr h v x.2.1 ∧ (∀ j, idOf x.2.2 = some j → h.n ≤ j ∧ idOf x.2.1 ≠ some j)) (fun x => cs.length - x.1) (0, v, .snil)
        ⟨f0, f1, f3, f11, f12, rfl, rfl, rfl, rfl, Nat.zero_le _, by rw [List.take_zero, rmAll_nil]; exact k1', Own.snil _ _ _, k1.up, .inl rfl, by simp [idOf]⟩ ?_
      rintro ⟨t, v1, s⟩ f h1 ⟨f0, f1, f3, f11, f12, f15, f61, f62, f63, ht, ks, os, kk, nv, ap⟩
      simp only at f15 f63 ht ks os nv ap
      refine wpI_sound (by kernel_rfl) ?_
      by_cases hlt : t < cs.length
      · have d1 : decide ((t : Int) < ((cs.length : Nat) : Int)) = true := decide_eq_true (by omega)
        have hw := inc64 hlt (by omega)
        have x1 := chg_ix (kk := .i64) hlt
        have ht1 : cs.take (t + 1) = cs.take t ++ [cs[t]] := List.take_succ_eq_append_getElem hlt
        have hp : cs[t]? = some cs[t] := List.getElem?_eq_getElem hlt
        have hrm := rmAll_snoc l (cs.take t) cs[t]
        have hpc := putC_snoc c (cs.take t) cs[t]
        rw [← ht1] at hrm hpc
        have hin3 : ∀ p, cs[t]? = some p → p ∈ rmAll l (cs.take t) := by
          rw [hcs]
          exact fun p hp => touched_has k.ss key time hp
        have hin2 := hin3 _ hp
        generalize cs[t] = p at x1 ht1 hp hrm hpc hin2
        have hpok : okS p := ks.ok p hin2
        have ld := chg_ld p
        have ldc := chg_ldc p
        have st := chg_st p
        have cc := chg_cellsE p
        have c1 := chg_d1 p
        have c2 := chg_d2 p
        obtain ⟨H, hH⟩ : ∃ y, y = (h1.push (.cells (chgE p) 30 none)).push (.cells (sesE p) 52 none) := ⟨_, rfl⟩
        have gA : H.get h1.n = .cells (chgE p) 30 none := by rw [hH]; exact get_push2'
        have gB : H.get (h1.n + 1) = .cells (sesE p) 52 none := by rw [hH]; exact get_push2
        have kH : Keep h1 H none_ := by rw [hH]; exact (Keep.push _ _ _).then_push _
        have nH : H.n = h1.n + 2 := by rw [hH]; rfl
        have ksH := ks.keepN kH
        have sld := ses_ldc p
        have sst := ses_st p
        have scc := ses_cellsE p
        simp only [wpA_skip, wpA_region, wpA_seq, wpA_cond, wpA_block, condI_true, seqQ_normal, goI_out, goI_ops, opsA_nil, opsA_cons, stepA_alloc, stepA_load, stepA_store, stepA_binOp, stepA_indexAddr, stepA_call, thenV_some, thenH_some, thenS_some, eval_tmp, put_some, put_none, aBin_lss, aLoad_eq, loadGo_row, aPlace_ptr, aPlace_at, dropC_cells, aStore_eq, storeGo_ptr, aAlloc_eq, get_push_new, set_push, Nat.reduceEqDiff, List.map_cons, List.map_nil, Option.map_some, Nat.zero_le, List.drop_zero, if_true, if_false, lt_30, zc_30, zt_30, f61, f62, f63, d1, x1, ld, ldc, st, cc]
        refine callI_pure cal20 (pSesOf p _) ?_
        simp only [wpA_region, wpA_seq, seqQ_normal, goI_out, goI_ops, opsA_nil, opsA_cons, stepA_move, stepA_alloc, stepA_load, stepA_store, stepA_call, thenV_some, thenH_some, thenS_some, eval_tmp, put_some, put_none, aLoad_eq, loadGo_row, aPlace_ptr, dropC_cells, aStore_eq, storeGo_ptr, aAlloc_eq, push_n, get_push2, set_push2, Nat.reduceEqDiff, reduceCtorEq, List.map_cons, List.map_nil, Option.map_some, Nat.zero_le, List.drop_zero, if_true, if_false, lt_52, zc_52, zt_52, f0, sst, scc, sld]
        rw [← hH]
        clear hH
        refine callI_of cal21 (sesRemove H i v1 room g _ p hpok (has3_mem hin2) ksH) fun r h3 ⟨v2, ks3, k3, n3⟩ => ?_
        rw [← hrm] at ks3
        have hvlt : ∀ q, idOf v1 = some q → q < h1.n := fun q hq => ks.own.lt q hq
        have hilt := ks.lt
        have gA3 := (k3.get h1.n (by omega) (by rintro (hh | hh); omega; have := hvlt _ hh; omega)).trans gA
        have gB3 := (k3.get (h1.n + 1) (by omega) (by rintro (hh | hh); omega; have := hvlt _ hh; omega)).trans gB
        have hlt3 := k3.n
        have hs1 : ∀ j, idOf s = some j → j < h1.n := fun j hj => os.lt j hj
        have os3 := (os.keepN kH).keep k3 (fun j hj hh => by
          rcases hh with hh | hh
          · have := (ap j hj).1; omega
          · exact (ap j hj).2 hh)
        have kk3 : Keep h h3 (sesO i v) := ((kk.trans' kH.up).trans k3 fun q hq hh => by
          rcases hh with hh | hh
          · exact .inl hh
          · rcases nv with nv | nv
            · exact .inr (by show idOf v = some q; rw [← nv]; exact hh)
            · have := nv q hh; omega)
        have nv3 : NewOr h v v2 := by
          rcases n3 with n3 | n3
          · rcases nv with nv | nv
            · exact .inl (n3.trans nv)
            · exact .inr fun q hq => nv q (by rw [← n3]; exact hq)
          · exact .inr fun q hq => by have := n3 q hq; have := kk.n; omega
        have ap3 : ∀ j, idOf s = some j → h.n ≤ j ∧ idOf v2 ≠ some j := fun j hj => by
          refine ⟨(ap j hj).1, fun hh => ?_⟩
          rcases n3 with n3 | n3
          · rw [n3] at hh; exact (ap j hj).2 hh
          · have := n3 j hh; have := hs1 j hj; omega
        cases e1 : (p.fr != c.fr)
        · cases e2 : (p.to != c.to)
          · have ho : otherS c p = false := by
              simp at e1 e2; simp [otherS, e1, e2]
            rw [ho] at hpc
            simp only [Bool.false_eq_true, if_false, List.append_nil] at hpc
            simp only [wpA_skip, wpA_region, wpA_seq, wpA_cond, condI_false, seqQ_normal, blkQ_normal, endI_mk, andThen_normal, goI_out, goI_ops, opsA_nil, opsA_cons, opsA_guardS, gvI_same, slotAt_zero, slotAt_succ, stepA_move, stepA_pick, stepA_load, stepA_binOp, stepA_fieldAddr, thenV_some, pickV_false, eval_tmp, eval_const, put_some, put_none, aBin_add, aBin_neq, absV_int, absV_bool, aField_eq, fieldGo_ptr, aLoad_eq, loadGo_one, aPlace_ptr, dropC_cells, Nat.reduceEqDiff, Nat.reduceLeDiff, Nat.zero_add, if_true, if_false, ft_30_1, ft_30_2, lt_2, f11, f12, f63, gA3, c1, c2, chgE_len, e1, e2, hw]
            exact hid_mk ⟨(t + 1, v2, s), ⟨f0, f1, f3, f11, f12, f15, f61, f62, rfl, hlt, ks3, by simp only; rw [hpc]; exact os3, kk3, nv3, ap3⟩, by simp only; omega⟩
          · have ho : otherS c p = true := by
              simp at e1 e2; simp [otherS, e1, e2]
            rw [ho, if_pos rfl] at hpc
            obtain ⟨s', h4, ea, o4, k4, n4⟩ := app1C os3 (by simp only [List.length_map]; have := List.length_filter_le (otherS c) (cs.take t); have := List.length_take_le t cs; omega) (goneS p)
            have hlit := lit1cS h3 (goneS p)
            simp only [wpA_region, wpA_seq, wpA_cond, condI_true, seqQ_normal, goI_out, goI_ops, opsA_nil, opsA_cons, opsA_guardS, gvI_same, slotAt_zero, slotAt_succ, stepA_move, stepA_pick, stepA_load, stepA_binOp, stepA_fieldAddr, stepA_call, thenV_some, pickV_false, eval_tmp, eval_const, put_some, put_none, aBin_neq, absV_bool, aField_eq, fieldGo_ptr, aLoad_eq, loadGo_one, loadGo_row, aPlace_ptr, dropC_cells, Nat.reduceEqDiff, Nat.reduceLeDiff, List.map_cons, List.map_nil, Nat.zero_add, Nat.zero_le, List.drop_zero, if_true, if_false, ft_30_1, ft_30_2, lt_2, lt_52, f11, f12, f15, gA3, gB3, c1, c2, chgE_len, sld, e1, e2]
            refine callI_pure cal18 (pGone p hpok _) ?_
            simp only [wpA_region, seqQ_normal, blkQ_normal, endI_mk, andThen_normal, goI_out, goI_ops, opsA_nil, opsA_cons, stepA_move, stepA_assign, stepA_buildSlice, stepA_binOp, stepA_append, thenV_some, thenH_some, eval_tmp, eval_const, put_some, put_none, aBin_add, absV_int, Nat.reduceEqDiff, List.map_cons, List.map_nil, if_true, if_false, f63, hlit, ea, hw]
            refine hid_mk ⟨(t + 1, v2, s'), ⟨f0, f1, f3, f11, f12, rfl, f61, f62, rfl, hlt, ks3.keep k4 (fun hh => ?_) (fun j hj hh => (ap3 j hh).2 hj), by simp only; rw [hpc]; exact o4, kk3.trans k4 fun q hq hh => ?_, nv3, fun j hj => ?_⟩, by simp only; omega⟩
            · have := (ap3 i hh).1; omega
            · have := (ap3 q hh).1; omega
            · rcases n4 with n4 | n4
              · rw [n4] at hj; exact ap3 j hj
              · have h5 := n4 j hj
                have h6 := kk3.n
                exact ⟨by omega, fun hh => by have := ks3.own.lt j hh; omega⟩
        · have ho : otherS c p = true := by
            simp at e1; simp [otherS, e1]
          rw [ho, if_pos rfl] at hpc
          obtain ⟨s', h4, ea, o4, k4, n4⟩ := app1C os3 (by simp only [List.length_map]; have := List.length_filter_le (otherS c) (cs.take t); have := List.length_take_le t cs; omega) (goneS p)
          have hlit := lit1cS h3 (goneS p)
          simp only [wpA_region, wpA_seq, wpA_cond, condI_true, seqQ_normal, goI_out, goI_ops, opsA_nil, opsA_cons, opsA_guardS, gvI_tf, slotAt_zero, slotAt_succ, stepA_move, stepA_pick, stepA_load, stepA_binOp, stepA_fieldAddr, stepA_call, thenV_some, pickV_true, eval_tmp, eval_const, put_some, put_none, aBin_neq, absV_bool, aField_eq, fieldGo_ptr, aLoad_eq, loadGo_one, loadGo_row, aPlace_ptr, dropC_cells, Nat.reduceEqDiff, Nat.reduceLeDiff, List.map_cons, List.map_nil, Nat.zero_add, Nat.zero_le, List.drop_zero, if_true, if_false, ft_30_1, lt_2, lt_52, f11, f15, gA3, gB3, c1, chgE_len, sld, e1]
          refine callI_pure cal18 (pGone p hpok _) ?_
          simp only [wpA_region, seqQ_normal, blkQ_normal, endI_mk, andThen_normal, goI_out, goI_ops, opsA_nil, opsA_cons, stepA_move, stepA_assign, stepA_buildSlice, stepA_binOp, stepA_append, thenV_some, thenH_some, eval_tmp, eval_const, put_some, put_none, aBin_add, absV_int, Nat.reduceEqDiff, List.map_cons, List.map_nil, if_true, if_false, f63, hlit, ea, hw]
          refine hid_mk ⟨(t + 1, v2, s'), ⟨f0, f1, f3, f11, f12, rfl, f61, f62, rfl, hlt, ks3.keep k4 (fun hh => ?_) (fun j hj hh => (ap3 j hh).2 hj), by simp only; rw [hpc]; exact o4, kk3.trans k4 fun q hq hh => ?_, nv3, fun j hj => ?_⟩, by simp only; omega⟩
          · have := (ap3 i hh).1; omega
          · have := (ap3 q hh).1; omega
          · rcases n4 with n4 | n4
            · rw [n4] at hj; exact ap3 j hj
            · have h5 := n4 j hj
              have h6 := kk3.n
              exact ⟨by omega, fun hh => by have := ks3.own.lt j hh; omega⟩
      · have d1 : decide ((t : Int) < ((cs.length : Nat) : Int)) = false := decide_eq_false (by omega)
        rw [List.take_of_length_le (by omega)] at ks os
        have hrest : rmAll l cs = rest g l key time := by rw [hcs]; exact rmAll_filter k.ss _
        rw [hrest] at ks
        have hnl : (rest g l key time).length < 1024 := Nat.lt_of_le_of_lt (List.length_filter_le ..) hl
        have hnh : has3 (rest g l key time) c = false := by rw [hc]; exact rest_has (by omega) l key time val
        have ldc := chg_ldc c
        have st := chg_st c
        have cc := chg_cellsE c
        have ecc : (V.agg [.int .i64 key, .int .i64 c.fr, .int .i64 c.to, .int .i64 val, .bool false]) = .agg (chgE c) := by unfold chgE; rw [hck, hcv, hcd]
        obtain ⟨H, hH⟩ : ∃ y, y = h1.push (.cells (chgE c) 30 none) := ⟨_, rfl⟩
        have gH : H.get h1.n = .cells (chgE c) 30 none := by rw [hH]; exact get_push_new
        have kH : Keep h1 H none_ := by rw [hH]; exact Keep.push _ _ _
        have nH : H.n = h1.n + 1 := by rw [hH]; rfl
        have ksH := ks.keepN kH
        simp only [wpA_region, wpA_seq, wpA_cond, wpA_exit, condI_false, seqQ_normal, seqQ_exit, blkQ_exit, endI_mk, goE, andThen_exit, goI_out, goI_ops, opsA_nil, opsA_cons, stepA_move, stepA_alloc, stepA_build, stepA_load, stepA_store, stepA_binOp, stepA_call, thenV_some, thenH_some, thenS_some, eval_tmp, put_some, put_none, aBin_lss, cells_int, aLoad_eq, loadGo_row, aPlace_ptr, dropC_cells, aStore_eq, storeGo_ptr, setAll_nil, setAll_cons, aAlloc_eq, aBuild_go, aFill_nil, aFill_cons, fillGo_some, buildGo_struct, get_push_new, set_push, List.getElem?_cons_zero, List.getElem?_cons_succ, Nat.reduceEqDiff, Nat.reduceAdd, Nat.reduceLeDiff, reduceCtorEq, List.map_cons, List.map_nil, Option.map_some, Nat.zero_add, Nat.zero_le, List.length_cons, List.length_nil, List.drop_zero, List.set_cons_zero, List.set_cons_succ, and_self, if_true, if_false, lt_30, pl_30, zc_30, zt_30, f0, f1, f3, f11, f12, f62, f63, d1, ecc, st, cc, ldc]
        rw [← hH]
        clear hH
        refine callI_pure cal20 (pSesOf c _) ?_
        simp only [goI_ops, opsA_cons, stepA_call, eval_tmp, put_some, put_none, Nat.reduceEqDiff, List.map_cons, List.map_nil, if_true, if_false]
        refine callI_of cal22 (sesInsert H i v1 room g _ c hcok hnh hnl ksH) fun r h3 ⟨v2, ks3, k3, n3⟩ => ?_
        have hvlt : ∀ q, idOf v1 = some q → q < h1.n := fun q hq => ks.own.lt q hq
        have hilt := ks.lt
        have gH3 := (k3.get h1.n (by omega) (by rintro (hh | hh); omega; have := hvlt _ hh; omega)).trans gH
        have hlt3 := k3.n
        have hs1 : ∀ j, idOf s = some j → j < h1.n := fun j hj => os.lt j hj
        have os3 := (os.keepN kH).keep k3 (fun j hj hh => by
          rcases hh with hh | hh
          · have := (ap j hj).1; omega
          · exact (ap j hj).2 hh)
        have kk3 : Keep h h3 (sesO i v) := ((kk.trans' kH.up).trans k3 fun q hq hh => by
          rcases hh with hh | hh
          · exact .inl hh
          · rcases nv with nv | nv
            · exact .inr (by show idOf v = some q; rw [← nv]; exact hh)
            · have := nv q hh; omega)
        have nv3 : NewOr h v v2 := by
          rcases n3 with n3 | n3
          · rcases nv with nv | nv
            · exact .inl (n3.trans nv)
            · exact .inr fun q hq => nv q (by rw [← n3]; exact hq)
          · exact .inr fun q hq => by have := n3 q hq; have := kk.n; omega
        have ap3 : ∀ j, idOf s = some j → h.n ≤ j ∧ idOf v2 ≠ some j := fun j hj => by
          refine ⟨(ap j hj).1, fun hh => ?_⟩
          rcases n3 with n3 | n3
          · rw [n3] at hh; exact (ap j hj).2 hh
          · have := n3 j hh; have := hs1 j hj; omega
        obtain ⟨s', h4, ea, o4, k4, n4⟩ := app1C os3 (by simp only [List.length_map]; have := List.length_filter_le (otherS c) cs; omega) c
        have hlit := lit1cS h3 c
        simp only [wpA_region, wpA_seq, wpA_ret, seqQ_normal, endI_mk, goI_out, goI_ops, opsA_nil, opsA_cons, stepA_move, stepA_assign, stepA_buildSlice, stepA_load, stepA_append, thenV_some, thenH_some, eval_tmp, eval_const, put_some, put_none, absV_int, aLoad_eq, loadGo_row, aPlace_ptr, dropC_cells, Nat.reduceEqDiff, List.map_cons, List.map_nil, Nat.zero_le, List.drop_zero, if_true, if_false, lt_30, f15, gH3, ldc, hlit, ea, retA_ret, Try.results11, resultsA_2]
        have ks4 := ks3.keep k4 (fun hh => by have := (ap3 i hh).1; omega) (fun j hj hh => (ap3 j hh).2 hj)
        have kk4 : Keep h h4 (sesO i v) := kk3.trans k4 fun q hq hh => by have := (ap3 q hh).1; omega
        have ap4 : ∀ j, idOf s' = some j → h.n ≤ j ∧ idOf v2 ≠ some j := fun j hj => by
          rcases n4 with n4 | n4
          · rw [n4] at hj; exact ap3 j hj
          · have h5 := n4 j hj
            have h6 := kk3.n
            exact ⟨by omega, fun hh => by have := ks3.own.lt j hh; omega⟩
        have hpc : ((cs.filter (otherS c)).map goneS) ++ [c] = putC g l key time val := by rw [hc, hcs]; rfl
        rw [hpc] at o4
        obtain ⟨h5, c5, k5⟩ := Cast.own o4 (n := (putC g l key time val).length) (rows_len chgE_len _) (by decide)
        refine hid_mk ⟨_, h5, Cast.tuple (CastL.cons c5 (CastL.refl _ _)), v2, rfl, ?_, kk4.trans k5 fun q hq hh => by have := (ap4 q hh).1; omega, nv3⟩
        have := ks4.keep k5 (fun hh => by have := (ap4 i hh).1; omega) (fun j hj hh => (ap4 j hh).2 hj)
        rw [hc] at this
        exact this
end Go.Proofs.Ytjphnabogfiahaa.Pk
