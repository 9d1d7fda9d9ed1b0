/-
  What functions of the program do, told of abstract states. Conditions: as each theorem says.
-/
import Derived.Test.YtcdpepdjeneelaaDoorVsT
import Derived.Test.YtcdpepdjeneelaaDoorVsH
namespace Go.Proofs.YtcdpepdjeneelaaDoor.Pk
open Go Go.Proofs Go.Proofs.YtcdpepdjeneelaaDoor.Ab Go.Proofs.Vw
set_option linter.unusedVariables false
set_option linter.unusedSimpArgs false
/-- The length of an own row of entries. -/
theorem lenO {h : AHeap} {v : V} {l : List Ent} (o : Own h 47 11 v (l.flatMap entE)) : ∀ h', aLen Tryd.prog 22 v h' = some (.int .i64 (l.length : Nat)) := fun h' => by
  have hz : (l.flatMap entE).length = l.length * 11 := rows_len entE_len l
  rcases o with ⟨rfl | rfl, hcc⟩ | ⟨i0, len, cap, c0, ex, rfl, _, _, hlen2, _, _⟩
  · rw [hcc] at hz
    have : l.length = 0 := by simp at hz; omega
    rw [this]
    exact aLen_snil kt_22
  · rw [hcc] at hz
    have : l.length = 0 := by simp at hz; omega
    rw [this]
    exact aLen_z0 kt_22
  · rw [hz] at hlen2
    obtain rfl : len = l.length := by omega
    exact aLen_sl kt_22
set_option maxHeartbeats 4000000 in
set_option maxRecDepth 10000 in
theorem pProcessO (l : List Ent) (hl : l.length ≤ 2 ^ 14) (he : ∀ x ∈ l, eLen x) (h : AHeap) (hu : KU h) {v : V} (ov : Own h 47 11 v (l.flatMap entE)) :
    SCalls Tryd.prog 21 [v] h (fun r h' => ∃ lm tm L lc T tc, r = .agg [.map lm, .map tm] ∧ VF h h' lm tm (readV l) L lc T tc) := by
  refine SCalls.cast ?_
  have hlen := lenO ov
  refine SCalls.enterI (c := _) Tryd.func21 rfl (by kernel_rfl) (by simp) ?_
  simp only [wpA_region, wpA_seq, wpA_block, wpA_loop, seqQ_normal, goI_out, goI_ops, opsA_nil, opsA_cons, stepA_move, stepA_alloc, stepA_build, stepA_store, stepA_makeMap, stepA_len, thenV_some, thenH_some, thenS_some, eval_tmp, eval_const, put_some, put_none, enterF_zero, enterF_succ, absV_int, cells_map, cells_agg, one_map, all_nil, all_cons, aStore_eq, storeGo_ptr, setC_row, setAll_nil, setAll_cons, aAlloc_eq, makeMap_nil, aBuild_go, aFill_nil, aFill_cons, fillGo_some, buildGo_struct, push_n, get_push4d, set_push4d, List.getElem?_cons_zero, List.getElem?_cons_succ, Nat.reduceEqDiff, Nat.reduceAdd, Nat.reduceLeDiff, reduceCtorEq, List.map_cons, List.map_nil, Option.map_some, Option.map_none, Nat.zero_add, List.length_cons, List.length_nil, List.set_cons_zero, List.set_cons_succ, and_self, if_true, if_false, Bool.and_self, Nat.le_refl, pl_58, zc_58, zt_58, hlen]
  refine SWp.loopG (α := Nat × (PM × Nat × PM × Nat × Ow)) (fun y f h' => f 2 = .ptr h.n 0 ∧ f 3 = .ptr (h.n + 3) 0 ∧ f 9 = v ∧ f 10 = .int .i64 (l.length : Nat) ∧ f 11 = .int .i64 (y.1 : Nat) ∧ y.1 ≤ l.length ∧
      h'.get (h.n + 3) = .cells [.map (h.n + 1), .map (h.n + 2)] 58 none ∧ h.n + 3 < h'.n ∧ (∀ tg, y.2.2.2.2.2 (h.n + 3) ≠ some tg) ∧
      VS (h.push (.cells [.mnil, .mnil] 58 none)) h' (h.n + 1) (h.n + 2) (readV (l.take y.1)).logs (readV (l.take y.1)).tasks y.2.1 y.2.2.1 y.2.2.2.1 y.2.2.2.2.1 y.2.2.2.2.2)
      (fun y => l.length - y.1) (0, [], 0, [], 0, ow0 (h.n + 1) (h.n + 2)) ⟨rfl, rfl, rfl, rfl, rfl, Nat.zero_le _, ?_, ?_, ?_, ?_⟩ ?_
  · simp [AHeap.push]
  · simp only [push_n]; omega
  · intro tg hh; rcases ow0_some hh with e | e <;> omega
  · refine vs0 _ _ _ _ (((Keep.push _ _ _).trans' (Keep.push _ _ _)).trans' (Keep.push _ _ _)) ⟨Nat.le_refl _, ?_⟩ ⟨?_, ?_⟩ (by omega) ?_ ?_
    · simp only [push_n]; omega
    · simp only [push_n]; omega
    · simp only [push_n]; omega
    · simp [AHeap.push]
    · simp [AHeap.push]
  rintro ⟨i, L, lc, T, tc, ow⟩ f h1 ⟨f2, f3, f9, f10, f11, hi, gs, ns, hfree, w⟩
  simp only at f11 hi hfree w
  refine wpI_sound (by kernel_rfl) ?_
  have hkeep := w.keep
  have hn1 := hkeep.n
  rw [push_n] at hn1
  by_cases hlt : i < l.length
  · have d1 : decide ((i : Int) < ((l.length : Nat) : Int)) = true := decide_eq_true (by omega)
    have wi : IntKind.i64.wrap (((i : Nat) : Int) + 1) = ((i + 1 : Nat) : Int) := by rw [Go.IntWalk.i64_in _ (by omega)]; omega
    obtain ⟨iv, qq, x1, _, dr⟩ := own_row_ix (kk := .i64) entE_len (by decide) ss_22 (ov.keepN ((Keep.push _ _ _).trans' hkeep)) hlt
    rw [aIndexAddr_eq, ss_22] at x1
    rw [Nat.zero_add] at x1 dr
    have x1 : ixGo (some 11) none v (i : Int) = some (.ptr iv (i * 11)) := x1
    have hsn : readV (l.take (i + 1)) = stepE (readV (l.take i)) l[i] i := by rw [List.take_succ_eq_append_getElem hlt, readV_snoc, List.length_take, Nat.min_eq_left (by omega)]
    have bd := vbd_read i (l.take i) (by rw [List.length_take]; omega)
    have hxl := he _ (List.getElem_mem hlt)
    generalize l[i] = x at dr hsn hxl
    generalize readV (l.take i) = s at w hsn bd
    have ld : loadGo (some (some 11)) (some (entE x ++ qq)) = some (.agg (entE x)) := load_row (entE_len x)
    have hce : (V.agg (entE x)).cells = some (entE x) := rfl
    have st0 : setC (some 11) (AObj.cells [V.int .i64 0, .int .i64 0, .int .i64 0, .int .i64 0, .int .i64 0, .int .i64 0, .int .i64 0, .int .i64 0, .bool false, .snil, .snil] 47 none) 0 (entE x) = some (.cells (entE x) 47 none) := rfl
    obtain ⟨H, hH⟩ : ∃ y, y = h1.push (.cells (entE x) 47 none) := ⟨_, rfl⟩
    have kH : Keep h1 H none_ := by rw [hH]; exact Keep.push _ _ _
    have nH : H.n = h1.n + 1 := by rw [hH]; rfl
    have gE : H.get h1.n = .cells (entE x) 47 none := by rw [hH]; exact get_push_new
    have gS := (kH.get (h.n + 3) ns (by simp [none_])).trans gs
    have wH := w.on kH
    have hu1 : KU H := by unfold KU; rw [kH.glob, hkeep.glob]; exact hu
    have tk : (entE x).take 11 = entE x := rfl
    have eln := entE_len x
    simp only [wpA_skip, wpA_region, wpA_seq, wpA_cond, wpA_block, condI_true, seqQ_normal, goI_out, goI_ops, opsA_nil, opsA_cons, stepA_move, stepA_assign, stepA_alloc, stepA_load, stepA_store, stepA_binOp, stepA_indexAddr, stepA_call, thenV_some, thenH_some, thenS_some, eval_tmp, put_some, put_none, aBin_lss, aLoad_eq, loadGo_row, aPlace_ptr, dropC_cells, aStore_eq, storeGo_ptr, aAlloc_eq, aIndexAddr_eq, get_push_new, set_push, Nat.reduceEqDiff, List.map_cons, List.map_nil, Option.map_some, Nat.zero_le, List.drop_zero, if_true, if_false, Nat.le_refl, as_22, lt_47, ss_22, zc_47, zt_47, f9, f10, f11, d1, x1, dr, ld, hce, st0, tk, eln]
    rw [← hH]
    clear hH
    refine callI_pure cal36 (pMay x H hu1 hxl) ?_
    have hSv : ∀ q tg, ow q = some tg → q ≠ h.n + 3 := fun q tg hq hh => hfree tg (hh ▸ hq)
    have hEv : ∀ q tg, ow q = some tg → q ≠ h1.n := fun q tg hq hh => by have := (w.old _ _ hq).2; omega
    have d0 : dropC (AObj.cells (entE x) 47 none) 0 = some (entE x) := rfl
    have d1' : dropC (AObj.cells (entE x) 47 none) 1 = some ((entE x).drop 1) := rfl
    have d2' : dropC (AObj.cells (entE x) 47 none) 2 = some ((entE x).drop 2) := rfl
    have l0 : loadGo (some none) (some (entE x)) = some (.int .i64 x.kind) := rfl
    have l1 : loadGo (some none) (some ((entE x).drop 1)) = some (.int .i64 x.task) := rfl
    have l2 : loadGo (some none) (some ((entE x).drop 2)) = some (.int .i64 x.epoch) := rfl
    have lE : loadGo (some (some 11)) (some (entE x)) = some (.agg (entE x)) := rfl
    have dS : dropC (AObj.cells [V.map (h.n + 1), .map (h.n + 2)] 58 none) 0 = some [.map (h.n + 1), .map (h.n + 2)] := rfl
    have lS : loadGo (some (some 2)) (some [V.map (h.n + 1), .map (h.n + 2)]) = some (.agg [.map (h.n + 1), .map (h.n + 2)]) := rfl
    cases hm : mayB x with
    | false =>
      simp only [wpA_region, wpA_seq, wpA_cond, wpA_exit, condI_true, seqQ_normal, seqQ_exit, blkQ_exit, endI_mk, goE, andThen_normal, andThen_exit, goI_out, goI_ops, opsA_nil, opsA_cons, stepA_move, stepA_load, stepA_binOp, stepA_unOp, thenV_some, eval_tmp, eval_const, put_some, put_none, aBin_add, aUn_not, absV_int, aLoad_eq, aPlace_ptr, Nat.reduceEqDiff, reduceCtorEq, if_true, if_false, Bool.not_false, lt_58, f3, f11, wi]
      exact hid_mk ⟨(i + 1, L, lc, T, tc, ow), ⟨f2, f3, f9, f10, rfl, hlt, gS, by omega, hfree, wH.cast (hsn.trans (by unfold stepE; rw [if_pos hm])).symm⟩, by simp only; omega⟩
    | true =>
      have hk := ((may_iff x).1 hm).1
      have nm : ¬ mayB x = false := by rw [hm]; simp
      by_cases k1 : x.kind = 1
      · have c1 : (x.kind == 1) = true := by simpa using k1
        have lb : (s.logs x.log).length ≤ 2 ^ 40 := by
          have := bd.lg x.log
          have : i * i ≤ 2 ^ 14 * 2 ^ 14 := Nat.mul_le_mul (by omega) (by omega)
          omega
        simp only [wpA_skip, wpA_region, wpA_seq, wpA_cond, wpA_block, condI_true, condI_false, seqQ_normal, goI_out, goI_ops, opsA_nil, opsA_cons, stepA_assign, stepA_load, stepA_binOp, stepA_unOp, stepA_fieldAddr, stepA_call, thenV_some, eval_tmp, eval_const, put_some, put_none, aBin_eql, aUn_not, absV_int, aField_eq, fieldGo_ptr, aLoad_eq, loadGo_row, aPlace_ptr, Nat.reduceEqDiff, List.map_cons, List.map_nil, Nat.add_zero, if_true, if_false, Bool.not_true, Nat.le_refl, ft_47_0, lt_3, lt_47, lt_58, f3, gE, gS, d0, l0, tk, eln, dS, lS, c1]
        refine callI_of cal37 (pAdd x wH lb) fun r h3 ⟨er, L3, lc3, ow3, w3, hi3, k3, ho3⟩ => ?_
        subst er
        have n3 := k3.n
        have gS3 := (k3.get (h.n + 3) (by omega) (fun hh => by rcases hh with hh | ⟨k, i2, hh⟩; omega; exact hSv _ _ hh rfl)).trans gS
        simp only [wpA_region, seqQ_normal, blkQ_normal, endI_mk, andThen_normal, goI_out, goI_ops, opsA_nil, opsA_cons, stepA_move, stepA_binOp, thenV_some, eval_tmp, eval_const, put_some, put_none, aBin_add, absV_int, Nat.reduceEqDiff, if_true, if_false, f11, wi]
        exact hid_mk ⟨(i + 1, L3, lc3, T, tc, ow3), ⟨f2, f3, f9, f10, rfl, hlt, gS3, by omega, fun tg hh => by
          rcases ho3 _ _ hh with hh | hh
          · exact hSv _ _ hh rfl
          · omega, VS.cast (s := ⟨addS s.logs x, s.tasks⟩) w3 (hsn.trans (by unfold stepE; rw [if_neg nm, if_pos k1])).symm⟩, by simp only; omega⟩
      have c1 : (x.kind == 1) = false := by simpa using k1
      have hM1 : Mq h ow (h.n + 3) = False := eq_false fun hh => by rcases hh with hh | hh | ⟨tg, hh⟩; omega; omega; exact hSv _ _ hh rfl
      have hM2 : Mq h ow h1.n = False := eq_false fun hh => by rcases hh with hh | hh | ⟨tg, hh⟩; omega; omega; exact hEv _ _ hh rfl
      by_cases k5 : x.kind = 5
      · have c5 : (x.kind == 5) = true := by simpa using k5
        simp only [wpA_skip, wpA_region, wpA_seq, wpA_cond, wpA_block, wpA_draw, condI_true, condI_false, seqQ_normal, goI_out, goI_ops, opsA_nil, opsA_cons, stepA_assign, stepA_load, stepA_binOp, stepA_unOp, stepA_fieldAddr, thenV_some, eval_tmp, eval_const, put_some, put_none, aBin_eql, aUn_not, absV_int, aField_eq, fieldGo_ptr, aLoad_eq, aPlace_ptr, Nat.reduceEqDiff, Nat.add_zero, if_true, if_false, Bool.not_true, ft_47_0, lt_3, gE, d0, l0, c1, c5]
        refine SWp.drawnS (fun q => Mq h ow q) [3, 6] (.q 0 (.q 1 (.q 2 (.q 4 (.q 5 (.e 3 (.a 6 .done) .stop)))))) (by kernel_rfl) (by kernel_rfl) (by kernel_rfl) ?_
        simp only [mOk_fieldAddr, mOk_load, mOkV_ptr, nne2, nne3, nne4, nne1', nne2', nne3', not_false_eq_true, siI_stop, siI_q, siI_e, sqI_some, seI_some, implies_true, qI_nil, qI_cons, thenQ_some, q_load, q_fieldAddr, goI_mk, opsA_cons, stepA_call, eval_tmp, put_some, put_none, aField_eq, fieldGo_ptr, aLoad_eq, aPlace_ptr, List.getElem?_cons_zero, List.getElem?_cons_succ, Nat.reduceEqDiff, List.map_cons, List.map_nil, Nat.zero_add, and_true, true_and, if_true, if_false, ft_47_1, ft_47_2, lt_3, lt_58, f3, gE, gS, d1', d2', l1, l2, dS, lS, hM1, hM2]
        refine callI_of cal38 (pTask x.task wH) fun r h2 ⟨b, T2, tc2, ow2, er, hb, w2, kt, ho2⟩ => ?_
        subst er
        have kt' : Keep H h2 (fun q => Mq h ow q) := kt.mono fun q hq => .inr (.inl hq)
        have n2 := kt.n
        simp only [nne2, nne3, nne4, nne1', nne2', siI_a, saI_some, goI_ops, goI_mk, opsA_nil, opsA_cons, stepA_call, eval_tmp, put_some, put_none, List.getElem?_cons_zero, List.getElem?_cons_succ, Nat.reduceEqDiff, List.map_cons, List.map_nil, true_and, if_true, if_false, kt']
        refine callI_of cal39 (pFence (e := x.epoch) (j := jbOf s x.task) w2 hb (by unfold named; rw [if_pos rfl]; rfl)) fun r h3 ⟨er, w3, k3⟩ => ?_
        subst er
        have k23 : Keep H h3 (fun q => Mq h ow q) := kt'.trans k3 fun q hq ⟨tg, hh⟩ => by
          rcases ho2 _ _ hh with hh | hh
          · exact .inr (.inr ⟨tg, hh⟩)
          · omega
        have n3 := k3.n
        have gS3 := (k23.get (h.n + 3) (by omega) (by rw [hM1]; exact id)).trans gS
        have hT : (fun n => if n = x.task then some (fenJ (jbOf s x.task) x.epoch) else named s.tasks x.task n) = (fun n => if n = x.task then some (fenJ (jbOf s x.task) x.epoch) else s.tasks n) := by
          funext n
          split
          · rfl
          · rename_i hh; unfold named; rw [if_neg hh]
        rw [hT] at w3
        simp only [nne1', nne2', nne3', siI_done, wpA_region, seqQ_normal, blkQ_normal, endI_mk, andThen_normal, goI_out, goI_ops, goI_mk, opsA_nil, opsA_cons, stepA_move, stepA_binOp, thenV_some, eval_tmp, eval_const, put_some, put_none, aBin_add, absV_int, Nat.reduceEqDiff, if_true, if_false, f11, wi]
        exact hid_mk ⟨(i + 1, L, lc, T2, tc2, ow2), ⟨f2, f3, f9, f10, rfl, hlt, gS3, by omega, fun tg hh => by
            rcases ho2 _ _ hh with hh | hh
            · exact hSv _ _ hh rfl
            · omega, VS.cast (s := ⟨s.logs, fun n => if n = x.task then some (fenJ (jbOf s x.task) x.epoch) else s.tasks n⟩) w3 (hsn.trans (by unfold stepE; rw [if_neg nm, if_neg k1, if_pos k5])).symm⟩, by simp only; omega⟩
      have c5 : (x.kind == 5) = false := by simpa using k5
      by_cases k6 : x.kind = 6
      · have c2 : (x.kind == 2) = false := by rw [k6]; rfl
        have c3 : (x.kind == 3) = false := by rw [k6]; rfl
        have c4 : (x.kind == 4) = false := by rw [k6]; rfl
        simp only [wpA_skip, wpA_region, wpA_seq, wpA_cond, wpA_block, condI_false, seqQ_normal, blkQ_normal, endI_mk, andThen_normal, goI_out, goI_ops, opsA_nil, opsA_cons, stepA_move, stepA_assign, stepA_load, stepA_binOp, stepA_unOp, stepA_fieldAddr, thenV_some, eval_tmp, eval_const, put_some, put_none, aBin_add, aBin_eql, aUn_not, absV_int, aField_eq, fieldGo_ptr, aLoad_eq, aPlace_ptr, Nat.reduceEqDiff, Nat.add_zero, if_true, if_false, Bool.not_true, ft_47_0, lt_3, f11, gE, d0, l0, c1, c5, c2, c3, c4, wi]
        exact hid_mk ⟨(i + 1, L, lc, T, tc, ow), ⟨f2, f3, f9, f10, rfl, hlt, gS, by omega, hfree, wH.cast (hsn.trans (by unfold stepE; rw [if_neg nm, if_neg k1, if_neg k5, if_pos k6])).symm⟩, by simp only; omega⟩
      have j0 := jbOf_bd bd x.task
      have hst : ∀ {h2 : AHeap} {T2 : PM} {tc2 : Nat} {ow2 : Ow} {b : Nat}, VS (h.push (.cells [.mnil, .mnil] 58 none)) h2 (h.n + 1) (h.n + 2) s.logs (named s.tasks x.task) L lc T2 tc2 ow2 → kget T2 x.task = some b →
          SCalls Tryd.prog 40 [.agg [.map (h.n + 1), .map (h.n + 2)], .ptr b 0, .agg (entE x), .int .i64 (i : Nat)] h2 (fun r h' => r = .tuple [] ∧ ∃ L' lc' ow', VS (h.push (.cells [.mnil, .mnil] 58 none)) h' (h.n + 1) (h.n + 2) (stepE s x i).logs (stepE s x i).tasks L' lc' T2 tc2 ow' ∧ Keep h2 h' (fun q => q = h.n + 1 ∨ ∃ tg, ow2 q = some tg) ∧ (∀ q tg, ow' q = some tg → ow2 q = some tg ∨ h2.n ≤ q)) := fun {h2 T2 tc2 ow2 b} w2 hb => by
        have hj : named s.tasks x.task x.task = some (jbOf s x.task) := by unfold named; rw [if_pos rfl]; rfl
        have hT : (fun n => if n = x.task then some (stepB (jbOf s x.task) x i) else named s.tasks x.task n) = (fun n => if n = x.task then some (stepB (jbOf s x.task) x i) else s.tasks n) := by
          funext n
          split
          · rfl
          · rename_i hh; unfold named; rw [if_neg hh]
        have eS : stepE s x i = ⟨stepL s.logs (jbOf s x.task) x, fun n => if n = x.task then some (stepB (jbOf s x.task) x i) else s.tasks n⟩ := by unfold stepE; rw [if_neg nm, if_neg k1, if_neg k5, if_neg k6]
        rw [eS, ← hT]
        by_cases hc : x.kind = 3 → x.epoch ≠ (jbOf s x.task).ep ∨ x.txn ≠ (jbOf s x.task).tx
        · exact pStep x i w2 hb hj (by omega) (by omega) (by omega) hc
        · have h3 : x.kind = 3 := Classical.byContradiction fun hh => hc fun h => absurd h hh
          have h4 : ¬ (x.epoch ≠ (jbOf s x.task).ep ∨ x.txn ≠ (jbOf s x.task).tx) := fun hh => hc fun _ => hh
          have lgs : ∀ n, (s.logs n).length ≤ 2 ^ 30 := fun n => by
            have := bd.lg n
            have : i * i ≤ 2 ^ 14 * 2 ^ 14 := Nat.mul_le_mul (by omega) (by omega)
            omega
          exact pCommit x i w2 hb hj (by omega) lgs (by omega) h3 (((may_iff x).1 hm).2.2.2.2.2.2.1) (by have := ((may_iff x).1 hm).2.2.2.2.2.2.2.2.1; omega) (by omega) (by omega) (by omega)
      have hcase : x.kind = 2 ∨ x.kind = 3 ∨ x.kind = 4 := by omega
      rcases hcase with k2 | k2 | k2
      all_goals
        simp only [wpA_skip, wpA_region, wpA_seq, wpA_cond, wpA_block, wpA_draw, condI_true, condI_false, seqQ_normal, goI_out, goI_ops, opsA_nil, opsA_cons, stepA_assign, stepA_load, stepA_binOp, stepA_unOp, stepA_fieldAddr, thenV_some, eval_tmp, eval_const, put_some, put_none, aBin_eql, aUn_not, absV_int, aField_eq, fieldGo_ptr, aLoad_eq, aPlace_ptr, Int.reduceBEq, beq_self_eq_true, Nat.reduceEqDiff, Nat.add_zero, if_true, if_false, Bool.not_true, ft_47_0, lt_3, gE, d0, l0, k2]
        refine SWp.drawnS (fun q => Mq h ow q) [4, 7] (.q 0 (.q 1 (.q 2 (.q 3 (.q 5 (.q 6 (.e 4 (.a 7 .done) .stop))))))) (by kernel_rfl) (by kernel_rfl) (by kernel_rfl) ?_
        simp only [mOk_move, mOk_fieldAddr, mOk_load, mOkV_ptr, nne2, nne3, nne4, nne1', nne2', nne3', not_false_eq_true, siI_stop, siI_q, siI_e, sqI_some, seI_some, implies_true, qI_nil, qI_cons, thenQ_some, q_move, q_load, q_fieldAddr, goI_mk, opsA_cons, stepA_call, eval_tmp, put_some, put_none, aField_eq, fieldGo_ptr, aLoad_eq, loadGo_row, aPlace_ptr, List.getElem?_cons_zero, List.getElem?_cons_succ, Nat.reduceEqDiff, List.map_cons, List.map_nil, Nat.zero_add, and_true, true_and, if_true, if_false, Nat.le_refl, ft_47_1, lt_3, lt_47, lt_58, f3, gE, gS, d0, d1', l1, tk, eln, dS, lS, hM1, hM2]
        refine callI_of cal38 (pTask x.task wH) fun r h2 ⟨b, T2, tc2, ow2, er, hb, w2, kt, ho2⟩ => ?_
        subst er
        have kt' : Keep H h2 (fun q => Mq h ow q) := kt.mono fun q hq => .inr (.inl hq)
        have n2 := kt.n
        simp only [nne2, nne3, nne4, nne1', nne2', nne3', siI_a, saI_some, goI_ops, goI_mk, opsA_nil, opsA_cons, stepA_call, eval_tmp, put_some, put_none, List.getElem?_cons_zero, List.getElem?_cons_succ, Nat.reduceEqDiff, List.map_cons, List.map_nil, true_and, if_true, if_false, kt']
        refine callI_of cal40 (hst w2 hb) fun r h3 ⟨er, L3, lc3, ow3, w3, k3, ho3⟩ => ?_
        subst er
        have k23 : Keep H h3 (fun q => Mq h ow q) := kt'.trans k3 fun q hq hh => by
          rcases hh with hh | ⟨tg, hh⟩
          · exact .inl hh
          · rcases ho2 _ _ hh with hh | hh
            · exact .inr (.inr ⟨tg, hh⟩)
            · omega
        have n3 := k3.n
        have gS3 := (k23.get (h.n + 3) (by omega) (by rw [hM1]; exact id)).trans gS
        simp only [nne2, nne3, nne4, nne1', nne2', nne3', siI_done, wpA_region, seqQ_normal, blkQ_normal, endI_mk, andThen_normal, goI_out, goI_ops, goI_mk, opsA_nil, opsA_cons, stepA_move, stepA_binOp, thenV_some, eval_tmp, eval_const, put_some, put_none, aBin_add, absV_int, Nat.reduceEqDiff, if_true, if_false, f11, wi]
        exact hid_mk ⟨(i + 1, L3, lc3, T2, tc2, ow3), ⟨f2, f3, f9, f10, rfl, hlt, gS3, by omega, fun tg hh => by
            rcases ho3 _ _ hh with hh | hh
            · rcases ho2 _ _ hh with hh | hh
              · exact hSv _ _ hh rfl
              · omega
            · omega, w3.cast hsn.symm⟩, by simp only; omega⟩
  · obtain rfl : i = l.length := by omega
    have d1 : decide (((l.length : Nat) : Int) < ((l.length : Nat) : Int)) = false := decide_eq_false (by omega)
    rw [List.take_length] at w
    have dS : dropC (AObj.cells [V.map (h.n + 1), .map (h.n + 2)] 58 none) 0 = some [.map (h.n + 1), .map (h.n + 2)] := rfl
    have lS : loadGo (some (some 2)) (some [V.map (h.n + 1), .map (h.n + 2)]) = some (.agg [.map (h.n + 1), .map (h.n + 2)]) := rfl
    have g0 : h1.get h.n = .cells [.mnil, .mnil] 58 none := (hkeep.get h.n (by rw [push_n]; omega) (by simp [none_])).trans get_push_new
    have hc2 : (V.agg [V.map (h.n + 1), .map (h.n + 2)]).cells = some [V.map (h.n + 1), .map (h.n + 2)] := rfl
    have st2 : setC (some 2) (AObj.cells [V.mnil, .mnil] 58 none) 0 [V.map (h.n + 1), .map (h.n + 2)] = some (.cells [V.map (h.n + 1), .map (h.n + 2)] 58 none) := rfl
    simp only [wpA_region, wpA_seq, wpA_cond, wpA_exit, wpA_ret, condI_false, seqQ_normal, seqQ_exit, blkQ_exit, endI_mk, goE, andThen_exit, goI_out, goI_ops, opsA_nil, opsA_cons, stepA_load, stepA_store, stepA_binOp, thenV_some, thenS_some, eval_tmp, put_some, put_none, aBin_lss, aLoad_eq, aPlace_ptr, aStore_eq, storeGo_ptr, get_set_same, Nat.reduceEqDiff, Option.map_some, if_true, if_false, lt_58, zt_58, f2, f3, f10, f11, d1, gs, g0, dS, lS, hc2, st2, retA_ret, Tryd.results21, resultsC_1, resultA_cell]
    have kS : Keep h1 (h1.set h.n (.cells [V.map (h.n + 1), .map (h.n + 2)] 58 none)) (· = h.n) := Keep.set _ _ _
    have w2 := w.onOwn (h0' := h) kS (fun q hh tg he => by have := (w.old _ _ he).1; rw [push_n] at this; omega) ((((Keep.push _ _ _).trans' hkeep).up).trans kS fun q hq hh => by omega) (by rw [push_n]; omega)
    obtain ⟨h2, c2, v2⟩ := w2.freeze
    exact hid_mk ⟨_, h2, c2 _, _, _, _, _, _, _, rfl, v2⟩
end Go.Proofs.YtcdpepdjeneelaaDoor.Pk
