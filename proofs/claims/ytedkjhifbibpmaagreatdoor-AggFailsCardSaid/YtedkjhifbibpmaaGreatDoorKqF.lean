/-
  What functions of the program do, told of abstract states. Conditions: as each theorem says.
-/
import Derived.Test.YtedkjhifbibpmaaGreatDoorKqE
import Derived.Test.YtedkjhifbibpmaaGreatDoorAbD
import Derived.Test.YtedkjhifbibpmaaGreatDoorAbD
namespace Go.Proofs.YtedkjhifbibpmaaGreatDoor.Pk
open Go Go.Proofs Go.Proofs.YtedkjhifbibpmaaGreatDoor.Ab
set_option linter.unusedVariables false
set_option linter.unusedSimpArgs false
set_option maxRecDepth 10000
/-! ### A sum that errs at a value of 0 -/
def quoE : Ex := .mk 9 0 [.mk 1 100 [], .mk 3 0 []]
def failE : Ex := .mk 6 0 [.mk 5 0 [], quoE]
theorem fail_may : mayX failE = true := by decide
theorem fail_ok : OkE failE := .mk _ _ _ (by decide) (fun k hk => by
  simp only [List.mem_cons, List.not_mem_nil, or_false] at hk
  rcases hk with rfl | rfl
  · exact .mk _ _ _ (by decide) (by simp) (by decide) (by decide)
  · exact .mk _ _ _ (by decide) (fun k hk => by
      simp only [List.mem_cons, List.not_mem_nil, or_false] at hk
      rcases hk with rfl | rfl <;> exact .mk _ _ _ (by decide) (by simp) (by decide) (by decide)) (by decide) (by decide)) (by decide) (by decide)
theorem fail_val (rk rt acc : Int) : valF rk 0 rt acc 16 failE = none := by
  simp [failE, quoE, valF, combX]
theorem fail_errs (K : KK) (l : List Chg) (r : Rec) (h0 : r.v = 0) : ∃ c, apR K failE l r = errA c ∧ c ≠ 0 ∧ apL K failE l r = l := by
  cases ht : mayTa r.t with
  | false =>
    have e0 : apK K failE l r = .error 2 := by unfold apK; rw [if_pos ht]
    exact ⟨2, by unfold apR; rw [e0], by decide, by unfold apL; rw [e0]⟩
  | true =>
    have e0 : apK K failE l r = .error 10 := by unfold apK; rw [if_neg (by rw [ht]; decide), h0, fail_val]
    exact ⟨10, by unfold apR; rw [e0], by decide, by unfold apL; rw [e0]⟩
theorem rec_neqS (a : Rec) {xo yo : Operand} : aBin Tryz.prog .neq 38 xo yo (.agg [.int .i64 a.k, .int .i64 a.v, .int .i64 a.t]) (.agg [.int .i64 a.k, .int .i64 a.v, .int .i64 a.t]) = some (.bool false) := by
  have h : eqK [0, 0, 0] (recE a) (recE a) = some true := by
    simp only [recE, eqK, if_true, Option.map_some, Option.some.injEq]
    simp
  have h2 : aBin Tryz.prog .neq 38 xo yo (.agg (recE a)) (.agg (recE a)) = some (.bool false) := by rw [aBin_sk_neq sk_38 h]; rfl
  exact h2
theorem lit2i (h : AHeap) : aBuildSlice Tryz.prog 25 2 [(0, .agg [.int .i64 1, .int .i64 100, .snil]), (1, .agg [.int .i64 3, .int .i64 0, .snil])] h = some (.sl h.n 0 2 2, h.push (.cells [.int .i64 1, .int .i64 100, .snil, .int .i64 3, .int .i64 0, .snil] 27 none)) := by
  rw [buildSlice_go sl_25]; rfl
theorem lit2o (h : AHeap) (j : Nat) : aBuildSlice Tryz.prog 25 2 [(0, .agg [.int .i64 5, .int .i64 0, .snil]), (1, .agg [.int .i64 9, .int .i64 0, .sl j 0 2 2])] h = some (.sl h.n 0 2 2, h.push (.cells [.int .i64 5, .int .i64 0, .snil, .int .i64 9, .int .i64 0, .sl j 0 2 2] 27 none)) := by
  rw [buildSlice_go sl_25]; rfl
/-- The vertex in its block, told as the vertex that it is. -/
theorem failCast {h : AHeap} {q j j2 : Nat} {kd N : Int} (hq : q < h.n) (gq : h.get q = .cells [.int .i64 kd, .imm 0 [], .int .i64 6, .int .i64 0, .sl j2 0 2 2, .int .i64 N] 29 none)
    (gj : Own h 27 3 (.sl j 0 2 2) [.int .i64 1, .int .i64 100, .snil, .int .i64 3, .int .i64 0, .snil]) (gj2 : Own h 27 3 (.sl j2 0 2 2) [.int .i64 5, .int .i64 0, .snil, .int .i64 9, .int .i64 0, .sl j 0 2 2])
    (n1 : q ≠ j) (n2 : q ≠ j2) (n3 : j ≠ j2) : ∃ h2, CastA (.agg [.int .i64 kd, .imm 0 [], .int .i64 6, .int .i64 0, .sl j2 0 2 2, .int .i64 N]) h (.agg (encX ⟨kd, [], failE, N⟩)) h2 ∧ h2.get q = .cells (encX ⟨kd, [], failE, N⟩) 29 none ∧ Keep h h2 (fun z => z = q ∨ z = j ∨ z = j2) := by
  have eQ : encE quoE = [.int .i64 9, .int .i64 0, .imm 2 (encE (.mk 1 100 []) ++ encE (.mk 3 0 []))] := by simp [quoE, encE_eq]
  have eF : encE failE = [.int .i64 6, .int .i64 0, .imm 2 (encE (.mk 5 0 []) ++ encE quoE)] := by simp [failE, encE_eq]
  have e0 : ∀ o n : Int, encE (.mk o n []) = [.int .i64 o, .int .i64 n, .imm 0 []] := fun o n => by simp [encE_eq]
  obtain ⟨h1, c1, k1⟩ := CastLA.row (es := encE (.mk 1 100 []) ++ encE (.mk 3 0 [])) gj (by
    rw [e0, e0]
    exact CastLA.skip (CastLA.skip (CastLA.cons (CastA.snil0 h) (CastLA.skip (CastLA.skip (CastLA.last (CastA.snil0 h))))))) (Keep.refl h none_) (by simp [none_]) (by rw [e0, e0]; rfl)
  have cl2 : CastLA [.int .i64 5, .int .i64 0, .snil, .int .i64 9, .int .i64 0, .sl j 0 2 2] h (encE (.mk 5 0 []) ++ encE quoE) h1 := by
    rw [e0, eQ]
    exact CastLA.skip (CastLA.skip (CastLA.cons (CastA.snil0 h) (CastLA.skip (CastLA.skip (CastLA.last c1)))))
  obtain ⟨h2, c2, k2⟩ := CastLA.row (es := encE (.mk 5 0 []) ++ encE quoE) gj2 cl2 k1 (by omega) (by rw [e0, eQ]; rfl)
  have gq1 := (k1.get q hq n1).trans gq
  have gq2 := (k2.get q (Nat.lt_of_lt_of_le hq k1.n) n2).trans gq1
  have clX : CastLA [.int .i64 kd, .imm 0 [], .int .i64 6, .int .i64 0, .sl j2 0 2 2, .int .i64 N] h (encX ⟨kd, [], failE, N⟩) h2 := by
    have : encX ⟨kd, [], failE, N⟩ = [.int .i64 kd, .imm 0 [], .int .i64 6, .int .i64 0, .imm 2 (encE (.mk 5 0 []) ++ encE quoE), .int .i64 N] := by simp [encX, eF, i64V]
    rw [this]
    exact CastLA.skip (CastLA.skip (CastLA.skip (CastLA.skip (CastLA.cons c2 (CastLA.refl _ _)))))
  refine ⟨_, (CastLA.cell gq clX gq2 (by rw [encX_len]; rfl)).agg, get_set_same, ?_⟩
  exact ((k1.mono fun z hz => .inr (.inl hz)).trans (k2.mono fun z hz => .inr (.inr hz)) fun _ _ hz => hz).trans ((Keep.set h2 q _).mono fun z hz => .inl hz) fun _ _ hz => hz
set_option maxHeartbeats 4000000 in
theorem aggFails (kd n : Nat) (rs bs : List Rec) (hk : kd < 256) (hn : n < 256) (hr : rs.length < 2 ^ 47) (hb : bs.length < 2 ^ 47) (h : AHeap) (hg : KG h) :
    SCalls Tryz.prog 5 [.int .u8 (kd : Nat), .int .u8 (n : Nat), .imm rs.length (rs.flatMap recE), .imm bs.length (bs.flatMap recE)] h (fun r h' => r = .bool true) := by
  refine SCalls.enterI (c := _) Tryz.func5 rfl (by kernel_rfl) (by simp) ?_
  simp only [wpA_region, wpA_seq, seqQ_normal, goI_out, goI_ops, opsA_nil, opsA_cons, stepA_assign, stepA_call, eval_const, absV_bool, List.map_nil]
  refine callI_pure cal15 (pShownK h hg) ?_
  simp only [wpA_region, wpA_seq, seqQ_normal, goI_out, goI_ops, opsA_nil, opsA_cons, stepA_move, stepA_assign, stepA_call, eval_tmp, put_some, enterF_zero, enterF_succ, Nat.reduceEqDiff, reduceCtorEq, List.map_cons, List.map_nil, if_true, if_false]
  refine callI_pure cal16 (pUsual kd n hk hn h) ?_
  have hkO := kOf_usual kd n hn
  obtain ⟨N, hN⟩ : ∃ N, N = 1 + (n : Int) := ⟨_, rfl⟩
  rw [← hN] at hkO ⊢
  obtain ⟨K, hK⟩ : ∃ K, K = kU kd N := ⟨_, rfl⟩
  rw [← hK] at hkO
  obtain ⟨D, hD⟩ : ∃ D, D = kindN kd := ⟨_, rfl⟩
  rw [← hD] at hkO ⊢
  have eS : encX ⟨D, [], sumE, N⟩ = [.int .i64 D, .imm 0 [], .int .i64 6, .int .i64 0, .imm 2 (encE (.mk 5 0 []) ++ encE (.mk 3 0 [])), .int .i64 N] := by simp [encX, sumE, encE_eq, i64V]
  rw [eS]
  generalize (encE (.mk 5 0 []) ++ encE (.mk 3 0 [])) = zz
  simp only [wpA_region, wpA_seq, seqQ_normal, goI_out, goI_ops, opsA_nil, opsA_cons, stepA_alloc, stepA_build, stepA_buildSlice, stepA_load, stepA_store, stepA_fieldAddr, stepA_call, thenV_some, thenH_some, thenS_some, eval_tmp, eval_const, put_some, put_none, enterF_succ, absV_int, cells_int, cells_sl, cells_agg, one_int, one_sl, one_imm, all_nil, all_cons, aField_eq, fieldGo_ptr, aLoad_eq, loadGo_row, aPlace_ptr, dropC_cells, aStore_eq, storeGo_ptr, setC_row, setAll_nil, setAll_cons, aAlloc_eq, aBuild_go, aFill_nil, aFill_cons, fillGo_some, buildGo_struct, push_n, get_push_new, set_push, get_push3a, set_push3a, List.getElem?_cons_zero, List.getElem?_cons_succ, Nat.reduceEqDiff, Nat.reduceAdd, Nat.reduceLeDiff, List.map_cons, List.map_nil, Option.map_some, Nat.zero_add, Nat.zero_le, List.length_cons, List.length_nil, List.drop_zero, List.take_succ_cons, List.take_nil, List.set_cons_zero, List.set_cons_succ, and_self, if_true, if_false, Bool.and_self, Nat.le_refl, ft_29_2, lt_29, pl_27, zc_27, zc_29, zt_27, zt_29, lit2i, lit2o]
  obtain ⟨H, hH⟩ : ∃ y, y = ((h.push (.cells [.int .i64 D, .imm 0 [], .int .i64 6, .int .i64 0, .sl (h.n + 1 + 1) 0 2 2, .int .i64 N] 29 none)).push (.cells [.int .i64 1, .int .i64 100, .snil, .int .i64 3, .int .i64 0, .snil] 27 none)).push (.cells [.int .i64 5, .int .i64 0, .snil, .int .i64 9, .int .i64 0, .sl (h.n + 1) 0 2 2] 27 none) := ⟨_, rfl⟩
  have k0 : Keep h H none_ := by rw [hH]; exact ((Keep.push _ _ _).then_push _).then_push _
  have g0 : H.get h.n = .cells [.int .i64 D, .imm 0 [], .int .i64 6, .int .i64 0, .sl (h.n + 1 + 1) 0 2 2, .int .i64 N] 29 none := by rw [hH]; exact get_push3a
  have g1 : H.get (h.n + 1) = .cells [.int .i64 1, .int .i64 100, .snil, .int .i64 3, .int .i64 0, .snil] 27 none := by rw [hH]; exact get_push3b
  have g2 : H.get (h.n + 1 + 1) = .cells [.int .i64 5, .int .i64 0, .snil, .int .i64 9, .int .i64 0, .sl (h.n + 1) 0 2 2] 27 none := by rw [hH]; exact get_push3c
  have n0 : H.n = h.n + 3 := by rw [hH]; rfl
  rw [← hH]
  clear hH
  have oOf : ∀ (j : Nat) (c : List V), j < H.n → H.get j = .cells c 27 none → c.length = 6 → Own H 27 3 (.sl j 0 2 2) c := fun j c hj hg hl => .inr ⟨j, 2, 2, c, none, rfl, hj, hg, hl, by rw [List.take_of_length_le (by omega)], .inl ⟨by decide, by omega, Nat.le_refl _⟩⟩
  obtain ⟨H2, cA, gA, kA⟩ := failCast (by omega) g0 (oOf _ _ (by omega) g1 rfl) (oOf _ _ (by omega) g2 rfl) (by omega) (by omega) (by omega)
  have k02 : Keep h H2 none_ := k0.trans kA fun q hq hh => by omega
  obtain ⟨X, hX⟩ : ∃ X, X = encX ⟨D, [], failE, N⟩ := ⟨_, rfl⟩
  rw [← hX] at cA gA
  have ldX : (if 6 ≤ X.length then some (V.agg (List.take 6 X)) else none) = some (.agg X) := by rw [hX]; rfl
  have dX : dropC (.cells X 29 none) 0 = some X := rfl
  have hnew : ∀ H', KG H' → SCalls Tryz.prog 17 [.agg X] H' (fun r h' => ∃ a O, r = .tuple [.ptr a 0, .int .i64 0] ∧ Keep H' h' none_ ∧ (∀ q ∈ O, H'.n ≤ q) ∧ IsA h' a O K failE N []) := fun H' hg' => by
    rw [hX]
    exact agNewK ⟨D, [], failE, N⟩ hkO fail_may fail_ok H' hg'
  refine callI_of cal17 (SCalls.args (CastL.cons cA.cast (CastL.refl _ _)) (hnew H2 (hg.keep k02))) fun r h1 ⟨a, O, e1, k1, hO, s1⟩ => ?_
  subst e1
  have gb := (k1.get h.n (by have := kA.n; omega) (by simp [none_])).trans gA
  simp only [wpA_region, wpA_seq, seqQ_normal, goI_out, goI_ops, opsA_nil, opsA_cons, stepA_move, stepA_assign, stepA_load, stepA_extract, stepA_call, thenV_some, extV_zero, extV_succ, eval_tmp, put_some, put_none, enterF_succ, aLoad_eq, loadGo_row, aPlace_ptr, Nat.reduceEqDiff, List.map_cons, List.map_nil, if_true, if_false, lt_29, gb, dX, ldX]
  refine callI_of cal17 (hnew h1 ((hg.keep k02).keep k1)) fun r h2 ⟨b, O2, e2, k2, hO2, s2⟩ => ?_
  subst e2
  have hg2 := ((hg.keep k02).keep k1).keep k2
  have s1' := s1.keepN k2
  have d12 : Dis O O2 := fun q hq hh => by have := s1.lt q hq; have := hO2 q hh; omega
  simp only [wpA_skip, wpA_region, wpA_seq, wpA_cond, wpA_block, wpA_loop, condI_false, seqQ_normal, goI_out, goI_ops, opsA_nil, opsA_cons, opsA_guardS, gvI_same, slotAt_zero, slotAt_succ, stepA_move, stepA_assign, stepA_pick, stepA_binOp, stepA_extract, thenV_some, pickV_false, extV_zero, extV_succ, eval_tmp, eval_const, put_some, put_none, enterF_succ, aBin_neq, ptr_nil_eql, absV_int, absV_bool, absV_pnil, bne_self_eq_false, Nat.reduceEqDiff, if_true, if_false, kt_31]
  refine SWp.loopG (α := Nat × List Nat × List Nat × List Chg) (fun x f h' => f 2 = .imm rs.length (rs.flatMap recE) ∧ f 3 = .imm bs.length (bs.flatMap recE) ∧ f 9 = .bool true ∧ f 11 = .ptr a 0 ∧ f 13 = .ptr b 0 ∧ f 15 = .int .i64 (x.1 : Nat) ∧ x.1 ≤ 100 ∧
      IsA h' a x.2.1 K failE N x.2.2.2 ∧ IsA h' b x.2.2.1 K failE N x.2.2.2 ∧ Dis x.2.1 x.2.2.1 ∧ KG h') (fun x => 100 - x.1) (0, O, O2, [])
    ⟨rfl, rfl, rfl, rfl, rfl, rfl, Nat.zero_le _, s1', s2, d12, hg2⟩ ?_
  rintro ⟨t, P1, P2, l⟩ f h' ⟨f2, f3, f9, f11, f13, f15, ht, sa, sb, dd, hgh⟩
  simp only at f15 ht sa sb dd
  refine wpI_sound (by kernel_rfl) ?_
  by_cases hlt : t < rs.length ∧ t < 100
  · have d1 : decide ((t : Int) < ((rs.length : Nat) : Int)) = true := decide_eq_true (by omega)
    have d2 : decide ((t : Int) < 100) = true := decide_eq_true (by omega)
    have hw := inc64 hlt.2 (by omega)
    obtain ⟨rr, x1⟩ := rec_ixA (kk := .i64) hlt.1
    generalize rs[t] = d at x1
    obtain ⟨rk, rv, rt⟩ := d
    simp only [recE, List.cons_append, List.nil_append] at x1
    have hst : ∀ a b c : Int, setC (some 3) (AObj.cells [V.int .i64 0, .int .i64 0, .int .i64 0] 38 none) 0 [V.int .i64 a, .int .i64 b, .int .i64 c] = some (.cells [V.int .i64 a, .int .i64 b, .int .i64 c] 38 none) := fun _ _ _ => rfl
    have hcells : ∀ a b c : Int, (V.agg [V.int .i64 a, .int .i64 b, .int .i64 c]).cells = some [V.int .i64 a, .int .i64 b, .int .i64 c] := fun _ _ _ => rfl
    by_cases hbt : t < bs.length
    · have d3 : decide ((t : Int) < ((bs.length : Nat) : Int)) = true := decide_eq_true (by omega)
      obtain ⟨rr2, x2⟩ := rec_ixA (kk := .i64) hbt
      generalize bs[t] = bd at x2
      obtain ⟨bk, bv, bt⟩ := bd
      simp only [recE, List.cons_append, List.nil_append] at x2
      simp only [wpA_skip, wpA_region, wpA_seq, wpA_cond, wpA_block, condI_true, seqQ_normal, goI_out, goI_ops, opsA_nil, opsA_cons, opsA_guardS, gvI_same, slotAt_zero, slotAt_succ, stepA_move, stepA_pick, stepA_alloc, stepA_load, stepA_store, stepA_binOp, stepA_fieldAddr, stepA_indexAddr, stepA_len, stepA_call, thenV_some, thenH_some, thenS_some, pickV_true, eval_tmp, eval_const, put_some, put_none, aBin_lss, absV_int, absV_bool, cells_int, one_int, all_nil, all_cons, aField_eq, fieldGo_ptr, aLoad_eq, loadGo_row, aPlace_ptr, aPlace_at, dropC_cells, aStore_eq, storeGo_ptr, setC_row, setAll_nil, setAll_cons, aAlloc_eq, aLen_imm, get_push_new, set_push, Nat.reduceEqDiff, Nat.reduceAdd, Nat.reduceLeDiff, List.map_cons, List.map_nil, Option.map_some, Nat.zero_add, Nat.zero_le, List.length_cons, List.length_nil, List.drop_zero, List.take_succ_cons, List.take_zero, List.take_nil, List.set_cons_zero, List.set_cons_succ, if_true, if_false, Bool.and_self, Nat.le_refl, ft_38_1, kt_49, lt_38, zc_38, zt_2, zt_38, f2, f3, f13, f15, d1, d2, d3, x2, hst, hcells]
      have kp : Keep h' (h'.push (.cells [.int .i64 bk, .int .i64 0, .int .i64 bt] 38 none)) none_ := Keep.push _ _ _
      refine callI_of cal19 (agApplyK (sb.keepN kp) fail_may (hgh.keep kp) ⟨bk, 0, bt⟩) fun r3 h3 ⟨P3, e3, k3, nl3, s3⟩ => ?_
      obtain ⟨c3, eE, hc3, eL⟩ := fail_errs K l ⟨bk, 0, bt⟩ rfl
      rw [eE] at e3
      unfold errA at e3
      subst e3
      rw [eL] at s3
      have sa3 := (sa.keepN kp).side k3 dd.symm
      have dd3 := (Dis.step (sa.keepN kp) nl3 dd.symm).symm
      have hg3 := (hgh.keep kp).keep k3
      have z3 : (c3 == 0) = false := by simp [hc3]
      have k3p : Keep h3 (h3.push (.cells [.int .i64 0, .int .i64 0, .int .i64 0] 38 none)) none_ := Keep.push _ _ _
      have sa4 := sa3.keepN k3p
      have sb4 := s3.keepN k3p
      have hg4 := hg3.keep k3p
      simp only [wpA_skip, wpA_region, wpA_seq, wpA_cond, condI_false, seqQ_normal, goI_out, goI_ops, opsA_nil, opsA_cons, opsA_guardS, gvI_same, slotAt_zero, slotAt_succ, stepA_move, stepA_assign, stepA_pick, stepA_alloc, stepA_load, stepA_store, stepA_binOp, stepA_indexAddr, stepA_extract, stepA_len, stepA_call, thenV_some, thenH_some, thenS_some, pickV_false, extV_zero, extV_succ, eval_tmp, eval_const, put_some, put_none, aBin_eql, aBin_neq, absV_int, absV_bool, aLoad_eq, loadGo_row, aPlace_at, aStore_eq, storeGo_ptr, aAlloc_eq, aLen_snil, get_push_new, set_push, bne_self_eq_false, Nat.reduceEqDiff, Nat.reduceLeDiff, List.map_cons, List.map_nil, Option.map_some, List.length_cons, List.take_succ_cons, List.take_zero, if_true, if_false, kt_35, lt_38, zc_38, zt_38, f2, f11, f15, x1, hst, hcells, z3]
      refine callI_of cal19 (agApplyK sa4 fail_may hg4 ⟨rk, rv, rt⟩) fun r5 h5 ⟨P5, e5, k5, nl5, s5⟩ => ?_
      obtain ⟨⟨qk, qv, qt⟩, c5, er, eR, hsrc, hez, hcst⟩ := apR_is K failE l ⟨rk, rv, rt⟩
      have sb5 := (sb4).side k5 dd3
      have dd5 := Dis.step (sb4) nl5 dd3
      have hg5 := (hg4).keep k5
      have eR5 := eR
      rw [eR] at e5
      simp only [recE] at e5
      subst e5
      obtain ⟨H6, hH6⟩ : ∃ y, y = h5.push (.cells [.int .i64 qk, .int .i64 qv, .int .i64 qt] 38 none) := ⟨_, rfl⟩
      have k6 : Keep h5 H6 none_ := by rw [hH6]; exact Keep.push _ _ _
      have g6 : H6.get h5.n = .cells [.int .i64 qk, .int .i64 qv, .int .i64 qt] 38 none := by rw [hH6]; exact get_push_new
      have n6 : H6.n = h5.n + 1 := by rw [hH6]; rfl
      simp only [wpA_region, wpA_seq, seqQ_normal, goI_out, goI_ops, opsA_nil, opsA_cons, stepA_move, stepA_assign, stepA_alloc, stepA_load, stepA_store, stepA_indexAddr, stepA_extract, stepA_call, thenV_some, thenH_some, thenS_some, extV_zero, extV_succ, eval_tmp, put_some, put_none, aLoad_eq, loadGo_row, aPlace_at, aStore_eq, storeGo_ptr, aAlloc_eq, get_push_new, set_push, Nat.reduceEqDiff, Nat.reduceLeDiff, List.map_cons, List.map_nil, Option.map_some, List.length_cons, List.take_succ_cons, List.take_zero, if_true, if_false, lt_38, zc_38, zt_38, f2, f13, f15, x1, hst, hcells]
      rw [← hH6]
      clear hH6
      refine callI_of cal19 (agApplyK (sb5.keepN k6) fail_may (hg5.keep k6) ⟨rk, rv, rt⟩) fun r7 h7 ⟨P7, e7, k7, nl7, s7⟩ => ?_
      rw [eR5] at e7
      simp only [recE] at e7
      subst e7
      have hP2n : h5.n ∉ P3 := fun hh => by have := sb5.lt _ hh; omega
      have g7 := (k7.get h5.n (by omega) hP2n).trans g6
      have s57 := (s5.keepN k6).side k7 dd5.symm
      have dd7 := (Dis.step (s5.keepN k6) nl7 dd5.symm).symm
      have hg7 := (hg5.keep k6).keep k7
      obtain ⟨H8, hH8⟩ : ∃ y, y = h7.push (.cells [.int .i64 qk, .int .i64 qv, .int .i64 qt] 38 none) := ⟨_, rfl⟩
      have k8 : Keep h7 H8 none_ := by rw [hH8]; exact Keep.push _ _ _
      have g8 : H8.get h7.n = .cells [.int .i64 qk, .int .i64 qv, .int .i64 qt] 38 none := by rw [hH8]; exact get_push_new
      have g78 := (k8.get h5.n (by have := k7.n; omega) (by simp [none_])).trans g7
      have nrec : ∀ xo yo, aBin Tryz.prog .neq 38 xo yo (.agg [.int .i64 qk, .int .i64 qv, .int .i64 qt]) (.agg [.int .i64 qk, .int .i64 qv, .int .i64 qt]) = some (.bool false) := fun xo yo => rec_neqS ⟨qk, qv, qt⟩
      have ner : (er != er) = false := by simp
      have hch : ∀ H, Pure Tryz.prog 21 [c5, c5] H (.bool true) := fun H => by
        have hal := apC_len (e := failE) sa.wf ⟨rk, rv, rt⟩
        have := pChgsEq (apC K failE l ⟨rk, rv, rt⟩) (apC K failE l ⟨rk, rv, rt⟩) H (by omega)
        simp only [decide_true] at this
        exact Pure.args (CastL.cons (hcst H) (CastL.last (hcst H))) this
      simp only [wpA_region, wpA_seq, seqQ_normal, goI_out, goI_ops, opsA_nil, opsA_cons, stepA_move, stepA_assign, stepA_alloc, stepA_load, stepA_store, stepA_extract, thenV_some, thenH_some, thenS_some, extV_zero, extV_succ, eval_tmp, put_some, put_none, aLoad_eq, aPlace_ptr, aStore_eq, storeGo_ptr, aAlloc_eq, get_push_new, set_push, Nat.reduceEqDiff, Option.map_some, if_true, if_false, lt_38, zc_38, zt_38, hst, hcells]
      rw [← hH8]
      clear hH8
      simp only [goI_ops, opsA_cons, opsA_guardS, gvI_same, slotAt_zero, slotAt_succ, stepA_move, stepA_pick, stepA_load, stepA_binOp, stepA_call, thenV_some, pickV_false, eval_tmp, eval_const, put_some, put_none, aBin_neq, absV_bool, aLoad_eq, loadGo_row, aPlace_ptr, dropC_cells, bne_self_eq_false, Nat.reduceEqDiff, Nat.reduceAdd, List.map_cons, List.map_nil, Nat.zero_add, Nat.zero_le, List.length_cons, List.length_nil, List.drop_zero, List.take_succ_cons, List.take_nil, if_true, if_false, Nat.le_refl, lt_38, g8, g78, nrec]
      refine callI_pure cal21 (hch _) ?_
      simp only [wpA_skip, wpA_region, wpA_cond, condI_false, seqQ_normal, blkQ_normal, endI_mk, andThen_normal, goI_out, goI_ops, opsA_nil, opsA_cons, opsA_guardS, gvI_same, slotAt_zero, slotAt_succ, stepA_move, stepA_assign, stepA_pick, stepA_binOp, stepA_unOp, thenV_some, pickV_false, eval_tmp, eval_const, put_some, put_none, aBin_add, aUn_not, absV_int, absV_bool, Nat.reduceEqDiff, if_true, if_false, Bool.not_true, f15, hw]
      exact hid_mk ⟨(t + 1, P5, P7, apL K failE l ⟨rk, rv, rt⟩), ⟨f2, f3, f9, f11, f13, rfl, by simp only; omega, s57.keepN k8, s7.keepN k8, dd7, hg7.keep k8⟩, by simp only; omega⟩
    · have d3 : decide ((t : Int) < ((bs.length : Nat) : Int)) = false := decide_eq_false (by omega)
      simp only [wpA_skip, wpA_region, wpA_seq, wpA_cond, wpA_block, condI_true, condI_false, seqQ_normal, goI_out, goI_ops, opsA_nil, opsA_cons, opsA_guardS, gvI_same, slotAt_zero, slotAt_succ, stepA_move, stepA_pick, stepA_load, stepA_binOp, stepA_indexAddr, stepA_len, stepA_call, thenV_some, pickV_true, eval_tmp, eval_const, put_some, aBin_lss, absV_int, absV_bool, aLoad_eq, loadGo_row, aPlace_at, aLen_imm, Nat.reduceEqDiff, Nat.reduceLeDiff, List.map_cons, List.map_nil, List.length_cons, List.take_succ_cons, List.take_zero, if_true, if_false, kt_49, lt_38, f2, f3, f11, f15, d1, d2, d3, x1]
      refine callI_of cal19 (agApplyK sa fail_may hgh ⟨rk, rv, rt⟩) fun r5 h5 ⟨P5, e5, k5, nl5, s5⟩ => ?_
      obtain ⟨⟨qk, qv, qt⟩, c5, er, eR, hsrc, hez, hcst⟩ := apR_is K failE l ⟨rk, rv, rt⟩
      have sb5 := (sb).side k5 dd
      have dd5 := Dis.step (sb) nl5 dd
      have hg5 := (hgh).keep k5
      have eR5 := eR
      rw [eR] at e5
      simp only [recE] at e5
      subst e5
      obtain ⟨H6, hH6⟩ : ∃ y, y = h5.push (.cells [.int .i64 qk, .int .i64 qv, .int .i64 qt] 38 none) := ⟨_, rfl⟩
      have k6 : Keep h5 H6 none_ := by rw [hH6]; exact Keep.push _ _ _
      have g6 : H6.get h5.n = .cells [.int .i64 qk, .int .i64 qv, .int .i64 qt] 38 none := by rw [hH6]; exact get_push_new
      have n6 : H6.n = h5.n + 1 := by rw [hH6]; rfl
      simp only [wpA_region, wpA_seq, seqQ_normal, goI_out, goI_ops, opsA_nil, opsA_cons, stepA_move, stepA_assign, stepA_alloc, stepA_load, stepA_store, stepA_indexAddr, stepA_extract, stepA_call, thenV_some, thenH_some, thenS_some, extV_zero, extV_succ, eval_tmp, put_some, put_none, aLoad_eq, loadGo_row, aPlace_at, aStore_eq, storeGo_ptr, aAlloc_eq, get_push_new, set_push, Nat.reduceEqDiff, Nat.reduceLeDiff, List.map_cons, List.map_nil, Option.map_some, List.length_cons, List.take_succ_cons, List.take_zero, if_true, if_false, lt_38, zc_38, zt_38, f2, f13, f15, x1, hst, hcells]
      rw [← hH6]
      clear hH6
      refine callI_of cal19 (agApplyK (sb5.keepN k6) fail_may (hg5.keep k6) ⟨rk, rv, rt⟩) fun r7 h7 ⟨P7, e7, k7, nl7, s7⟩ => ?_
      rw [eR5] at e7
      simp only [recE] at e7
      subst e7
      have hP2n : h5.n ∉ P2 := fun hh => by have := sb5.lt _ hh; omega
      have g7 := (k7.get h5.n (by omega) hP2n).trans g6
      have s57 := (s5.keepN k6).side k7 dd5.symm
      have dd7 := (Dis.step (s5.keepN k6) nl7 dd5.symm).symm
      have hg7 := (hg5.keep k6).keep k7
      obtain ⟨H8, hH8⟩ : ∃ y, y = h7.push (.cells [.int .i64 qk, .int .i64 qv, .int .i64 qt] 38 none) := ⟨_, rfl⟩
      have k8 : Keep h7 H8 none_ := by rw [hH8]; exact Keep.push _ _ _
      have g8 : H8.get h7.n = .cells [.int .i64 qk, .int .i64 qv, .int .i64 qt] 38 none := by rw [hH8]; exact get_push_new
      have g78 := (k8.get h5.n (by have := k7.n; omega) (by simp [none_])).trans g7
      have nrec : ∀ xo yo, aBin Tryz.prog .neq 38 xo yo (.agg [.int .i64 qk, .int .i64 qv, .int .i64 qt]) (.agg [.int .i64 qk, .int .i64 qv, .int .i64 qt]) = some (.bool false) := fun xo yo => rec_neqS ⟨qk, qv, qt⟩
      have ner : (er != er) = false := by simp
      have hch : ∀ H, Pure Tryz.prog 21 [c5, c5] H (.bool true) := fun H => by
        have hal := apC_len (e := failE) sa.wf ⟨rk, rv, rt⟩
        have := pChgsEq (apC K failE l ⟨rk, rv, rt⟩) (apC K failE l ⟨rk, rv, rt⟩) H (by omega)
        simp only [decide_true] at this
        exact Pure.args (CastL.cons (hcst H) (CastL.last (hcst H))) this
      simp only [wpA_region, wpA_seq, seqQ_normal, goI_out, goI_ops, opsA_nil, opsA_cons, stepA_move, stepA_assign, stepA_alloc, stepA_load, stepA_store, stepA_extract, thenV_some, thenH_some, thenS_some, extV_zero, extV_succ, eval_tmp, put_some, put_none, aLoad_eq, aPlace_ptr, aStore_eq, storeGo_ptr, aAlloc_eq, get_push_new, set_push, Nat.reduceEqDiff, Option.map_some, if_true, if_false, lt_38, zc_38, zt_38, hst, hcells]
      rw [← hH8]
      clear hH8
      simp only [goI_ops, opsA_cons, opsA_guardS, gvI_same, slotAt_zero, slotAt_succ, stepA_move, stepA_pick, stepA_load, stepA_binOp, stepA_call, thenV_some, pickV_false, eval_tmp, eval_const, put_some, put_none, aBin_neq, absV_bool, aLoad_eq, loadGo_row, aPlace_ptr, dropC_cells, bne_self_eq_false, Nat.reduceEqDiff, Nat.reduceAdd, List.map_cons, List.map_nil, Nat.zero_add, Nat.zero_le, List.length_cons, List.length_nil, List.drop_zero, List.take_succ_cons, List.take_nil, if_true, if_false, Nat.le_refl, lt_38, g8, g78, nrec]
      refine callI_pure cal21 (hch _) ?_
      simp only [wpA_skip, wpA_region, wpA_cond, condI_false, seqQ_normal, blkQ_normal, endI_mk, andThen_normal, goI_out, goI_ops, opsA_nil, opsA_cons, opsA_guardS, gvI_same, slotAt_zero, slotAt_succ, stepA_move, stepA_assign, stepA_pick, stepA_binOp, stepA_unOp, thenV_some, pickV_false, eval_tmp, eval_const, put_some, put_none, aBin_add, aUn_not, absV_int, absV_bool, Nat.reduceEqDiff, if_true, if_false, Bool.not_true, f15, hw]
      exact hid_mk ⟨(t + 1, P5, P7, apL K failE l ⟨rk, rv, rt⟩), ⟨f2, f3, f9, f11, f13, rfl, by simp only; omega, s57.keepN k8, s7.keepN k8, dd7, hg7.keep k8⟩, by simp only; omega⟩
  · have hend : ∀ b1 b2 : Bool, decide ((t : Int) < ((rs.length : Nat) : Int)) = b1 → decide ((t : Int) < 100) = b2 → (b1 && b2) = false := fun b1 b2 h1 h2 => by
      rw [← h1, ← h2, Bool.and_eq_false_iff]
      simp only [decide_eq_false_iff_not]
      omega
    generalize hb1 : decide ((t : Int) < ((rs.length : Nat) : Int)) = b1 at hend
    generalize hb2 : decide ((t : Int) < 100) = b2 at hend
    have hbb := hend b1 b2 rfl rfl
    have hor : b1 = false ∨ (b1 = true ∧ b2 = false) := by
      cases b1
      · exact .inl rfl
      · exact .inr ⟨rfl, by simpa using hbb⟩
    clear hend hbb
    have hpe := fun H => pChgsEq (listK K l) (listK K l) H (by have h1 : (listK K l).length = l.length := (inK_perm K _).length_eq; have := sa.wf.len; omega)
    simp only [decide_true] at hpe
    have hla := agListK sa
    have hlb := agListK sb
    unfold rowC at hla hlb
    rcases hor with rfl | ⟨rfl, rfl⟩
    all_goals
      simp only [wpA_region, wpA_seq, wpA_cond, wpA_exit, condI_false, seqQ_normal, seqQ_exit, blkQ_exit, endI_mk, goE, andThen_exit, goI_out, goI_ops, opsA_nil, opsA_cons, opsA_guardS, gvI_same, gvI_ft, slotAt_zero, slotAt_succ, stepA_move, stepA_pick, stepA_binOp, stepA_len, stepA_call, thenV_some, pickV_true, pickV_false, eval_tmp, eval_const, put_some, aBin_lss, absV_int, absV_bool, aLen_imm, Nat.reduceEqDiff, List.map_cons, List.map_nil, if_true, if_false, kt_49, f2, f9, f11, f15, hb1, hb2]
      refine callI_pure cal22 hla ?_
      simp only [goI_ops, opsA_guardS, gvI_same, slotAt_zero, slotAt_succ, stepA_move, stepA_call, eval_tmp, put_some, Nat.reduceEqDiff, List.map_cons, List.map_nil, if_true, if_false, f13]
      refine callI_pure cal22 hlb ?_
      simp only [goI_ops, opsA_guardS, gvI_same, slotAt_zero, slotAt_succ, stepA_call, eval_tmp, put_some, Nat.reduceEqDiff, List.map_cons, List.map_nil, if_true, if_false]
      refine callI_pure cal21 (hpe _) ?_
      simp only [wpA_ret, seqQ_normal, endI_mk, goI_out, goI_ops, opsA_nil, opsA_cons, stepA_assign, stepA_pick, thenV_some, pickV_true, eval_tmp, eval_const, put_some, absV_bool, Nat.reduceEqDiff, if_true, if_false, retA_ret, Tryz.results5, resultsA_1]
      exact hid_mk rfl
end Go.Proofs.YtedkjhifbibpmaaGreatDoor.Pk
