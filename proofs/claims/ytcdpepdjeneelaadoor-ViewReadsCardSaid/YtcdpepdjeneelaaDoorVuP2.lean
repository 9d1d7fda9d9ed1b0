/-
  What functions of the program do, told of abstract states. Conditions: as each theorem says.
-/
import Derived.Test.YtcdpepdjeneelaaDoorVuP1
namespace Go.Proofs.YtcdpepdjeneelaaDoor.Pk
open Go Go.Proofs Go.Proofs.YtcdpepdjeneelaaDoor.Ab Go.Proofs.Vw
set_option linter.unusedVariables false
set_option linter.unusedSimpArgs false
theorem SL.len {h : AHeap} {ow : Tg} {k : Nat} {v : V} {l : List Int} (s : SL h ow k v l) : ∀ h', aLen Tryd.prog 39 v h' = some (.int .i64 (l.length : Nat)) := fun h' => by
  have hz : (i64V l).length = l.length * 1 := by rw [i64V_length, Nat.mul_one]
  rcases s.1 with ⟨rfl | rfl, hcc⟩ | ⟨i0, len, cap, c0, ex, rfl, _, _, hlen2, _, _⟩
  · rw [hcc] at hz
    have : l.length = 0 := by simp at hz; omega
    rw [this]
    exact aLen_snil kt_39
  · rw [hcc] at hz
    have : l.length = 0 := by simp at hz; omega
    rw [this]
    exact aLen_z0 kt_39
  · rw [hz] at hlen2
    obtain rfl : len = l.length := by omega
    exact aLen_sl kt_39
set_option maxRecDepth 10000 in
theorem SL.ix {h : AHeap} {ow : Tg} {k : Nat} {v : V} {l : List Int} (s : SL h ow k v l) {j : Nat} (hj : j < l.length) : ∃ iv r, ixGo (some 1) none v (j : Int) = some (.ptr iv j) ∧ idOf v = some iv ∧ dropC (h.get iv) j = some (.int .i64 l[j] :: r) := by
  obtain ⟨i, h1, h2, ⟨r, h3⟩, _⟩ := own_elem (P := Tryd.prog) (kk := .i64) ss_39 s.1 (k := j) (by rw [i64V_length]; exact hj)
  rw [aIndexAddr_eq, ss_39] at h1
  refine ⟨i, r, h1, h2, ?_⟩
  have e : (i64V l)[j]'(by rw [i64V_length]; exact hj) = V.int .i64 l[j] := by simp [i64V]
  rw [h3, e]
set_option maxHeartbeats 8000000 in
set_option maxRecDepth 20000 in
theorem rOf (l : List Ent) (n : Int) (hl : l.length ≤ 2 ^ 14) (he : ∀ x ∈ l, eLen x) (h : AHeap) :
    Pure Tryd.prog 25 [.imm l.length (l.flatMap entE), .int .i64 n] h (.tuple [.agg (oneC n (ofL l n) (ofL l n).opn.length), .bool (l.any fun x => isT x && (x.task == n))]) := by
  refine Pure.of (Clo.tuple (CloL.cons (Clo.agg (oneC_clo _ _ _)) (CloL.cons (Clo.bool _) CloL.nil))) ?_
  refine SCalls.enterI (c := _) Tryd.func25 rfl (by kernel_rfl) (by simp) ?_
  simp only [wpA_region, wpA_seq, wpA_block, wpA_loop, seqQ_normal, goI_out, goI_ops, opsA_nil, opsA_cons, stepA_move, stepA_assign, stepA_alloc, stepA_build, stepA_store, thenV_some, thenH_some, thenS_some, eval_tmp, eval_const, put_some, enterF_zero, enterF_succ, absV_int, absV_bool, cells_int, cells_agg, one_int, one_snil, all_nil, all_cons, aStore_eq, storeGo_ptr, setC_row, setAll_nil, setAll_cons, aAlloc_eq, aBuild_go, aFill_nil, aFill_cons, fillGo_some, buildGo_struct, push_n, get_push2, set_push2, List.getElem?_cons_zero, Nat.reduceEqDiff, Nat.reduceAdd, Nat.reduceLeDiff, List.map_cons, List.map_nil, Option.map_some, Nat.zero_add, List.length_cons, List.length_nil, List.set_cons_zero, List.set_cons_succ, and_self, if_true, if_false, Bool.and_self, Nat.le_refl, pl_41, pl_64, zc_41, zc_64, zt_64]
  refine SWp.loopG (α := Nat × (V × V × V × V × V × Tg)) (fun y f h' => f 0 = .imm l.length (l.flatMap entE) ∧ f 1 = .int .i64 n ∧ f 4 = .ptr h.n 0 ∧ f 6 = .ptr (h.n + 1) 0 ∧ f 7 = .bool ((l.take y.1).any fun x => isT x && (x.task == n)) ∧ f 8 = .int .i64 (y.1 : Nat) ∧ y.1 ≤ l.length ∧
      OS (h.push (.cells [.int .i64 0, .int .i64 0, .int .i64 0, .snil, .snil, .int .i64 0, .snil, .snil, .snil] 64 none)) h' (h.n + 1) n (ofL (l.take y.1) n) y.2.1 y.2.2.1 y.2.2.2.1 y.2.2.2.2.1 y.2.2.2.2.2.1 y.2.2.2.2.2.2) (fun y => l.length - y.1)
    (0, .snil, .snil, .snil, .snil, .snil, fun q => if q = h.n + 1 then some 0 else none)
    ⟨rfl, rfl, rfl, rfl, rfl, rfl, Nat.zero_le _, Keep.push _ _ _, fun q k hq => (by
      simp only at hq
      split at hq
      · rename_i e; subst e; simp only [push_n]; omega
      · cases hq), by simp, get_push_new, .inl ⟨rfl, rfl⟩, SL.nil _ _ _, SL.nil _ _ _, SL.nil _ _ _, SL.nil _ _ _⟩ ?_
  rintro ⟨i, fv, ov, pv, dv, av, ow⟩ f h1 ⟨f0, f1, f4, f6, f7, f8, hi, w⟩
  simp only at f7 f8 hi w
  refine wpI_sound (by kernel_rfl) ?_
  by_cases hlt : i < l.length
  · have d1 : decide ((i : Int) < ((l.length : Nat) : Int)) = true := decide_eq_true (by omega)
    have wi : IntKind.i64.wrap ((i : Int) + 1) = ((i + 1 : Nat) : Int) := by rw [Go.IntWalk.i64_in _ (by omega)]; omega
    have x1 := ent_ix (l := l) (kk := .i64) hlt
    have htk : l.take (i + 1) = l.take i ++ [l[i]] := List.take_succ_eq_append_getElem hlt
    have hsn : ofL (l.take (i + 1)) n = stepO n (ofL (l.take i) n) l[i] i := by rw [htk, ofL_snoc, List.length_take, Nat.min_eq_left (by omega)]
    have hany : (l.take (i + 1)).any (fun x => isT x && (x.task == n)) = ((l.take i).any (fun x => isT x && (x.task == n)) || (isT l[i] && (l[i].task == n))) := by rw [htk, List.any_append]; simp
    have bd := obd (l.take i) n
    rw [List.length_take, Nat.min_eq_left (by omega)] at bd
    have hxl := he _ (List.getElem_mem hlt)
    generalize l[i] = x at x1 hsn hxl hany
    generalize ofL (l.take i) n = o at w hsn bd
    generalize (l.take i).any (fun x => isT x && (x.task == n)) = nm at f7 hany
    have ld := ent_ld x
    have hce : (V.agg (entE x)).cells = some (entE x) := rfl
    have st0 : setC (some 11) (AObj.cells [V.int .i64 0, .int .i64 0, .int .i64 0, .int .i64 0, .int .i64 0, .int .i64 0, .int .i64 0, .int .i64 0, .bool false, .snil, .snil] 47 none) 0 (entE x) = some (.cells (entE x) 47 none) := rfl
    obtain ⟨H, hH⟩ : ∃ y, y = h1.push (.cells (entE x) 47 none) := ⟨_, rfl⟩
    have kH : Keep h1 H none_ := by rw [hH]; exact Keep.push _ _ _
    have nH : H.n = h1.n + 1 := by rw [hH]; rfl
    have gE : H.get h1.n = .cells (entE x) 47 none := by rw [hH]; exact get_push_new
    have wH := w.on kH
    have tk : (entE x).take 11 = entE x := rfl
    have eln := entE_len x
    simp only [wpA_skip, wpA_region, wpA_seq, wpA_cond, wpA_block, condI_true, seqQ_normal, goI_out, goI_ops, opsA_nil, opsA_cons, stepA_move, stepA_alloc, stepA_load, stepA_store, stepA_binOp, stepA_indexAddr, stepA_len, stepA_call, thenV_some, thenH_some, thenS_some, eval_tmp, put_some, put_none, aBin_lss, aLoad_eq, loadGo_row, aPlace_ptr, aPlace_at, dropC_cells, aStore_eq, storeGo_ptr, aAlloc_eq, aLen_imm, get_push_new, set_push, Nat.reduceEqDiff, reduceCtorEq, List.map_cons, List.map_nil, Option.map_some, Nat.zero_le, List.drop_zero, if_true, if_false, Nat.le_refl, kt_22, lt_47, zc_47, zt_47, f0, f8, d1, x1, ld, hce, st0, tk, eln]
    rw [← hH]
    clear hH
    refine callI_pure cal46 (rMay x H hxl) ?_
    have q0 : dropC (AObj.cells (entE x) 47 none) 0 = some (entE x) := rfl
    have q1 : dropC (AObj.cells (entE x) 47 none) 1 = some ((entE x).drop 1) := rfl
    have q2 : dropC (AObj.cells (entE x) 47 none) 2 = some ((entE x).drop 2) := rfl
    have q3 : dropC (AObj.cells (entE x) 47 none) 3 = some ((entE x).drop 3) := rfl
    have q9 : dropC (AObj.cells (entE x) 47 none) 9 = some ((entE x).drop 9) := rfl
    have q10 : dropC (AObj.cells (entE x) 47 none) 10 = some ((entE x).drop 10) := rfl
    have m0 : loadGo (some none) (some (entE x)) = some (.int .i64 x.kind) := rfl
    have m1 : loadGo (some none) (some ((entE x).drop 1)) = some (.int .i64 x.task) := rfl
    have m2 : loadGo (some none) (some ((entE x).drop 2)) = some (.int .i64 x.epoch) := rfl
    have m3 : loadGo (some none) (some ((entE x).drop 3)) = some (.int .i64 x.txn) := rfl
    have m9 : loadGo (some none) (some ((entE x).drop 9)) = some (.imm x.offs.length (i64V x.offs)) := rfl
    have m10 : loadGo (some none) (some ((entE x).drop 10)) = some (.imm x.order.length (i64V x.order)) := rfl
    have gB := wH.g
    have skip : isT x = false ∨ x.task ≠ n → ofL (l.take (i + 1)) n = o ∧ (l.take (i + 1)).any (fun x => isT x && (x.task == n)) = nm := fun hh => by
      have e : (isT x && (x.task == n)) = false := by
        rcases hh with hh | hh
        · rw [hh]; rfl
        · have : (x.task == n) = false := by simpa using hh
          rw [this, Bool.and_false]
      refine ⟨by rw [hsn]; unfold stepO; rw [if_pos (fun ⟨h1, h2⟩ => by rw [h1] at e; simp [h2] at e)], by rw [hany, e, Bool.or_false]⟩
    have nxt : ∀ {b : Bool}, isT x = true → x.task = n → b = true → (l.take (i + 1)).any (fun x => isT x && (x.task == n)) = b := fun {b} h1 h2 hb => by rw [hany, h1, h2, hb]; simp
    cases hm : mayB x with
    | false =>
      obtain ⟨e1, e2⟩ := skip (.inl (by unfold isT; rw [hm]; rfl))
      simp only [wpA_region, wpA_seq, wpA_cond, wpA_exit, condI_true, seqQ_normal, seqQ_exit, blkQ_exit, endI_mk, goE, andThen_normal, andThen_exit, goI_out, goI_ops, opsA_nil, opsA_cons, opsA_guardS, gvI_tf, slotAt_zero, slotAt_succ, stepA_move, stepA_assign, stepA_pick, stepA_load, stepA_binOp, stepA_unOp, stepA_fieldAddr, stepA_len, thenV_some, pickV_true, eval_tmp, eval_const, put_some, put_none, aBin_add, aUn_not, absV_int, absV_bool, aField_eq, fieldGo_ptr, aLoad_eq, loadGo_one, aPlace_ptr, dropC_cells, Nat.reduceEqDiff, Nat.reduceAdd, Nat.reduceLeDiff, reduceCtorEq, Nat.zero_add, List.length_cons, List.length_nil, List.drop_zero, List.drop_succ_cons, if_true, if_false, Bool.not_false, ft_64_1, lt_39, f6, f8, gB, wi]
      exact hid_mk ⟨(i + 1, fv, ov, pv, dv, av, ow), ⟨f0, f1, f4, f6, by rw [e2]; exact f7, rfl, hlt, by rw [e1]; exact wH⟩, by simp only; omega⟩
    | true =>
    by_cases k1 : x.kind < 2
    · have g1 : decide (x.kind < 2) = true := decide_eq_true k1
      obtain ⟨e1, e2⟩ := skip (.inl (by unfold isT; rw [show decide (2 ≤ x.kind) = false from decide_eq_false (by omega)]; simp))
      simp only [wpA_region, wpA_seq, wpA_cond, wpA_exit, condI_true, seqQ_normal, seqQ_exit, blkQ_exit, endI_mk, goE, andThen_normal, andThen_exit, goI_out, goI_ops, opsA_nil, opsA_cons, opsA_guardS, gvI_same, gvI_tf, slotAt_zero, slotAt_succ, stepA_move, stepA_assign, stepA_pick, stepA_load, stepA_binOp, stepA_unOp, stepA_fieldAddr, stepA_len, thenV_some, pickV_true, pickV_false, eval_tmp, eval_const, put_some, put_none, aBin_add, aBin_lss, aUn_not, absV_int, absV_bool, aField_eq, fieldGo_ptr, aLoad_eq, loadGo_one, aPlace_ptr, dropC_cells, Nat.reduceEqDiff, Nat.reduceAdd, Nat.reduceLeDiff, reduceCtorEq, Nat.add_zero, Nat.zero_add, List.length_cons, List.length_nil, List.drop_zero, List.drop_succ_cons, if_true, if_false, Bool.not_true, ft_47_0, ft_64_1, lt_3, lt_39, f6, f8, gE, gB, q0, m0, g1, wi]
      exact hid_mk ⟨(i + 1, fv, ov, pv, dv, av, ow), ⟨f0, f1, f4, f6, by rw [e2]; exact f7, rfl, hlt, by rw [e1]; exact wH⟩, by simp only; omega⟩
    have g1 : decide (x.kind < 2) = false := decide_eq_false k1
    by_cases k2 : 5 < x.kind
    · have g2 : decide (5 < x.kind) = true := decide_eq_true k2
      obtain ⟨e1, e2⟩ := skip (.inl (by unfold isT; rw [show decide (x.kind ≤ 5) = false from decide_eq_false (by omega)]; simp))
      simp only [wpA_region, wpA_seq, wpA_cond, wpA_exit, condI_true, seqQ_normal, seqQ_exit, blkQ_exit, endI_mk, goE, andThen_normal, andThen_exit, goI_out, goI_ops, opsA_nil, opsA_cons, opsA_guardS, gvI_same, gvI_tf, slotAt_zero, slotAt_succ, stepA_move, stepA_assign, stepA_pick, stepA_load, stepA_binOp, stepA_unOp, stepA_fieldAddr, stepA_len, thenV_some, pickV_true, pickV_false, eval_tmp, eval_const, put_some, put_none, aBin_add, aBin_lss, aBin_gtr, aUn_not, absV_int, absV_bool, aField_eq, fieldGo_ptr, aLoad_eq, loadGo_one, aPlace_ptr, dropC_cells, Nat.reduceEqDiff, Nat.reduceAdd, Nat.reduceLeDiff, reduceCtorEq, Nat.add_zero, Nat.zero_add, List.length_cons, List.length_nil, List.drop_zero, List.drop_succ_cons, if_true, if_false, Bool.not_true, ft_47_0, ft_64_1, lt_3, lt_39, f6, f8, gE, gB, q0, m0, g1, g2, wi]
      exact hid_mk ⟨(i + 1, fv, ov, pv, dv, av, ow), ⟨f0, f1, f4, f6, by rw [e2]; exact f7, rfl, hlt, by rw [e1]; exact wH⟩, by simp only; omega⟩
    have g2 : decide (5 < x.kind) = false := decide_eq_false k2
    by_cases k3 : x.task = n
    rotate_left
    · have g3 : (x.task != n) = true := by simpa using k3
      obtain ⟨e1, e2⟩ := skip (.inr k3)
      simp only [wpA_region, wpA_seq, wpA_cond, wpA_exit, condI_true, seqQ_normal, seqQ_exit, blkQ_exit, endI_mk, goE, andThen_normal, andThen_exit, goI_out, goI_ops, opsA_nil, opsA_cons, opsA_guardS, gvI_same, slotAt_zero, slotAt_succ, stepA_move, stepA_assign, stepA_pick, stepA_load, stepA_binOp, stepA_unOp, stepA_fieldAddr, stepA_len, thenV_some, pickV_false, eval_tmp, eval_const, put_some, put_none, aBin_add, aBin_neq, aBin_lss, aBin_gtr, aUn_not, absV_int, absV_bool, aField_eq, fieldGo_ptr, aLoad_eq, loadGo_one, aPlace_ptr, dropC_cells, Nat.reduceEqDiff, Nat.reduceAdd, Nat.reduceLeDiff, reduceCtorEq, Nat.add_zero, Nat.zero_add, List.length_cons, List.length_nil, List.drop_zero, List.drop_succ_cons, if_true, if_false, Bool.not_true, ft_47_0, ft_47_1, ft_64_1, lt_3, lt_39, f1, f6, f8, gE, gB, q0, q1, m0, m1, g1, g2, g3, wi]
      exact hid_mk ⟨(i + 1, fv, ov, pv, dv, av, ow), ⟨f0, f1, f4, f6, by rw [e2]; exact f7, rfl, hlt, by rw [e1]; exact wH⟩, by simp only; omega⟩
    have g3 : (x.task != n) = false := by simpa using k3
    have hT : isT x = true := by unfold isT; rw [hm, decide_eq_true (by omega : 2 ≤ x.kind), decide_eq_true (by omega : x.kind ≤ 5)]; rfl
    have hT2 : ¬ ¬ (isT x = true ∧ x.task = n) := fun hh => hh ⟨hT, k3⟩
    have hf7 : (l.take (i + 1)).any (fun x => isT x && (x.task == n)) = true := nxt hT k3 rfl
    have one_p := wH.sp.one
    have one_d := wH.sd.one
    have one_a := wH.sa.one
    have one_o := wH.so.one
    have hold : ∀ q t, ow q = some t → q < H.n := fun q t hq => (wH.old q t hq).2
    have tb := wH.tb
    by_cases k5 : x.kind = 5
    · have g5 : (x.kind == 5) = true := by simpa using k5
      by_cases k6 : o.ep < x.epoch
      · have g6 : decide (o.ep < x.epoch) = true := decide_eq_true k6
        have hO : stepO n o x i = { o with ep := x.epoch, opn := [] } := by unfold stepO; rw [if_neg hT2, if_pos k5, if_pos k6]
        simp only [wpA_skip, wpA_region, wpA_seq, wpA_cond, wpA_exit, condI_true, condI_false, seqQ_normal, seqQ_exit, blkQ_exit, endI_mk, goE, andThen_normal, andThen_exit, goI_out, goI_ops, opsA_nil, opsA_cons, opsA_guardS, gvI_same, slotAt_zero, slotAt_succ, stepA_move, stepA_assign, stepA_pick, stepA_load, stepA_store, stepA_binOp, stepA_unOp, stepA_fieldAddr, stepA_len, thenV_some, thenS_some, pickV_false, eval_tmp, eval_const, put_some, put_none, aBin_add, aBin_eql, aBin_neq, aBin_lss, aBin_gtr, aUn_not, absV_int, absV_bool, absV_snil, cells_int, cells_snil, cells_agg, one_int, one_snil, all_nil, all_cons, aField_eq, fieldGo_ptr, aLoad_eq, loadGo_one, loadGo_row, aPlace_ptr, dropC_cells, aStore_eq, storeGo_ptr, setC_row, setAll_nil, setAll_cons, aLen_snil, get_set_same, set_set, Nat.reduceEqDiff, Nat.reduceAdd, Nat.reduceLeDiff, reduceCtorEq, Option.map_some, Nat.add_zero, Nat.zero_add, Nat.zero_le, List.length_cons, List.length_nil, List.drop_zero, List.drop_succ_cons, List.take_succ_cons, List.take_nil, List.set_cons_zero, List.set_cons_succ, if_true, if_false, Bool.and_self, Bool.not_true, Nat.le_refl, ft_41_1, ft_41_5, ft_47_0, ft_47_1, ft_47_2, ft_64_0, ft_64_1, kt_39, lt_3, lt_39, lt_64, zt_3, zt_39, zt_64, f1, f4, f6, f7, f8, gE, gB, q0, q1, q2, m0, m1, m2, g1, g2, g3, g5, g6, wi]
        refine hid_mk ⟨(i + 1, fv, ov, .snil, dv, av, ow), ⟨f0, f1, f4, f6, by rw [hf7]; rfl, rfl, hlt, ?_⟩, by simp only; omega⟩
        simp only [hsn, hO]
        exact wH.put (o' := { o with ep := x.epoch, opn := [] }) (Keep.refl H none_) (fun _ hh => hh.elim) (fun _ _ hh => hh) (fun _ _ hh => .inl hh) wH.hf wH.so (SL.nil _ _ _) wH.sd wH.sa
      · have g6 : decide (o.ep < x.epoch) = false := decide_eq_false k6
        have hO : stepO n o x i = o := by unfold stepO; rw [if_neg hT2, if_pos k5, if_neg k6]
        simp only [wpA_skip, wpA_region, wpA_seq, wpA_cond, wpA_exit, condI_true, condI_false, seqQ_normal, seqQ_exit, blkQ_exit, endI_mk, goE, andThen_normal, andThen_exit, goI_out, goI_ops, opsA_nil, opsA_cons, opsA_guardS, gvI_same, slotAt_zero, slotAt_succ, stepA_move, stepA_assign, stepA_pick, stepA_load, stepA_binOp, stepA_unOp, stepA_fieldAddr, stepA_len, thenV_some, pickV_false, eval_tmp, eval_const, put_some, put_none, aBin_add, aBin_eql, aBin_neq, aBin_lss, aBin_gtr, aUn_not, absV_int, absV_bool, aField_eq, fieldGo_ptr, aLoad_eq, loadGo_one, aPlace_ptr, dropC_cells, Nat.reduceEqDiff, Nat.reduceAdd, Nat.reduceLeDiff, reduceCtorEq, Nat.add_zero, Nat.zero_add, List.length_cons, List.length_nil, List.drop_zero, List.drop_succ_cons, if_true, if_false, Bool.not_true, ft_41_1, ft_47_0, ft_47_1, ft_47_2, ft_64_0, ft_64_1, lt_3, lt_39, f1, f6, f8, gE, gB, q0, q1, q2, m0, m1, m2, g1, g2, g3, g5, g6, wi]
        exact hid_mk ⟨(i + 1, fv, ov, pv, dv, av, ow), ⟨f0, f1, f4, f6, by rw [hf7]; rfl, rfl, hlt, by rw [hsn, hO]; exact wH⟩, by simp only; omega⟩
    have g5 : (x.kind == 5) = false := by simpa using k5
    by_cases k7 : x.epoch = o.ep
    rotate_left
    · have g7 : (x.epoch != o.ep) = true := by simpa using k7
      have hO : stepO n o x i = o := by unfold stepO; rw [if_neg hT2, if_neg k5, if_pos (.inl k7)]
      simp only [wpA_skip, wpA_region, wpA_seq, wpA_cond, wpA_exit, condI_true, condI_false, seqQ_normal, seqQ_exit, blkQ_exit, endI_mk, goE, andThen_normal, andThen_exit, goI_out, goI_ops, opsA_nil, opsA_cons, opsA_guardS, gvI_same, gvI_tf, slotAt_zero, slotAt_succ, stepA_move, stepA_assign, stepA_pick, stepA_load, stepA_binOp, stepA_unOp, stepA_fieldAddr, stepA_len, thenV_some, pickV_true, pickV_false, eval_tmp, eval_const, put_some, put_none, aBin_add, aBin_eql, aBin_neq, aBin_lss, aBin_gtr, aUn_not, absV_int, absV_bool, aField_eq, fieldGo_ptr, aLoad_eq, loadGo_one, aPlace_ptr, dropC_cells, Nat.reduceEqDiff, Nat.reduceAdd, Nat.reduceLeDiff, reduceCtorEq, Nat.add_zero, Nat.zero_add, List.length_cons, List.length_nil, List.drop_zero, List.drop_succ_cons, if_true, if_false, Bool.not_true, ft_41_1, ft_47_0, ft_47_1, ft_47_2, ft_64_0, ft_64_1, lt_3, lt_39, f1, f6, f8, gE, gB, q0, q1, q2, m0, m1, m2, g1, g2, g3, g5, g7, wi]
      exact hid_mk ⟨(i + 1, fv, ov, pv, dv, av, ow), ⟨f0, f1, f4, f6, by rw [hf7]; rfl, rfl, hlt, by rw [hsn, hO]; exact wH⟩, by simp only; omega⟩
    have g7 : (x.epoch != o.ep) = false := by simpa using k7
    by_cases k8 : x.txn = o.tx
    rotate_left
    · have g8 : (x.txn != o.tx) = true := by simpa using k8
      have hO : stepO n o x i = o := by unfold stepO; rw [if_neg hT2, if_neg k5, if_pos (.inr k8)]
      simp only [wpA_skip, wpA_region, wpA_seq, wpA_cond, wpA_exit, condI_true, condI_false, seqQ_normal, seqQ_exit, blkQ_exit, endI_mk, goE, andThen_normal, andThen_exit, goI_out, goI_ops, opsA_nil, opsA_cons, opsA_guardS, gvI_same, slotAt_zero, slotAt_succ, stepA_move, stepA_assign, stepA_pick, stepA_load, stepA_binOp, stepA_unOp, stepA_fieldAddr, stepA_len, thenV_some, pickV_false, eval_tmp, eval_const, put_some, put_none, aBin_add, aBin_eql, aBin_neq, aBin_lss, aBin_gtr, aUn_not, absV_int, absV_bool, aField_eq, fieldGo_ptr, aLoad_eq, loadGo_one, aPlace_ptr, dropC_cells, Nat.reduceEqDiff, Nat.reduceAdd, Nat.reduceLeDiff, reduceCtorEq, Nat.add_zero, Nat.zero_add, List.length_cons, List.length_nil, List.drop_zero, List.drop_succ_cons, if_true, if_false, Bool.not_true, ft_41_1, ft_41_2, ft_47_0, ft_47_1, ft_47_2, ft_47_3, ft_64_0, ft_64_1, lt_3, lt_39, f1, f6, f8, gE, gB, q0, q1, q2, q3, m0, m1, m2, m3, g1, g2, g3, g5, g7, g8, wi]
      exact hid_mk ⟨(i + 1, fv, ov, pv, dv, av, ow), ⟨f0, f1, f4, f6, by rw [hf7]; rfl, rfl, hlt, by rw [hsn, hO]; exact wH⟩, by simp only; omega⟩
    have g8 : (x.txn != o.tx) = false := by simpa using k8
    have hno : ¬ (x.epoch ≠ o.ep ∨ x.txn ≠ o.tx) := by omega
    by_cases k9 : x.kind = 2
    · have g9 : (x.kind == 2) = true := by simpa using k9
      have hO : stepO n o x i = { o with opn := o.opn ++ [(i : Int)] } := by unfold stepO; rw [if_neg hT2, if_neg k5, if_neg hno, if_pos k9]
      obtain ⟨v', h2, ow', ea, s', k2', hi', ho'⟩ := wH.sp.app hold (i : Int) (by have := bd.op; omega)
      have b2 := lit1i H (i : Int)
      have nb : ¬ isId pv (h.n + 1) := fun hh => by have := wH.sp.2 _ hh; rw [tb] at this; cases this
      have gB2 := (k2'.get (h.n + 1) (hold _ _ tb) nb).trans gB
      have st6 : setC (some 1) (AObj.cells [V.int .i64 n, .int .i64 o.ep, .int .i64 o.tx, fv, ov, .int .i64 0, pv, dv, av] 64 none) 6 [v'] = some (.cells [V.int .i64 n, .int .i64 o.ep, .int .i64 o.tx, fv, ov, .int .i64 0, v', dv, av] 64 none) := by rw [setC_one s'.one.1]; rfl
      have cv' := s'.one.2
      simp only [wpA_skip, wpA_region, wpA_seq, wpA_cond, wpA_exit, condI_true, condI_false, seqQ_normal, seqQ_exit, blkQ_exit, endI_mk, goE, andThen_normal, andThen_exit, goI_out, goI_ops, opsA_nil, opsA_cons, opsA_guardS, gvI_same, slotAt_zero, slotAt_succ, stepA_move, stepA_assign, stepA_pick, stepA_buildSlice, stepA_load, stepA_store, stepA_binOp, stepA_unOp, stepA_fieldAddr, stepA_len, stepA_append, thenV_some, thenH_some, thenS_some, pickV_false, eval_tmp, eval_const, put_some, put_none, aBin_add, aBin_eql, aBin_neq, aBin_lss, aBin_gtr, aUn_not, absV_int, absV_bool, aField_eq, fieldGo_ptr, aLoad_eq, loadGo_one, aPlace_ptr, dropC_cells, aStore_eq, storeGo_ptr, get_set_same, Nat.reduceEqDiff, Nat.reduceAdd, Nat.reduceLeDiff, reduceCtorEq, List.map_cons, List.map_nil, Option.map_some, Nat.add_zero, Nat.zero_add, List.length_cons, List.length_nil, List.drop_zero, List.drop_succ_cons, if_true, if_false, Bool.not_true, ft_41_1, ft_41_2, ft_47_0, ft_47_1, ft_47_2, ft_47_3, ft_64_0, ft_64_1, lt_3, lt_39, zt_39, f1, f6, f8, gE, gB, q0, q1, q2, q3, m0, m1, m2, m3, g1, g2, g3, g5, g7, g8, g9, b2, ea, gB2, st6, cv', wi]
      refine hid_mk ⟨(i + 1, fv, ov, v', dv, av, ow'), ⟨f0, f1, f4, f6, by rw [hf7]; rfl, rfl, hlt, ?_⟩, by simp only; omega⟩
      simp only [hsn, hO]
      have tg : ∀ j, j ≠ 2 → ∀ q, isId pv q → ow q ≠ some j := fun j hj q hq hh => by rw [wH.sp.2 q hq] at hh; injection hh with hh; exact hj hh.symm
      exact wH.put (o' := { o with opn := o.opn ++ [(i : Int)] }) k2' (fun q hh => ⟨2, wH.sp.2 q hh⟩) hi' ho' wH.hf (wH.so.on k2' (tg 1 (by decide)) hi') s' (wH.sd.on k2' (tg 3 (by decide)) hi') (wH.sa.on k2' (tg 4 (by decide)) hi')
    have g9 : (x.kind == 2) = false := by simpa using k9
    have htx : IntKind.i64.wrap (o.tx + 1) = o.tx + 1 := Go.IntWalk.i64_in _ (by have := bd.tx; omega)
    by_cases k10 : x.kind = 3
    rotate_left
    · have g10 : (x.kind == 3) = false := by simpa using k10
      have hO : stepO n o x i = { o with tx := o.tx + 1, opn := [] } := by unfold stepO; rw [if_neg hT2, if_neg k5, if_neg hno, if_neg k9, if_neg k10]
      simp only [wpA_skip, wpA_region, wpA_seq, wpA_cond, condI_false, seqQ_normal, blkQ_normal, endI_mk, andThen_normal, goI_out, goI_ops, opsA_nil, opsA_cons, opsA_guardS, gvI_same, slotAt_zero, slotAt_succ, stepA_move, stepA_assign, stepA_pick, stepA_load, stepA_store, stepA_binOp, stepA_unOp, stepA_fieldAddr, thenV_some, thenS_some, pickV_false, eval_tmp, eval_const, put_some, put_none, aBin_add, aBin_eql, aBin_neq, aBin_lss, aBin_gtr, aUn_not, absV_int, absV_bool, absV_snil, cells_int, cells_snil, one_int, one_snil, all_nil, all_cons, aField_eq, fieldGo_ptr, aLoad_eq, loadGo_one, aPlace_ptr, dropC_cells, aStore_eq, storeGo_ptr, setC_row, setAll_nil, setAll_cons, get_set_same, set_set, Nat.reduceEqDiff, Nat.reduceAdd, Nat.reduceLeDiff, Option.map_some, Nat.add_zero, Nat.zero_add, List.length_cons, List.length_nil, List.drop_zero, List.drop_succ_cons, List.set_cons_zero, List.set_cons_succ, if_true, if_false, Bool.and_self, Bool.not_true, ft_41_1, ft_41_2, ft_47_0, ft_47_1, ft_47_2, ft_47_3, ft_64_0, ft_64_1, lt_3, zt_3, zt_39, f1, f6, f8, gE, gB, q0, q1, q2, q3, m0, m1, m2, m3, g1, g2, g3, g5, g7, g8, g9, g10, htx, wi]
      refine hid_mk ⟨(i + 1, fv, ov, .snil, dv, av, ow), ⟨f0, f1, f4, f6, by rw [hf7]; rfl, rfl, hlt, ?_⟩, by simp only; omega⟩
      simp only [hsn, hO]
      exact wH.put (o' := { o with tx := o.tx + 1, opn := [] }) (Keep.refl H none_) (fun _ hh => hh.elim) (fun _ _ hh => hh) (fun _ _ hh => .inl hh) wH.hf wH.so (SL.nil _ _ _) wH.sd wH.sa
    have g10 : (x.kind == 3) = true := by simpa using k10
    -- a commit
    obtain ⟨HA, hHA⟩ : ∃ y, y = H.set (h.n + 1) (.cells [.int .i64 n, .int .i64 o.ep, .int .i64 o.tx, .imm x.offs.length (i64V x.offs), ov, .int .i64 0, pv, dv, av] 64 none) := ⟨_, rfl⟩
    have wA : OS (h.push (.cells [.int .i64 0, .int .i64 0, .int .i64 0, .snil, .snil, .int .i64 0, .snil, .snil, .snil] 64 none)) HA (h.n + 1) n { o with offs := x.offs } (.imm x.offs.length (i64V x.offs)) ov pv dv av ow := by
      rw [hHA]
      exact wH.put (o' := { o with offs := x.offs }) (Keep.refl H none_) (fun _ hh => hh.elim) (fun _ _ hh => hh) (fun _ _ hh => .inl hh) (.inr rfl) wH.so wH.sp wH.sd wH.sa
    have nA : HA.n = H.n := by rw [hHA]; rfl
    have gEA : HA.get h1.n = .cells (entE x) 47 none := by
      rw [hHA]
      refine (get_set_ne ?_).trans gE
      have := (w.old _ _ w.tb).2
      omega
    have gA := wA.g
    simp only at gA
    have oldA : ∀ q t, ow q = some t → q < HA.n := fun q t hq => (wA.old q t hq).2
    have b0 := lit0i HA
    obtain ⟨v1, h2, e1, a1⟩ := Acc.appM (P := Tryd.prog) (tx := 39) sl_39 (acc0i HA) (by decide) (own_src (P := Tryd.prog) (t := 39) kt_39 (wA.so.1.keepN (acc0i HA).keep) (n := o.ord.length) (by rw [i64V_length, Nat.mul_one]) (by decide) (i64V_one _)) (by rw [i64V_length]; exact (Nat.mul_one _).symm) (fun m hm => by
      change m * 1 = (i64V []).length + (i64V o.ord).length at hm
      rw [i64V_length, i64V_length, List.length_nil] at hm
      have := bd.ord
      exact ⟨by simp only [lim]; omega, by simp only [lim]; omega⟩)
    have hor := ((may_iff x).1 hm).2.2.2.2.2.2.2.2.1
    obtain ⟨v2, h3, e2, a2⟩ := Acc.appM (P := Tryd.prog) (tx := 39) sl_39 a1 (by decide) (imm_src kt_39 (by rw [i64V_length, Nat.mul_one]) (i64V_one x.order)) (by rw [i64V_length]; exact (Nat.mul_one _).symm) (fun m hm => by
      change m * 1 = (i64V [] ++ i64V o.ord).length + (i64V x.order).length at hm
      rw [List.length_append, i64V_length, i64V_length, i64V_length, List.length_nil] at hm
      have := bd.ord
      exact ⟨by simp only [lim]; omega, by simp only [lim]; omega⟩)
    have a2' : Acc HA h3 3 1 v2 (i64V (o.ord ++ x.order)) := a2.conv (by rw [i64V_append, show i64V [] = [] from rfl, List.nil_append])
    have k0 := (acc0i HA).keep
    have k1' := a1.keep
    have k2' := a2.keep
    have gA3 := (k2'.get (h.n + 1) (oldA _ _ tb) (by simp [none_])).trans gA
    obtain ⟨ow2, how⟩ : ∃ g : Tg, g = fun q => if q < HA.n then ow q else if idOf v2 = some q then some 1 else ow q := ⟨_, rfl⟩
    have hi2 : ∀ q t, ow q = some t → ow2 q = some t := fun q t hq => by rw [how]; simp only; rw [if_pos (oldA q t hq)]; exact hq
    have ho2 : ∀ q t, ow2 q = some t → ow q = some t ∨ (HA.n ≤ q ∧ q < h3.n) := fun q t hq => by
      rw [how] at hq
      simp only at hq
      split at hq
      · exact .inl hq
      · split at hq
        · rename_i hq2; exact .inr ⟨by omega, a2'.own.lt _ hq2⟩
        · exact .inl hq
    have s2 : SL h3 ow2 1 v2 (o.ord ++ x.order) := ⟨a2'.own, fun q hq => by have := a2'.new q hq; rw [how]; simp only; rw [if_neg (by omega), if_pos hq]⟩
    have no : ∀ j, ∀ q, none_ q → ow q ≠ some j := fun j q hq => hq.elim
    have st4 : setC (some 1) (AObj.cells [V.int .i64 n, .int .i64 o.ep, .int .i64 o.tx, .imm x.offs.length (i64V x.offs), ov, .int .i64 0, pv, dv, av] 64 none) 4 [v2] = some (.cells [V.int .i64 n, .int .i64 o.ep, .int .i64 o.tx, .imm x.offs.length (i64V x.offs), v2, .int .i64 0, pv, dv, av] 64 none) := by rw [setC_one s2.one.1]; rfl
    have cv2 := s2.one.2
    have st3 : setC (some 1) (AObj.cells [V.int .i64 n, .int .i64 o.ep, .int .i64 o.tx, fv, ov, .int .i64 0, pv, dv, av] 64 none) 3 [.imm x.offs.length (i64V x.offs)] = some (.cells [V.int .i64 n, .int .i64 o.ep, .int .i64 o.tx, .imm x.offs.length (i64V x.offs), ov, .int .i64 0, pv, dv, av] 64 none) := rfl
    simp only [wpA_skip, wpA_region, wpA_seq, wpA_cond, wpA_draw, condI_true, condI_false, seqQ_normal, goI_out, goI_ops, opsA_nil, opsA_cons, opsA_guardS, gvI_same, slotAt_zero, slotAt_succ, stepA_move, stepA_assign, stepA_pick, stepA_load, stepA_store, stepA_binOp, stepA_unOp, stepA_fieldAddr, thenV_some, thenS_some, pickV_false, eval_tmp, eval_const, put_some, put_none, aBin_eql, aBin_neq, aBin_lss, aBin_gtr, aUn_not, absV_int, absV_bool, cells_imm, aField_eq, fieldGo_ptr, aLoad_eq, loadGo_one, aPlace_ptr, dropC_cells, aStore_eq, storeGo_ptr, Nat.reduceEqDiff, Nat.reduceAdd, Nat.reduceLeDiff, Option.map_some, Nat.add_zero, Nat.zero_add, List.length_cons, List.length_nil, List.drop_zero, List.drop_succ_cons, if_true, if_false, Bool.not_true, ft_41_1, ft_41_2, ft_41_3, ft_47_0, ft_47_1, ft_47_2, ft_47_3, ft_47_7, ft_64_0, lt_3, lt_39, zt_39, f1, f6, gE, gB, q0, q1, q2, q3, m0, m1, m2, m3, g1, g2, g3, g5, g7, g8, g9, g10, q9, m9, st3]
    rw [← hHA]
    clear hHA
    refine SWp.drawnS none_ [0, 4, 7, 10] (.q 1 (.q 2 (.q 3 (.q 5 (.q 6 (.e 0 (.e 4 (.a 7 (.q 8 (.q 9 (.a 10 .done)))) .stop) .stop)))))) (by kernel_rfl) (by kernel_rfl) (by kernel_rfl) ?_
    simp only [siI_done, siI_stop, siI_q, siI_a, siI_e, sqI_some, saI_some, seI_some, mOk_none', implies_true, qI_nil, qI_cons, thenQ_some, q_load, q_fieldAddr, wpA_region, wpA_seq, wpA_block, wpA_loop, seqQ_normal, goI_out, goI_ops, goI_mk, opsA_nil, opsA_cons, stepA_assign, stepA_buildSlice, stepA_store, stepA_append, thenH_some, thenS_some, eval_tmp, eval_const, put_some, put_none, absV_int, aField_eq, fieldGo_ptr, aLoad_eq, loadGo_one, aPlace_ptr, dropC_cells, aStore_eq, storeGo_ptr, List.getElem?_cons_zero, List.getElem?_cons_succ, Bool.false_eq_true, Nat.reduceEqDiff, Nat.reduceAdd, Nat.reduceLeDiff, List.map_nil, Option.map_some, Nat.add_zero, Nat.zero_add, List.length_cons, List.length_nil, List.drop_zero, List.drop_succ_cons, and_true, true_and, if_true, if_false, ft_41_4, ft_47_8, ft_64_0, lt_39, zt_39, f6, gEA, gA, q10, m10, b0, e1, e2, k0, k1', gA3, st4, cv2]
    have wB := wA.put (o' := ⟨o.ep, o.tx, x.offs, o.ord ++ x.order, o.opn, o.done, o.at_⟩) k2' (fun _ hh => hh.elim) hi2 ho2 (.inr rfl) s2 (wA.sp.on k2' (no 2) hi2) (wA.sd.on k2' (no 3) hi2) (wA.sa.on k2' (no 4) hi2)
    obtain ⟨HB, hHB⟩ : ∃ y, y = h3.set (h.n + 1) (.cells [.int .i64 n, .int .i64 o.ep, .int .i64 o.tx, .imm x.offs.length (i64V x.offs), v2, .int .i64 0, pv, dv, av] 64 none) := ⟨_, rfl⟩
    simp only at wB
    rw [← hHB] at wB ⊢
    clear hHB
    have hO : stepO n o x i = ⟨o.ep, o.tx + 1, x.offs, o.ord ++ x.order, [], o.done ++ o.opn, o.at_ ++ List.replicate o.opn.length (i : Int)⟩ := by unfold stepO; rw [if_neg hT2, if_neg k5, if_neg hno, if_neg k9, if_pos k10]
    refine SWp.loopG (α := Nat × (V × V × Tg)) (fun y f h' => f 0 = .imm l.length (l.flatMap entE) ∧ f 1 = .int .i64 n ∧ f 4 = .ptr h.n 0 ∧ f 6 = .ptr (h.n + 1) 0 ∧ f 7 = .bool true ∧ f 8 = .int .i64 (i : Nat) ∧ f 10 = .int .i64 (y.1 : Nat) ∧ y.1 ≤ o.opn.length ∧
        OS (h.push (.cells [.int .i64 0, .int .i64 0, .int .i64 0, .snil, .snil, .int .i64 0, .snil, .snil, .snil] 64 none)) h' (h.n + 1) n ⟨o.ep, o.tx, x.offs, o.ord ++ x.order, o.opn, o.done ++ o.opn.take y.1, o.at_ ++ List.replicate y.1 (i : Int)⟩ (.imm x.offs.length (i64V x.offs)) v2 pv y.2.1 y.2.2.1 y.2.2.2) (fun y => o.opn.length - y.1) (0, dv, av, ow2)
      ⟨f0, f1, f4, f6, rfl, f8, rfl, Nat.zero_le _, by simp only [List.take_zero, List.append_nil, List.replicate_zero]; exact wB⟩ ?_
    clear f0 f1 f4 f6 f7 f8
    rintro ⟨k, dw, aw, ow3⟩ f h4 ⟨f0, f1, f4, f6, f7, f8, f10, hk, wK⟩
    simp only at f10 hk wK
    refine wpI_sound (by kernel_rfl) ?_
    have gK := wK.g
    simp only at gK
    have lenp := wK.sp.len
    simp only at lenp
    have tb4 := wK.tb
    have old4 : ∀ q t, ow3 q = some t → q < h4.n := fun q t hq => (wK.old q t hq).2
    by_cases hkl : k < o.opn.length
    · have e1 : decide ((k : Int) < ((o.opn.length : Nat) : Int)) = true := decide_eq_true (by omega)
      have wk : IntKind.i64.wrap ((k : Int) + 1) = ((k + 1 : Nat) : Int) := by rw [Go.IntWalk.i64_in _ (by have := bd.op; omega)]; omega
      obtain ⟨iv, rr, ix, hiv, dr⟩ := wK.sp.ix (j := k) hkl
      simp only at dr
      have htk2 : o.opn.take (k + 1) = o.opn.take k ++ [o.opn[k]] := List.take_succ_eq_append_getElem hkl
      generalize o.opn[k] = A at dr htk2
      have hdl : (o.done ++ o.opn.take k).length ≤ 2 ^ 30 := by
        have h1 := bd.dn
        have h2 : i * i ≤ 2 ^ 14 * 2 ^ 14 := Nat.mul_le_mul (by omega) (by omega)
        have h3 := bd.op
        rw [List.length_append, List.length_take]
        omega
      obtain ⟨dw', h5, ow4, ea5, s5, k5', hi5, ho5⟩ := wK.sd.app old4 A (by simp only; omega)
      have b5 := lit1i h4 A
      have nd : isId dw (h.n + 1) = False := eq_false fun hh => by have := wK.sd.2 _ hh; rw [tb4] at this; cases this
      have np : isId dw iv = False := eq_false fun hh => by have h1 := wK.sd.2 _ hh; have h2 := wK.sp.2 _ hiv; rw [h1] at h2; cases h2
      have gK5 := (k5'.get (h.n + 1) (old4 _ _ tb4) (by rw [nd]; exact id)).trans gK
      have st7 : setC (some 1) (AObj.cells [V.int .i64 n, .int .i64 o.ep, .int .i64 o.tx, .imm x.offs.length (i64V x.offs), v2, .int .i64 0, pv, dw, aw] 64 none) 7 [dw'] = some (.cells [V.int .i64 n, .int .i64 o.ep, .int .i64 o.tx, .imm x.offs.length (i64V x.offs), v2, .int .i64 0, pv, dw', aw] 64 none) := by rw [setC_one s5.one.1]; rfl
      have cv7 := s5.one.2
      have tg5 : ∀ j, j ≠ 3 → ∀ q, isId dw q → ow3 q ≠ some j := fun j hj q hq hh => by rw [wK.sd.2 q hq] at hh; injection hh with hh; exact hj hh.symm
      have w5 := wK.put (o' := ⟨o.ep, o.tx, x.offs, o.ord ++ x.order, o.opn, o.done ++ o.opn.take k ++ [A], o.at_ ++ List.replicate k (i : Int)⟩) k5' (fun q hh => ⟨3, wK.sd.2 q hh⟩) hi5 ho5 wK.hf (wK.so.on k5' (tg5 1 (by decide)) hi5) (wK.sp.on k5' (tg5 2 (by decide)) hi5) s5 (wK.sa.on k5' (tg5 4 (by decide)) hi5)
      simp only at w5
      obtain ⟨H5, hH5⟩ : ∃ y, y = h5.set (h.n + 1) (.cells [.int .i64 n, .int .i64 o.ep, .int .i64 o.tx, .imm x.offs.length (i64V x.offs), v2, .int .i64 0, pv, dw', aw] 64 none) := ⟨_, rfl⟩
      rw [← hH5] at w5
      have gK6 := w5.g
      simp only at gK6
      have old5 : ∀ q t, ow4 q = some t → q < H5.n := fun q t hq => (w5.old q t hq).2
      obtain ⟨aw', h6, ow5, ea6, s6, k6', hi6, ho6⟩ := w5.sa.app old5 (i : Int) (by
        have h1 := bd.dn
        have h2 : i * i ≤ 2 ^ 14 * 2 ^ 14 := Nat.mul_le_mul (by omega) (by omega)
        have h3 := bd.op
        have h4 := bd.da
        simp only [List.length_append, List.length_replicate]
        omega)
      have b6 := lit1i H5 (i : Int)
      have na : isId aw (h.n + 1) = False := eq_false fun hh => by have := w5.sa.2 _ hh; rw [w5.tb] at this; cases this
      have gK7 := (k6'.get (h.n + 1) (old5 _ _ w5.tb) (by rw [na]; exact id)).trans gK6
      have st8 : setC (some 1) (AObj.cells [V.int .i64 n, .int .i64 o.ep, .int .i64 o.tx, .imm x.offs.length (i64V x.offs), v2, .int .i64 0, pv, dw', aw] 64 none) 8 [aw'] = some (.cells [V.int .i64 n, .int .i64 o.ep, .int .i64 o.tx, .imm x.offs.length (i64V x.offs), v2, .int .i64 0, pv, dw', aw'] 64 none) := by rw [setC_one s6.one.1]; rfl
      have cv8 := s6.one.2
      have tg6 : ∀ j, j ≠ 4 → ∀ q, isId aw q → ow4 q ≠ some j := fun j hj q hq hh => by rw [w5.sa.2 q hq] at hh; injection hh with hh; exact hj hh.symm
      have w6 := w5.put (o' := ⟨o.ep, o.tx, x.offs, o.ord ++ x.order, o.opn, o.done ++ o.opn.take k ++ [A], o.at_ ++ List.replicate k (i : Int) ++ [(i : Int)]⟩) k6' (fun q hh => ⟨4, w5.sa.2 q hh⟩) hi6 ho6 w5.hf (w5.so.on k6' (tg6 1 (by decide)) hi6) (w5.sp.on k6' (tg6 2 (by decide)) hi6) (w5.sd.on k6' (tg6 3 (by decide)) hi6) s6
      simp only [wpA_skip, wpA_region, wpA_seq, wpA_cond, wpA_block, wpA_draw, condI_true, seqQ_normal, goI_out, goI_ops, opsA_nil, opsA_cons, stepA_move, stepA_load, stepA_binOp, stepA_fieldAddr, stepA_len, thenV_some, eval_tmp, put_some, aBin_lss, aField_eq, fieldGo_ptr, aLoad_eq, loadGo_one, aPlace_ptr, dropC_cells, Nat.reduceEqDiff, Nat.reduceAdd, Nat.reduceLeDiff, Nat.zero_add, List.length_cons, List.length_nil, List.drop_zero, List.drop_succ_cons, if_true, if_false, ft_64_1, lt_39, f6, f10, gK, lenp, e1]
      refine SWp.drawnS (fun q => isId dw q) [7, 8, 10] (.q 0 (.q 1 (.q 2 (.q 3 (.q 4 (.q 5 (.q 6 (.e 7 (.a 8 (.q 9 (.a 10 .done))) .stop)))))))) (by kernel_rfl) (by kernel_rfl) (by kernel_rfl) ?_
      simp only [mOk_move, mOk_fieldAddr, mOk_indexAddr, mOk_load, mOkV_ptr, nne2, nne3, nne4, nne1', nne2', nne3', not_false_eq_true, siI_done, siI_stop, siI_q, siI_a, siI_e, sqI_some, saI_some, seI_some, keepT1, implies_true, qI_nil, qI_cons, thenQ_some, q_move, q_load, q_fieldAddr, q_indexAddr, wpA_region, seqQ_normal, goI_out, goI_ops, goI_mk, opsA_nil, opsA_cons, stepA_move, stepA_buildSlice, stepA_load, stepA_store, stepA_fieldAddr, stepA_append, thenV_some, thenH_some, thenS_some, eval_tmp, put_some, put_none, aField_eq, fieldGo_ptr, aLoad_eq, loadGo_one, aPlace_ptr, dropC_cells, aStore_eq, storeGo_ptr, aIndexAddr_eq, get_set_same, List.getElem?_cons_zero, List.getElem?_cons_succ, Bool.false_eq_true, Nat.reduceEqDiff, Nat.reduceAdd, Nat.reduceLeDiff, List.map_cons, List.map_nil, Option.map_some, Nat.zero_add, List.length_cons, List.length_nil, List.drop_zero, List.drop_succ_cons, and_true, true_and, if_true, if_false, as_39, ft_64_1, ft_64_2, ft_64_3, lt_3, lt_39, ss_39, zt_39, f6, f8, f10, gK, ix, dr, b5, ea5, nd, np, gK5, st7, cv7]
      rw [← hH5]
      clear hH5
      simp only [nne2, nne3, nne4, nne1', nne2', nne3', wpA_region, seqQ_normal, blkQ_normal, endI_mk, andThen_normal, goI_out, goI_ops, opsA_nil, opsA_cons, stepA_move, stepA_assign, stepA_store, stepA_binOp, stepA_fieldAddr, stepA_append, thenV_some, thenH_some, thenS_some, eval_tmp, eval_const, put_some, put_none, aBin_add, absV_int, aField_eq, fieldGo_ptr, aStore_eq, storeGo_ptr, Nat.reduceEqDiff, Option.map_some, Nat.zero_add, if_true, if_false, ft_64_3, zt_39, f6, f10, b6, ea6, gK7, st8, cv8, wk]
      refine hid_mk ⟨(k + 1, dw', aw', ow5), ⟨f0, f1, f4, f6, f7, f8, rfl, hkl, ?_⟩, by simp only; omega⟩
      simp only [htk2, List.replicate_succ', ← List.append_assoc]
      exact w6
    · obtain rfl : k = o.opn.length := by omega
      have e1 : decide (((o.opn.length : Nat) : Int) < ((o.opn.length : Nat) : Int)) = false := decide_eq_false (by omega)
      rw [List.take_length] at wK
      simp only [wpA_region, wpA_seq, wpA_cond, wpA_exit, condI_false, seqQ_normal, seqQ_exit, blkQ_normal, blkQ_exit, endI_mk, goE, andThen_normal, andThen_exit, goI_out, goI_ops, opsA_nil, opsA_cons, stepA_move, stepA_assign, stepA_load, stepA_store, stepA_binOp, stepA_fieldAddr, stepA_len, thenV_some, thenS_some, eval_tmp, eval_const, put_some, put_none, aBin_add, aBin_lss, absV_int, absV_snil, cells_int, cells_snil, cells_agg, one_int, one_snil, all_nil, all_cons, aField_eq, fieldGo_ptr, aLoad_eq, loadGo_one, loadGo_row, aPlace_ptr, dropC_cells, aStore_eq, storeGo_ptr, setC_row, setAll_nil, setAll_cons, get_set_same, set_set, Nat.reduceEqDiff, Nat.reduceAdd, Nat.reduceLeDiff, reduceCtorEq, Option.map_some, Nat.add_zero, Nat.zero_add, Nat.zero_le, List.length_cons, List.length_nil, List.drop_zero, List.drop_succ_cons, List.take_succ_cons, List.take_nil, List.set_cons_zero, List.set_cons_succ, if_true, if_false, Bool.and_self, Nat.le_refl, ft_41_2, ft_41_5, ft_64_0, ft_64_1, lt_3, lt_39, lt_64, zt_3, zt_39, zt_64, f4, f6, f7, f8, f10, gK, lenp, e1, htx, wi]
      refine hid_mk ⟨(i + 1, .imm x.offs.length (i64V x.offs), v2, .snil, dw, aw, ow3), ⟨f0, f1, f4, f6, by rw [hf7]; exact f7, rfl, hlt, ?_⟩, by simp only; omega⟩
      simp only [hsn, hO]
      exact wK.put (o' := ⟨o.ep, o.tx + 1, x.offs, o.ord ++ x.order, [], o.done ++ o.opn, o.at_ ++ List.replicate o.opn.length (i : Int)⟩) (Keep.refl h4 none_) (fun _ hh => hh.elim) (fun _ _ hh => hh) (fun _ _ hh => .inl hh) wK.hf wK.so (SL.nil _ _ _) wK.sd wK.sa
  · have d1 : decide ((i : Int) < ((l.length : Nat) : Int)) = false := decide_eq_false (by omega)
    obtain rfl : i = l.length := by omega
    rw [List.take_length] at f7 w
    have gB := w.g
    have lenp := w.sp.len
    have one_p := w.sp.one
    have one_d := w.sd.one
    have one_a := w.sa.one
    have one_o := w.so.one
    have one_f : fv.one = true ∧ fv.cells = some [fv] := by rcases w.hf with ⟨rfl, _⟩ | rfl <;> exact ⟨rfl, rfl⟩
    have hb := (w.old _ _ w.tb).2
    generalize ofL l n = o at w gB lenp
    generalize (l.any fun x => isT x && (x.task == n)) = nm at f7 ⊢
    have st5 : setC (some 1) (AObj.cells [V.int .i64 n, .int .i64 o.ep, .int .i64 o.tx, fv, ov, .int .i64 0, pv, dv, av] 64 none) 5 [.int .i64 (o.opn.length : Nat)] = some (.cells [V.int .i64 n, .int .i64 o.ep, .int .i64 o.tx, fv, ov, .int .i64 (o.opn.length : Nat), pv, dv, av] 64 none) := rfl
    have g0 : h1.get h.n = .cells [.int .i64 0, .int .i64 0, .int .i64 0, .snil, .snil, .int .i64 0, .snil, .snil, .snil] 64 none := (w.keep.get h.n (by rw [push_n]; omega) (by simp [none_])).trans get_push_new
    have cR : (V.agg [V.int .i64 n, .int .i64 o.ep, .int .i64 o.tx, fv, ov, .int .i64 (o.opn.length : Nat), pv, dv, av]).cells = some [V.int .i64 n, .int .i64 o.ep, .int .i64 o.tx, fv, ov, .int .i64 (o.opn.length : Nat), pv, dv, av] := rfl
    have sR : setC (some 9) (AObj.cells [V.int .i64 0, .int .i64 0, .int .i64 0, .snil, .snil, .int .i64 0, .snil, .snil, .snil] 64 none) 0 [V.int .i64 n, .int .i64 o.ep, .int .i64 o.tx, fv, ov, .int .i64 (o.opn.length : Nat), pv, dv, av] = some (.cells [V.int .i64 n, .int .i64 o.ep, .int .i64 o.tx, fv, ov, .int .i64 (o.opn.length : Nat), pv, dv, av] 64 none) := by
      simp only [setC, List.length_cons, List.length_nil, List.all_cons, List.all_nil, one_f.1, one_o.1, one_p.1, one_d.1, one_a.1]
      rfl
    obtain ⟨HA, hHA⟩ : ∃ y, y = h1.set (h.n + 1) (.cells [.int .i64 n, .int .i64 o.ep, .int .i64 o.tx, fv, ov, .int .i64 (o.opn.length : Nat), pv, dv, av] 64 none) := ⟨_, rfl⟩
    have kA : Keep h1 HA (· = h.n + 1) := by rw [hHA]; exact Keep.set _ _ _
    have gA : HA.get (h.n + 1) = .cells [.int .i64 n, .int .i64 o.ep, .int .i64 o.tx, fv, ov, .int .i64 (o.opn.length : Nat), pv, dv, av] 64 none := by rw [hHA]; exact get_set_same
    have gA0 := (kA.get h.n (by omega) (by omega)).trans g0
    simp only [wpA_region, wpA_seq, wpA_cond, wpA_exit, condI_false, seqQ_normal, seqQ_exit, blkQ_exit, endI_mk, goE, andThen_exit, goI_out, goI_ops, opsA_nil, opsA_cons, stepA_move, stepA_load, stepA_store, stepA_binOp, stepA_fieldAddr, stepA_len, thenV_some, thenS_some, eval_tmp, put_some, put_none, aBin_lss, cells_int, cells_agg, aField_eq, fieldGo_ptr, aLoad_eq, loadGo_one, loadGo_row, aPlace_ptr, dropC_cells, aStore_eq, storeGo_ptr, aLen_imm, get_set_same, Nat.reduceEqDiff, Nat.reduceAdd, Nat.reduceLeDiff, reduceCtorEq, Option.map_some, Nat.add_zero, Nat.zero_add, Nat.zero_le, List.length_cons, List.length_nil, List.drop_zero, List.drop_succ_cons, List.take_succ_cons, List.take_nil, if_true, if_false, Nat.le_refl, ft_41_5, ft_64_0, ft_64_1, kt_22, lt_39, lt_64, zt_3, zt_64, f0, f4, f6, f7, f8, d1, gB, lenp, st5]
    rw [← hHA]
    clear hHA
    simp only [wpA_ret, seqQ_normal, endI_mk, goI_out, goI_ops, opsA_nil, opsA_cons, stepA_assign, thenS_some, eval_tmp, put_some, put_none, aLoad_eq, loadGo_row, aPlace_ptr, dropC_cells, get_set_same, Nat.reduceEqDiff, Nat.reduceAdd, Option.map_some, Nat.zero_add, Nat.zero_le, List.length_cons, List.length_nil, List.drop_zero, List.take_succ_cons, List.take_nil, if_true, if_false, Nat.le_refl, lt_64, f4, gA0, sR, retA_ret, Tryd.results25, resultsC_2, resultA_tmp, resultA_cell, res2_some]
    obtain ⟨F, hF⟩ : ∃ y, y = HA.set h.n (.cells [.int .i64 n, .int .i64 o.ep, .int .i64 o.tx, fv, ov, .int .i64 (o.opn.length : Nat), pv, dv, av] 64 none) := ⟨_, rfl⟩
    have kF : Keep HA F (· = h.n) := by rw [hF]; exact Keep.set _ _ _
    rw [← hF]
    clear hF
    have n1 : ∀ j, j ≠ 0 → ∀ q, q = h.n + 1 → ow q ≠ some j := fun j hj q hq hh => by rw [hq, w.tb] at hh; injection hh with hh; exact hj hh.symm
    have n2 : ∀ j, ∀ q, q = h.n → ow q ≠ some j := fun j q hq hh => by have := (w.old _ _ hh).1; rw [push_n] at this; omega
    have so := (w.so.on kA (n1 1 (by decide)) (fun _ _ hh => hh)).on kF (n2 1) (fun _ _ hh => hh)
    have sp := (w.sp.on kA (n1 2 (by decide)) (fun _ _ hh => hh)).on kF (n2 2) (fun _ _ hh => hh)
    have sd := (w.sd.on kA (n1 3 (by decide)) (fun _ _ hh => hh)).on kF (n2 3) (fun _ _ hh => hh)
    have sa := (w.sa.on kA (n1 4 (by decide)) (fun _ _ hh => hh)).on kF (n2 4) (fun _ _ hh => hh)
    have cf : Cast fv F (.imm o.offs.length (i64V o.offs)) F := by
      rcases w.hf with ⟨rfl, e⟩ | rfl
      · rw [e]; exact Cast.nil0 _
      · exact Cast.refl _ _
    have df : ∀ {v : V} {k j : Nat} {l : List Int} {h' : AHeap}, SL h' ow k v l → j ≠ k → ∀ q, isId v q → ow q ≠ some j := fun {v k j l h'} s hj q hq hh => by rw [s.2 q hq] at hh; injection hh with hh; exact hj hh.symm
    obtain ⟨F1, c1, z1⟩ := Cast.own so.1 (n := o.ord.length) (by rw [i64V_length, Nat.mul_one]) (by decide)
    have sp1 := sp.on z1 (df so (by decide)) (fun _ _ hh => hh)
    have sd1 := sd.on z1 (df so (by decide)) (fun _ _ hh => hh)
    have sa1 := sa.on z1 (df so (by decide)) (fun _ _ hh => hh)
    obtain ⟨F2, c2, z2⟩ := Cast.own sp1.1 (n := o.opn.length) (by rw [i64V_length, Nat.mul_one]) (by decide)
    have sd2 := sd1.on z2 (df sp1 (by decide)) (fun _ _ hh => hh)
    have sa2 := sa1.on z2 (df sp1 (by decide)) (fun _ _ hh => hh)
    obtain ⟨F3, c3, z3⟩ := Cast.own sd2.1 (n := o.done.length) (by rw [i64V_length, Nat.mul_one]) (by decide)
    have sa3 := sa2.on z3 (df sd2 (by decide)) (fun _ _ hh => hh)
    obtain ⟨F4, c4, z4⟩ := Cast.own sa3.1 (n := o.at_.length) (by rw [i64V_length, Nat.mul_one]) (by decide)
    have low : ∀ {v : V} {k : Nat} {l : List Int} {h' : AHeap}, SL h' ow k v l → ∀ q, q < h.n → isId v q → False := fun {v k l h'} s q hq hh => by have := (w.old _ _ (s.2 q hh)).1; rw [push_n] at this; omega
    have kk : Keep h F none_ := ((((Keep.push _ _ _).trans' w.keep).up).trans kA fun q hq hh => by omega).trans kF fun q hq hh => by omega
    refine hid_mk ⟨F4, Cast.tuple (CastL.cons (aggC (CastL.cons (Cast.refl _ _) (CastL.cons (Cast.refl _ _) (CastL.cons (Cast.refl _ _) (CastL.cons cf (CastL.cons c1 (CastL.cons (Cast.refl _ _) (CastL.cons c2 (CastL.cons c3 (CastL.cons c4 (CastL.refl _ _))))))))))) (CastL.refl _ _)), ?_⟩
    exact (((kk.trans z1 fun q hq hh => low so q hq hh).trans z2 fun q hq hh => low sp1 q hq hh).trans z3 fun q hq hh => low sd2 q hq hh).trans z4 fun q hq hh => low sa3 q hq hh
end Go.Proofs.YtcdpepdjeneelaaDoor.Pk
namespace Go.Proofs.YtcdpepdjeneelaaDoor.Pk
open Go Go.Proofs Go.Proofs.YtcdpepdjeneelaaDoor.Ab Go.Proofs.Vw
set_option linter.unusedVariables false
set_option linter.unusedSimpArgs false
/-! ### The reference: what is put -/
theorem dropC_mr {o : AObj} {a m : Nat} {l : List V} (h : dropC o a = some l) (hm : m ≤ l.length) : dropC o (a + m) = some (l.drop m) := by
  cases o with
  | cells c e ex =>
    rw [dropC_cells] at h ⊢
    split at h
    · rename_i ha
      injection h with h
      subst h
      rw [List.length_drop] at hm
      rw [if_pos (by omega), List.drop_drop]
    · cases h
  | _ => cases h
def pick (o : OneJ) (i : Nat) : List Int := ((o.done.zip o.at_).filter fun p => p.2 == (i : Int)).map (·.1)
def onesL (l : List Ent) : List (Int × OneJ) := (namesL l).map fun n => (n, ofL l n)
def inpI (l : List Ent) (i : Nat) : List Int := if (match l[i]? with | some x => mayB x && (x.kind == 1) | none => false) = true then [(i : Int)] else []
def putAt (l : List Ent) (i : Nat) : List Int := inpI l i ++ (onesL l).flatMap fun p => pick p.2 i
def putL (l : List Ent) : List Int := (List.range l.length).flatMap (putAt l)
def oneE (p : Int × OneJ) : List V := oneC p.1 p.2 p.2.opn.length
theorem oneE_len (p : Int × OneJ) : (oneE p).length = 9 := rfl
theorem flat_le {α β : Type} {f : α → List β} {B : Nat} : ∀ (l : List α), (∀ x ∈ l, (f x).length ≤ B) → (l.flatMap f).length ≤ l.length * B
  | [], _ => by simp
  | x :: l, h => by
    have ih := flat_le l fun y hy => h y (by simp [hy])
    have := h x (by simp)
    rw [List.flatMap_cons, List.length_append, List.length_cons, Nat.add_mul]
    omega
theorem pick_le (o : OneJ) (i : Nat) : (pick o i).length ≤ o.done.length := by
  unfold pick
  rw [List.length_map]
  refine Nat.le_trans (List.length_filter_le _ _) ?_
  rw [List.length_zip]
  omega
theorem ones_le (l : List Ent) : (onesL l).length ≤ l.length := by unfold onesL; rw [List.length_map]; exact namesL_len l
theorem ones_done {l : List Ent} {p : Int × OneJ} (hp : p ∈ onesL l) : p.2.done.length ≤ l.length * l.length ∧ p.2.at_.length = p.2.done.length ∧ p.2.opn.length ≤ l.length := by
  unfold onesL at hp
  obtain ⟨n, _, rfl⟩ := List.mem_map.1 hp
  have := obd l n
  exact ⟨this.dn, this.da, this.op⟩
theorem putAt_le (l : List Ent) (i : Nat) : (putAt l i).length ≤ 1 + l.length * (l.length * l.length) := by
  unfold putAt
  rw [List.length_append]
  have h1 : (inpI l i).length ≤ 1 := by
    have : ∀ b : Bool, (if b = true then [(i : Int)] else []).length ≤ 1 := fun b => by cases b <;> simp
    exact this _
  have h2 := flat_le (f := fun p : Int × OneJ => pick p.2 i) (B := l.length * l.length) (onesL l) fun p hp => Nat.le_trans (pick_le _ _) (ones_done hp).1
  have h3 := Nat.mul_le_mul_right (l.length * l.length) (ones_le l)
  omega
set_option maxRecDepth 10000 in
theorem one_ix {l : List (Int × OneJ)} {h : AHeap} {v : V} (o : Own h 64 9 v (l.flatMap oneE)) {k : Nat} (hk : k < l.length) : ∃ iv q, ixGo (some 9) none v (k : Int) = some (.ptr iv (k * 9)) ∧ dropC (h.get iv) (k * 9) = some (oneE l[k] ++ q) := by
  obtain ⟨iv, qq, ix, _, dr⟩ := own_row_ix (kk := .i64) oneE_len (by decide) ss_93 o hk
  rw [aIndexAddr_eq, ss_93] at ix
  rw [Nat.zero_add] at ix dr
  exact ⟨iv, qq, ix, dr⟩
theorem lenOne {l : List (Int × OneJ)} {h : AHeap} {v : V} (o : Own h 64 9 v (l.flatMap oneE)) : ∀ h', aLen Tryd.prog 93 v h' = some (.int .i64 (l.length : Nat)) := fun h' => by
  have hz : (l.flatMap oneE).length = l.length * 9 := rows_len oneE_len l
  rcases o with ⟨rfl | rfl, hcc⟩ | ⟨i0, len, cap, c0, ex, rfl, _, _, hlen2, _, _⟩
  · rw [hcc] at hz
    have : l.length = 0 := by simp at hz; omega
    rw [this]
    exact aLen_snil kt_93
  · rw [hcc] at hz
    have : l.length = 0 := by simp at hz; omega
    rw [this]
    exact aLen_z0 kt_93
  · rw [hz] at hlen2
    obtain rfl : len = l.length := by omega
    exact aLen_sl kt_93
theorem litO1 (h : AHeap) (p : Int × OneJ) : aBuildSlice Tryd.prog 93 1 [(0, .agg (oneE p))] h = some (.sl h.n 0 1 1, h.push (.cells (oneE p) 64 none)) := by rw [buildSlice_go sl_93]; rfl
set_option maxHeartbeats 8000000 in
set_option maxRecDepth 20000 in
theorem rPut (l : List Ent) (hl : l.length ≤ 200) (he : ∀ x ∈ l, eLen x) (h : AHeap) :
    Pure Tryd.prog 26 [.imm l.length (l.flatMap entE)] h (.imm (putL l).length (i64V (putL l))) := by
  refine Pure.of (Clo.imm (i64V_clo _)) ?_
  have hN3 : l.length * (l.length * l.length) ≤ 200 * (200 * 200) := Nat.mul_le_mul hl (Nat.mul_le_mul hl hl)
  have hN2 : l.length * l.length ≤ 200 * 200 := Nat.mul_le_mul hl hl
  refine SCalls.enterI (c := _) Tryd.func26 rfl (by kernel_rfl) (by simp) ?_
  simp only [wpA_region, wpA_seq, seqQ_normal, goI_out, goI_ops, opsA_nil, opsA_cons, stepA_move, stepA_assign, stepA_call, eval_tmp, eval_const, put_some, enterF_zero, enterF_succ, absV_snil, Nat.reduceEqDiff, reduceCtorEq, List.map_cons, List.map_nil, if_true, if_false]
  refine callI_pure cal24 (rNames l (by omega) he h) ?_
  have hnl := namesL_len l
  simp only [wpA_region, wpA_seq, wpA_block, wpA_loop, seqQ_normal, goI_out, goI_ops, opsA_nil, opsA_cons, stepA_assign, eval_tmp, eval_const, put_some, enterF_succ, absV_int, Nat.reduceEqDiff, if_true, if_false]
  refine SWp.loopG (α := Nat) (fun k f h' => f 0 = .imm l.length (l.flatMap entE) ∧ f 4 = .imm (namesL l).length (i64V (namesL l)) ∧ f 5 = .int .i64 (k : Nat) ∧ k ≤ (namesL l).length ∧ Acc h h' 64 9 (f 3) (((onesL l).take k).flatMap oneE)) (fun k => (namesL l).length - k) 0
    ⟨rfl, rfl, rfl, Nat.zero_le _, Acc.nil (Keep.refl _ _)⟩ ?_
  rintro k f h1 ⟨f0, f4, f5, hk, acc⟩
  refine wpI_sound (by kernel_rfl) ?_
  have hol : (onesL l).length = (namesL l).length := by unfold onesL; rw [List.length_map]
  by_cases hlt : k < (namesL l).length
  · have d1 : decide ((k : Int) < (((namesL l).length : Nat) : Int)) = true := decide_eq_true (by omega)
    have wk : IntKind.i64.wrap ((k : Int) + 1) = ((k + 1 : Nat) : Int) := by rw [Go.IntWalk.i64_in _ (by omega)]; omega
    obtain ⟨r, x1⟩ := int_ix (l := namesL l) (kk := .i64) hlt
    have htk : (onesL l).take (k + 1) = (onesL l).take k ++ [((namesL l)[k], ofL l (namesL l)[k])] := by
      rw [List.take_succ_eq_append_getElem (by omega)]
      unfold onesL
      simp
    have hT : ((onesL l).take k).length ≤ 200 := by rw [List.length_take]; omega
    generalize (namesL l)[k] = n at x1 htk
    simp only [wpA_skip, wpA_region, wpA_seq, wpA_cond, wpA_block, condI_true, seqQ_normal, goI_out, goI_ops, opsA_nil, opsA_cons, stepA_move, stepA_load, stepA_binOp, stepA_indexAddr, stepA_len, stepA_call, thenV_some, eval_tmp, put_some, aBin_lss, aLoad_eq, loadGo_one, aPlace_at, aLen_imm, Nat.reduceEqDiff, reduceCtorEq, List.map_cons, List.map_nil, if_true, if_false, kt_39, lt_3, f0, f4, f5, d1, x1]
    refine callI_pure cal25 (rOf l n (by omega) he h1) ?_
    have cO : (V.agg (oneC n (ofL l n) (ofL l n).opn.length)).cells = some (oneE (n, ofL l n)) := rfl
    have sO : setC (some 9) (AObj.cells [V.int .i64 0, .int .i64 0, .int .i64 0, .snil, .snil, .int .i64 0, .snil, .snil, .snil] 64 none) 0 (oneE (n, ofL l n)) = some (.cells (oneE (n, ofL l n)) 64 none) := rfl
    have a1 := acc.on (Keep.push h1 (.cells (oneE (n, ofL l n)) 64 none) none_)
    obtain ⟨H, hH⟩ : ∃ y, y = h1.push (.cells (oneE (n, ofL l n)) 64 none) := ⟨_, rfl⟩
    have gO : H.get h1.n = .cells (oneE (n, ofL l n)) 64 none := by rw [hH]; exact get_push_new
    have dO : dropC (AObj.cells (oneE (n, ofL l n)) 64 none) 0 = some (oneE (n, ofL l n)) := rfl
    have tO : (oneE (n, ofL l n)).take 9 = oneE (n, ofL l n) := rfl
    have lO := oneE_len (n, ofL l n)
    rw [← hH] at a1
    obtain ⟨s', h2, ea, a2⟩ := a1.elemM (P := Tryd.prog) (t := 93) sl_93 (by decide) (xs := oneE (n, ofL l n)) rfl rfl (fun m hm => by
      change m * 9 = _ + 9 at hm
      rw [rows_len oneE_len] at hm
      exact ⟨by simp only [lim]; omega, by simp only [lim]; omega⟩)
    have b1 := litO1 H (n, ofL l n)
    simp only [wpA_region, seqQ_normal, goI_out, goI_ops, opsA_nil, opsA_cons, stepA_move, stepA_assign, stepA_alloc, stepA_load, stepA_store, stepA_extract, thenV_some, thenH_some, thenS_some, extV_zero, extV_succ, eval_tmp, put_some, put_none, aLoad_eq, loadGo_row, aPlace_ptr, dropC_cells, aStore_eq, storeGo_ptr, aAlloc_eq, get_push_new, set_push, Nat.reduceEqDiff, Option.map_some, Nat.zero_le, List.drop_zero, if_true, if_false, lt_64, zc_64, zt_64, cO, sO]
    rw [← hH]
    clear hH
    simp only [wpA_region, seqQ_normal, blkQ_normal, endI_mk, andThen_normal, goI_out, goI_ops, opsA_nil, opsA_cons, stepA_move, stepA_assign, stepA_buildSlice, stepA_binOp, stepA_append, thenV_some, thenH_some, eval_tmp, eval_const, put_some, put_none, aBin_add, absV_int, Nat.reduceEqDiff, List.map_cons, List.map_nil, if_true, if_false, Nat.le_refl, f5, tO, lO, b1, ea, wk]
    exact hid_mk ⟨k + 1, ⟨f0, f4, rfl, hlt, a2.conv (by rw [htk, List.flatMap_append]; simp)⟩, by omega⟩
  · have d1 : decide ((k : Int) < (((namesL l).length : Nat) : Int)) = false := decide_eq_false (by omega)
    rw [List.take_of_length_le (by omega)] at acc
    obtain ⟨v3, f3⟩ : ∃ v, f 3 = v := ⟨_, rfl⟩
    rw [f3] at acc
    have len3 := lenOne acc.own
    have kA := acc.keep
    simp only [wpA_region, wpA_seq, wpA_cond, wpA_block, wpA_exit, wpA_loop, condI_false, seqQ_normal, seqQ_exit, blkQ_exit, endI_mk, goE, andThen_exit, goI_out, goI_ops, opsA_nil, opsA_cons, stepA_move, stepA_assign, stepA_binOp, stepA_len, thenV_some, eval_tmp, eval_const, put_some, aBin_lss, absV_int, absV_snil, aLen_imm, Nat.reduceEqDiff, if_true, if_false, kt_39, f4, f5, d1]
    refine SWp.loopG (α := Nat) (fun i f h' => f 0 = .imm l.length (l.flatMap entE) ∧ f 3 = v3 ∧ f 9 = .int .i64 (i : Nat) ∧ i ≤ l.length ∧ Acc h1 h' 3 1 (f 8) (i64V ((List.range i).flatMap (putAt l)))) (fun i => l.length - i) 0
      ⟨f0, f3, rfl, Nat.zero_le _, Acc.nil (Keep.refl _ _)⟩ ?_
    clear f0 f3 f4 f5 d1
    rintro i f h2 ⟨f0, f3, f9, hi, a2⟩
    refine wpI_sound (by kernel_rfl) ?_
    by_cases hil : i < l.length
    · have d1 : decide ((i : Int) < ((l.length : Nat) : Int)) = true := decide_eq_true (by omega)
      have wi : IntKind.i64.wrap ((i : Int) + 1) = ((i + 1 : Nat) : Int) := by rw [Go.IntWalk.i64_in _ (by omega)]; omega
      have x1 := ent_ix (l := l) (kk := .i64) hil
      have hxl := he _ (List.getElem_mem hil)
      have hinp : inpI l i = if (mayB l[i] && (l[i].kind == 1)) = true then [(i : Int)] else [] := by unfold inpI; rw [List.getElem?_eq_getElem hil]
      have hrg : (List.range (i + 1)).flatMap (putAt l) = (List.range i).flatMap (putAt l) ++ inpI l i ++ (onesL l).flatMap (fun p => pick p.2 i) := by
        rw [List.range_succ, List.flatMap_append, List.flatMap_cons, List.flatMap_nil, List.append_nil, List.append_assoc]
        rfl
      have hlr : ((List.range i).flatMap (putAt l)).length ≤ 200 * (1 + 200 * (200 * 200)) := by
        have h1 := flat_le (f := putAt l) (B := 1 + l.length * (l.length * l.length)) (List.range i) fun x _ => putAt_le l x
        rw [List.length_range] at h1
        have h2 : i * (1 + l.length * (l.length * l.length)) ≤ 200 * (1 + 200 * (200 * 200)) := Nat.mul_le_mul (by omega) (by omega)
        omega
      generalize (List.range i).flatMap (putAt l) = A0 at a2 hrg hlr
      generalize l[i] = x at x1 hxl hinp
      have ld := ent_ld x
      have l0 : loadGo (some none) (some (entE x ++ (l.drop (i + 1)).flatMap entE)) = some (.int .i64 x.kind) := rfl
      have eT : ∀ {b : Bool}, (mayB x && (x.kind == 1)) = b → inpI l i = if b = true then [(i : Int)] else [] := fun {b} hb => by rw [hinp, hb]
      have hones : ∀ p ∈ onesL l, (pick p.2 i).length ≤ 200 * 200 := fun p hp => by
        have h1 := pick_le p.2 i
        have h2 := (ones_done hp).1
        omega
      simp only [wpA_skip, wpA_region, wpA_seq, wpA_cond, wpA_block, condI_true, seqQ_normal, goI_out, goI_ops, opsA_nil, opsA_cons, stepA_move, stepA_load, stepA_binOp, stepA_indexAddr, stepA_len, stepA_call, thenV_some, eval_tmp, put_some, aBin_lss, aLoad_eq, aPlace_at, aLen_imm, Nat.reduceEqDiff, reduceCtorEq, List.map_cons, List.map_nil, if_true, if_false, kt_22, lt_47, f0, f9, d1, x1, ld]
      refine callI_pure cal46 (rMay x h2 hxl) ?_
      obtain ⟨s', h3, ea, a3⟩ := accI a2 (i : Int) (by omega)
      have b1 := lit1i h2 (i : Int)
      have hcase : (mayB x = false) ∨ (mayB x = true ∧ (x.kind == 1) = false) ∨ (mayB x = true ∧ (x.kind == 1) = true) := by
        cases mayB x
        · exact .inl rfl
        · cases (x.kind == 1)
          · exact .inr (.inl ⟨rfl, rfl⟩)
          · exact .inr (.inr ⟨rfl, rfl⟩)
      have aN : inpI l i = [] → Acc h1 h2 3 1 (f 8) (i64V (A0 ++ inpI l i ++ (((onesL l).take 0).flatMap fun p => pick p.2 i))) := fun e => by rw [e]; simp; exact a2
      have aY : inpI l i = [(i : Int)] → Acc h1 h3 3 1 s' (i64V (A0 ++ inpI l i ++ (((onesL l).take 0).flatMap fun p => pick p.2 i))) := fun e => by rw [e]; simp; exact a3
      have hIl : (inpI l i).length ≤ 1 := by rw [hinp]; split <;> simp
      rcases hcase with hm | ⟨hm, hk⟩ | ⟨hm, hk⟩
      all_goals
        have eI := eT (b := mayB x && (x.kind == 1)) rfl
        first | rw [hm, hk] at eI | rw [hm] at eI
        simp only [Bool.false_and, Bool.true_and, Bool.and_self, if_true, Bool.false_eq_true, if_false] at eI
        first | simp only [wpA_skip, wpA_region, wpA_seq, wpA_cond, wpA_block, wpA_loop, condI_true, condI_false, seqQ_normal, goI_out, goI_ops, opsA_nil, opsA_cons, opsA_guardS, gvI_same, gvI_ft, slotAt_zero, slotAt_succ, stepA_move, stepA_assign, stepA_pick, stepA_buildSlice, stepA_load, stepA_binOp, stepA_fieldAddr, stepA_indexAddr, stepA_append, thenV_some, thenH_some, pickV_true, pickV_false, eval_tmp, eval_const, put_some, aBin_eql, absV_int, absV_bool, aField_eq, fieldGo_at, aLoad_eq, aPlace_at, Nat.reduceEqDiff, reduceCtorEq, List.map_cons, List.map_nil, Nat.zero_le, List.drop_zero, if_true, if_false, ft_47_0, lt_3, f0, f9, hm, x1, l0, hk, b1, ea] | simp only [wpA_skip, wpA_region, wpA_seq, wpA_cond, wpA_block, wpA_exit, wpA_goto, wpA_label, wpA_ret, wpA_loop, wpA_scope, wpA_draw, condI_true, condI_false, pt_mk, seqQ_normal, seqQ_exit, seqQ_goto, seqQ_ret, seqQ_panic, blkQ_normal, blkQ_exit, blkQ_goto, blkQ_ret, blkQ_panic, endI_mk, goE, excE_out, excE_ops, andThen_normal, andThen_exit, andThen_goto, andThen_ret, andThen_panic, goI_out, goI_ops, goI_mk, opsA_nil, opsA_cons, opsA_guardS, gvI_same, gvI_tf, gvI_ft, gvI_u, slotAt_zero, slotAt_succ, stepA_move, stepA_assign, stepA_pick, stepA_alloc, stepA_box, stepA_build, stepA_buildSlice, stepA_load, stepA_store, stepA_nilCheck, stepA_binOp, stepA_unOp, stepA_convert, stepA_makeMap, stepA_makeSlice, stepA_slice, stepA_fieldAddr, stepA_field, stepA_indexAddr, stepA_index, stepA_lookup, stepA_mapUpdate, stepA_mapEntry, stepA_entryStore, stepA_insert, stepA_range, stepA_next, stepA_entry, stepA_typeAssert, stepA_extract, stepA_makeInterface, stepA_makeFunc, stepA_panic, stepA_bpanic, stepA_len, stepA_append, stepA_copy, stepA_cap, stepA_delete, stepA_clear, stepA_min, stepA_max, stepA_call, stepA_callv, callvI_func, panI_iface, ifcV_false, thenV_some, thenC_some, thenC_mark, thenH_some, thenS_some, thenV_none, thenH_none, thenS_none, pickV_true, pickV_false, nilV_ptr, nilV_at, nilV_func, extV_zero, extV_succ, eval_tmp, eval_const, eval_func, put_some, put_none, enterF_zero, enterF_succ, aBin_add, aBin_sub, aBin_mul, aBin_eql, aBin_neq, aBin_lss, aBin_leq, aBin_gtr, aBin_geq, aBin_and, aBin_or, aBin_xor, aBin_andNot, aUn_not, aUn_neg, aBin_bool_eql, aBin_bool_neq, aBin_str_eql, aBin_str_neq, aConv_int, mmV_min, mmV_max, ptr_nil_eql, ptr_nil_neq, at_nil_eql, at_nil_neq, nil_nil_eql, nil_nil_neq, absV_int, absV_bool, absV_str, absV_pnil, absV_snil, absV_mnil, absV_nilFunc, absV_nilIface, absV_agg, absV_tuple, absF_int, absF_bool, absF_str, absF_pnil, absF_snil, absF_mnil, absF_nilFunc, absF_nilIface, cells_int, cells_bool, cells_string, cells_pnil, cells_snil, cells_mnil, cells_z0, cells_nilFunc, cells_nilIface, cells_ptr, cells_sl, cells_imm, cells_atp, cells_map, cells_func, cells_iface, cells_agg, one_int, one_bool, one_string, one_pnil, one_snil, one_mnil, one_z0, one_nilFunc, one_nilIface, one_ptr, one_sl, one_imm, one_at, one_map, one_func, one_iface, all_nil, all_cons, aField_eq, fieldGo_ptr, fieldGo_at, aLoad_eq, loadGo_one, loadGo_row, aPlace_ptr, aPlace_at, dropC_cells, aStore_eq, storeGo_ptr, setC_one, setC_row, setAll_nil, setAll_cons, aAlloc_eq, aBox_eq, aIndexAddr_eq, ixGo_sl, ixGo_imm, ixGo_ptr, ixGo_at, aLen_sl, aLen_imm, aLen_snil, aLen_z0, aLen_mnil, aLen_str, makeMap_nil, aBuild_go, aFill_nil, aFill_cons, fillGo_some, aFieldOf_eq, partGo_row, partGo_one, buildGo_struct, buildGo_array, push_n, set_n, push_glob, set_glob, get_push_new, get_set_same, set_set, set_push, get_push2, get_push2', set_push2, set_push2', get_push3a, get_push3b, get_push3c, get_push4a, get_push4b, get_push4c, get_push4d, set_push3a, set_push3b, set_push3c, set_push4a, set_push4b, set_push4c, set_push4d, List.getElem?_cons_zero, List.getElem?_cons_succ, Int.reduceBEq, Int.reduceBNe, bne_self_eq_false, beq_self_eq_true, Int.reduceLT, Int.reduceLE, Int.reduceNeg, Option.some.injEq, Bool.false_eq_true, decide_true, decide_false, reduceIte, Nat.reduceEqDiff, Nat.reduceAdd, Nat.reduceLT, Nat.reduceLeDiff, Nat.reduceMul, Nat.reduceSub, reduceCtorEq, List.map_cons, List.map_nil, Option.map_some, Option.map_none, Nat.add_zero, Nat.zero_add, Nat.zero_le, List.length_cons, List.length_nil, List.drop_zero, List.drop_succ_cons, List.drop_nil, List.take_succ_cons, List.take_zero, List.take_nil, List.set_cons_zero, List.set_cons_succ, List.nil_append, List.append_nil, List.cons_append, and_true, true_and, and_self, if_true, if_false, Bool.and_true, Bool.true_and, Bool.and_self, Bool.not_true, Bool.not_false, Nat.zero_lt_succ, Nat.lt_irrefl, Nat.le_refl, as_22, as_39, as_93, cal24, cal25, cal46, ft_47_0, ft_64_2, ft_64_3, kt_22, kt_39, kt_93, lt_3, lt_39, lt_47, lt_64, sl_39, sl_93, ss_22, ss_39, ss_93, zc_64, zt_64, f0, f3, f9, hm, x1, l0]
        refine SWp.loopG (α := Nat) (fun k f h' => f 0 = .imm l.length (l.flatMap entE) ∧ f 3 = v3 ∧ f 9 = .int .i64 (i : Nat) ∧ f 10 = .int .i64 (k : Nat) ∧ k ≤ (onesL l).length ∧ Acc h1 h' 3 1 (f 8) (i64V (A0 ++ inpI l i ++ (((onesL l).take k).flatMap fun p => pick p.2 i)))) (fun k => (onesL l).length - k) 0
          ⟨f0, f3, f9, rfl, Nat.zero_le _, by first | exact aN eI | exact aY eI⟩ ?_
        clear f0 f3 f9 aN aY ea b1 a3 a2
        rintro k f h4 ⟨f0, f3, f9, f10, hk4, a4⟩
        refine wpI_sound (by kernel_rfl) ?_
        by_cases hkl : k < (onesL l).length
        · have e1 : decide ((k : Int) < (((onesL l).length : Nat) : Int)) = true := decide_eq_true (by omega)
          have wk : IntKind.i64.wrap ((k : Int) + 1) = ((k + 1 : Nat) : Int) := by rw [Go.IntWalk.i64_in _ (by omega)]; omega
          have htk : ((onesL l).take (k + 1)).flatMap (fun p => pick p.2 i) = ((onesL l).take k).flatMap (fun p => pick p.2 i) ++ pick (onesL l)[k].2 i := by
            rw [List.take_succ_eq_append_getElem hkl, List.flatMap_append]; simp
          have hkb : (((onesL l).take k).flatMap fun p => pick p.2 i).length ≤ 200 * (200 * 200) := by
            have h1 := flat_le (f := fun p : Int × OneJ => pick p.2 i) (B := 200 * 200) ((onesL l).take k) fun p hp => hones p (List.mem_of_mem_take hp)
            rw [List.length_take] at h1
            exact Nat.le_trans h1 (Nat.mul_le_mul_right _ (by omega))
          have hix : ∀ h', Keep h1 h' none_ → ∃ iv q, ixGo (some 9) none v3 (k : Int) = some (.ptr iv (k * 9)) ∧ dropC (h'.get iv) (k * 9) = some (oneE (onesL l)[k] ++ q) := fun h' kk => one_ix (acc.own.keepN kk) hkl
          have hdn := ones_done (List.getElem_mem hkl)
          generalize (onesL l)[k] = p at htk hix hdn
          obtain ⟨n, o⟩ := p
          simp only at hdn htk
          have l7 : ∀ q, loadGo (some none) (some ((oneE (n, o) ++ q).drop 7)) = some (.imm o.done.length (i64V o.done)) := fun _ => rfl
          have l8 : ∀ q, loadGo (some none) (some ((oneE (n, o) ++ q).drop 8)) = some (.imm o.at_.length (i64V o.at_)) := fun _ => rfl
          have dl : ∀ q : List V, 9 ≤ (oneE (n, o) ++ q).length := fun q => by rw [List.length_append, oneE_len]; omega
          have hB0 : (A0 ++ inpI l i ++ (((onesL l).take k).flatMap fun p => pick p.2 i)).length ≤ 2 ^ 32 := by rw [List.length_append, List.length_append]; omega
          have hB1 : A0 ++ inpI l i ++ (((onesL l).take (k + 1)).flatMap fun p => pick p.2 i) = A0 ++ inpI l i ++ (((onesL l).take k).flatMap fun p => pick p.2 i) ++ pick o i := by rw [htk, List.append_assoc (A0 ++ inpI l i)]
          generalize A0 ++ inpI l i ++ (((onesL l).take k).flatMap fun p => pick p.2 i) = B0 at a4 hB0 hB1
          simp only [wpA_skip, wpA_region, wpA_seq, wpA_cond, wpA_block, wpA_loop, condI_true, seqQ_normal, goI_out, goI_ops, opsA_nil, opsA_cons, stepA_move, stepA_assign, stepA_binOp, stepA_len, thenV_some, eval_tmp, eval_const, put_some, aBin_lss, absV_int, Nat.reduceEqDiff, if_true, if_false, f3, f10, len3, e1]
          refine SWp.loopG (α := Nat) (fun j f h' => f 0 = .imm l.length (l.flatMap entE) ∧ f 3 = v3 ∧ f 9 = .int .i64 (i : Nat) ∧ f 10 = .int .i64 (k : Nat) ∧ f 11 = .int .i64 (j : Nat) ∧ j ≤ o.done.length ∧ Acc h1 h' 3 1 (f 8) (i64V (B0 ++ (((o.done.zip o.at_).take j).filter fun p => p.2 == (i : Int)).map (·.1)))) (fun j => o.done.length - j) 0
            ⟨f0, f3, f9, f10, rfl, Nat.zero_le _, by simp; exact a4⟩ ?_
          clear f0 f3 f9 f10 a4
          rintro j f h5 ⟨f0, f3, f9, f10, f11, hj, a5⟩
          obtain ⟨iv, q, ix, dr⟩ := hix h5 a5.keep
          have dr7 := dropC_mr (m := 7) dr (by have := dl q; omega)
          have dr8 := dropC_mr (m := 8) dr (by have := dl q; omega)
          refine wpI_sound (by kernel_rfl) ?_
          by_cases hjl : j < o.done.length
          · have e2 : decide ((j : Int) < ((o.done.length : Nat) : Int)) = true := decide_eq_true (by omega)
            have wj : IntKind.i64.wrap ((j : Int) + 1) = ((j + 1 : Nat) : Int) := by rw [Go.IntWalk.i64_in _ (by omega)]; omega
            obtain ⟨r1, y1⟩ := int_ix (l := o.done) (kk := .i64) hjl
            obtain ⟨r2, y2⟩ := int_ix (l := o.at_) (kk := .i64) (k := j) (by omega)
            have hz : (o.done.zip o.at_).take (j + 1) = (o.done.zip o.at_).take j ++ [(o.done[j], o.at_[j]'(by omega))] := by
              rw [List.take_succ_eq_append_getElem (by rw [List.length_zip]; omega), List.getElem_zip]
            have hlj : ((((o.done.zip o.at_).take j).filter fun p => p.2 == (i : Int)).map (·.1)).length ≤ 200 * 200 := by
              rw [List.length_map]
              have h1 := List.length_filter_le (fun p : Int × Int => p.2 == (i : Int)) ((o.done.zip o.at_).take j)
              rw [List.length_take, List.length_zip] at h1
              omega
            generalize o.done[j] = D at y1 hz
            generalize o.at_[j]'(by omega) = T at y2 hz
            by_cases hti : T = (i : Int)
            · have g1 : (T == (i : Int)) = true := by simpa using hti
              obtain ⟨s2, h6, ea6, a6⟩ := accI a5 D (by rw [List.length_append]; omega)
              have b6 := lit1i h5 D
              simp only [wpA_skip, wpA_region, wpA_seq, wpA_cond, wpA_block, condI_true, seqQ_normal, blkQ_normal, endI_mk, andThen_normal, goI_out, goI_ops, opsA_nil, opsA_cons, stepA_move, stepA_assign, stepA_buildSlice, stepA_load, stepA_binOp, stepA_fieldAddr, stepA_indexAddr, stepA_len, stepA_append, thenV_some, thenH_some, eval_tmp, eval_const, put_some, aBin_add, aBin_eql, aBin_lss, absV_int, aField_eq, fieldGo_ptr, aLoad_eq, loadGo_one, aPlace_ptr, aPlace_at, aIndexAddr_eq, aLen_imm, Nat.reduceEqDiff, List.map_cons, List.map_nil, if_true, if_false, as_93, ft_64_2, ft_64_3, kt_39, lt_3, lt_39, ss_93, f3, f9, f10, f11, ix, dr7, dr8, l7, l8, e2, y1, y2, g1, b6, ea6, wj]
              exact hid_mk ⟨j + 1, ⟨f0, f3, f9, f10, rfl, hjl, a6.conv (by rw [hz, List.filter_append, List.filter_cons_of_pos (by simpa using hti), List.map_append, ← List.append_assoc]; rfl)⟩, by omega⟩
            · have g1 : (T == (i : Int)) = false := by simpa using hti
              simp only [wpA_skip, wpA_region, wpA_seq, wpA_cond, wpA_block, condI_true, condI_false, seqQ_normal, blkQ_normal, endI_mk, andThen_normal, goI_out, goI_ops, opsA_nil, opsA_cons, stepA_move, stepA_assign, stepA_load, stepA_binOp, stepA_fieldAddr, stepA_indexAddr, stepA_len, thenV_some, eval_tmp, eval_const, put_some, aBin_add, aBin_eql, aBin_lss, absV_int, aField_eq, fieldGo_ptr, aLoad_eq, loadGo_one, aPlace_ptr, aPlace_at, aIndexAddr_eq, aLen_imm, Nat.reduceEqDiff, if_true, if_false, as_93, ft_64_2, ft_64_3, kt_39, lt_3, lt_39, ss_93, f3, f9, f10, f11, ix, dr7, dr8, l7, l8, e2, y2, g1, wj]
              exact hid_mk ⟨j + 1, ⟨f0, f3, f9, f10, rfl, hjl, a5.conv (by rw [hz, List.filter_append, List.filter_cons_of_neg (by simpa using hti)]; simp)⟩, by omega⟩
          · obtain rfl : j = o.done.length := by omega
            have e2 : decide (((o.done.length : Nat) : Int) < ((o.done.length : Nat) : Int)) = false := decide_eq_false (by omega)
            rw [List.take_of_length_le (by rw [List.length_zip]; omega)] at a5
            simp only [wpA_region, wpA_seq, wpA_cond, wpA_exit, wpA_ret, condI_false, seqQ_normal, seqQ_exit, blkQ_normal, blkQ_exit, endI_mk, goE, andThen_normal, andThen_exit, goI_out, goI_ops, opsA_nil, opsA_cons, stepA_move, stepA_assign, stepA_load, stepA_binOp, stepA_fieldAddr, stepA_indexAddr, stepA_len, thenV_some, eval_tmp, eval_const, put_some, aBin_add, aBin_lss, absV_int, aField_eq, fieldGo_ptr, aLoad_eq, aPlace_ptr, aIndexAddr_eq, aLen_imm, Nat.reduceEqDiff, if_true, if_false, as_93, ft_64_2, kt_39, lt_39, ss_93, f3, f9, f10, f11, ix, dr7, l7, e2, wk]
            exact hid_mk ⟨k + 1, ⟨f0, f3, f9, rfl, hkl, by rw [hB1]; exact a5⟩, by omega⟩
        · obtain rfl : k = (onesL l).length := by omega
          have e1 : decide ((((onesL l).length : Nat) : Int) < (((onesL l).length : Nat) : Int)) = false := decide_eq_false (by omega)
          rw [List.take_length] at a4
          simp only [wpA_region, wpA_seq, wpA_cond, wpA_exit, wpA_ret, condI_false, seqQ_normal, seqQ_exit, blkQ_normal, blkQ_exit, endI_mk, goE, andThen_normal, andThen_exit, goI_out, goI_ops, opsA_nil, opsA_cons, stepA_move, stepA_assign, stepA_binOp, stepA_len, thenV_some, eval_tmp, eval_const, put_some, aBin_add, aBin_lss, absV_int, Nat.reduceEqDiff, if_true, if_false, f3, f9, f10, len3, e1, wi]
          exact hid_mk ⟨i + 1, ⟨f0, f3, rfl, hil, by rw [hrg]; exact a4⟩, by omega⟩
    · obtain rfl : i = l.length := by omega
      have d1 : decide (((l.length : Nat) : Int) < ((l.length : Nat) : Int)) = false := decide_eq_false (by omega)
      simp only [wpA_region, wpA_seq, wpA_cond, wpA_exit, wpA_ret, condI_false, seqQ_normal, seqQ_exit, blkQ_exit, endI_mk, goE, andThen_exit, goI_out, goI_ops, opsA_nil, opsA_cons, stepA_move, stepA_assign, stepA_binOp, stepA_len, thenV_some, eval_tmp, put_some, aBin_lss, aLen_imm, Nat.reduceEqDiff, reduceCtorEq, if_true, if_false, kt_22, f0, f9, d1, retA_ret, Tryd.results26, resultsA_1]
      obtain ⟨h4, c4, k4⟩ := a2.cast (n := (putL l).length) (by unfold putL; rw [i64V_length, Nat.mul_one]) (by decide)
      exact hid_mk ⟨h4, c4, kA.trans' k4⟩
end Go.Proofs.YtcdpepdjeneelaaDoor.Pk
