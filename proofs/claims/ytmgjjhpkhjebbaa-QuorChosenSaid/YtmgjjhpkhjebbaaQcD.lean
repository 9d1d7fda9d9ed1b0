/-
  What functions of the program do, told of abstract states. Conditions: as each theorem says.
-/
import Derived.Test.YtmgjjhpkhjebbaaQcC
namespace Go.Proofs.Ytmgjjhpkhjebbaa.Pk
open Go Go.Proofs Go.Proofs.Ytmgjjhpkhjebbaa.Ab Go.Sort
set_option linter.unusedVariables false
set_option linter.unusedSimpArgs false
def hitQ (c : Cel) (at_ : Int) (q : Nat) : Nat := if c.at_ = at_ then q else 0
def okQ (c : Cel) (at_ n : Int) (q : Nat) : Bool := decide (n / 2 + 1 ≤ (hitQ c at_ q : Nat))
set_option maxHeartbeats 4000000 in
set_option maxRecDepth 10000 in
theorem chosen (c : Cel) (hcl : c.by_.length ≤ 140737488355328) (rows : List (List Cel)) (hrows : ∀ r ∈ rows, r = [] ∨ r = [c]) (hl : rows.length ≤ 2 ^ 20) (hne : rows ≠ []) (at_ n : Int) (hn : 0 ≤ n ∧ n ≤ 2 ^ 20) (h : AHeap) (v : V) (ov : Own h 39 1 v (rows.map rowV)) :
    SCalls Try.prog 22 [v, .int .i64 at_, .int .i64 n] h (fun r h' => r = .tuple [.agg (celE (if okQ c at_ n (cntR rows rows.length) then c else cel0)), .bool (okQ c at_ n (cntR rows rows.length))] ∧ Keep h h' none_) := by
  have hr1 : ∀ r ∈ rows, r.length ≤ 1 := fun r hr => by rcases hrows r hr with rfl | rfl <;> simp
  refine SCalls.cast ?_
  refine SCalls.enterI (c := _) Try.func22 rfl (by kernel_rfl) (by simp) ?_
  simp only [wpA_region, wpA_seq, seqQ_normal, goI_out, goI_ops, opsA_nil, opsA_cons, stepA_move, stepA_assign, stepA_alloc, stepA_box, stepA_makeMap, stepA_len, thenH_some, eval_tmp, eval_const, put_some, enterF_zero, enterF_succ, absV_bool, absV_snil, cells_int, aAlloc_eq, aBox_eq, makeMap_nil, push_n, Nat.reduceEqDiff, reduceCtorEq, Option.map_some, Option.map_none, if_true, if_false, zc_36]
  obtain ⟨H, hH⟩ : ∃ y, y = ((h.push (.cells [.int .i64 at_] 3 none)).push (.cells [V.int .i64 0, .int .i64 0, .snil] 36 none)).push (.map [] 0) := ⟨_, rfl⟩
  have nH : H.n = h.n + 3 := by rw [hH]; rfl
  have kH : Keep h H none_ := by rw [hH]; exact ((Keep.push _ _ _).then_push _).then_push _
  have ga : H.get h.n = .cells [.int .i64 at_] 3 none := by rw [hH]; exact ((get_push_lt (by rw [push_n, push_n]; omega)).trans (get_push_lt (by rw [push_n]; omega))).trans get_push_new
  have gz : H.get (h.n + 1) = .cells [V.int .i64 0, .int .i64 0, .snil] 36 none := by rw [hH]; exact (get_push_lt (by rw [push_n, push_n]; omega)).trans get_push_new
  have gm : H.get (h.n + 2) = .map (vtE (esV c 0)) (clV 0) := by rw [hH]; exact get_push_new
  rw [← hH]
  clear hH
  have hlen : ∀ h', aLen Try.prog 37 v h' = some (.int .i64 (rows.length : Nat)) := fun h' => by
    rcases ov with ⟨rfl | rfl, hc⟩ | ⟨i, len, cap, c0, ex, rfl, _, _, hlen, _, _⟩
    · exact (hne (by simpa using hc)).elim
    · exact (hne (by simpa using hc)).elim
    · rw [List.length_map, Nat.mul_one] at hlen
      rw [hlen]
      exact aLen_sl kt_37
  simp only [wpA_block, wpA_loop, seqQ_normal, goI_out, goI_ops, opsA_nil, opsA_cons, stepA_move, thenV_some, eval_const, absV_int, hlen]
  have oH := ov.keep kH (fun j _ => by simp [none_])
  have vlt : ∀ j, idOf v = some j → j < h.n := fun j hj => ov.lt j hj
  clear ov
  generalize hX : h.n = X at *
  have hQ0 : hitQ c at_ (cntR rows 0) = 0 := by unfold hitQ cntR; simp
  refine SWp.loopG (α := Nat × V) (fun x f h' => f 2 = .int .i64 n ∧ f 4 = .ptr X 0 ∧ f 6 = .ptr (X + 1) 0 ∧ f 8 = x.2 ∧ f 9 = .map (X + 2) ∧ f 19 = v ∧ f 20 = .int .i64 (rows.length : Nat) ∧ f 21 = .int .i64 (x.1 : Nat) ∧ x.1 ≤ rows.length ∧
      Own h' 39 1 v (rows.map rowV) ∧ Own h' 36 3 x.2 ((List.replicate (hitQ c at_ (cntR rows x.1)) c).flatMap celE) ∧ (∀ j, idOf x.2 = some j → X + 2 < j) ∧ h'.get X = .cells [.int .i64 at_] 3 none ∧ h'.get (X + 1) = .cells [V.int .i64 0, .int .i64 0, .snil] 36 none ∧
      h'.get (X + 2) = .map (vtE (esV c (hitQ c at_ (cntR rows x.1)))) (clV (hitQ c at_ (cntR rows x.1))) ∧ X + 2 < h'.n ∧ Keep h h' none_) (fun x => rows.length - x.1) (0, .snil)
    ⟨rfl, rfl, rfl, rfl, rfl, rfl, rfl, rfl, Nat.zero_le _, oH, by simp only [hQ0]; exact Own.snil _ _ _, (fun j hj => by simp [idOf] at hj), ga, gz, by simp only [hQ0]; exact gm, by omega, kH⟩ ?_
  clear oH ga gz gm kH
  rintro ⟨i, s⟩ f h1 ⟨f2, f4, f6, f8, f9, f19, f20, f21, hi, ow, os, ids, ga, gz, gm, hn1, k1⟩
  simp only at f8 f21 hi os ids gm
  refine wpI_sound (by kernel_rfl) ?_
  by_cases hlt : i < rows.length
  · have c3 : decide ((i : Int) < ((rows.length : Nat) : Int)) = true := decide_eq_true (by omega)
    have w2 : IntKind.i64.wrap (((i : Nat) : Int) + 1) = ((i + 1 : Nat) : Int) := by rw [Go.IntWalk.i64_in _ (by omega)]; omega
    obtain ⟨iv, ix, _, ⟨rr, dr⟩, _⟩ := own_elem (kk := .i64) (P := Try.prog) ss_37 ow (k := i) (by rw [List.length_map]; exact hlt)
    rw [aIndexAddr_eq, ss_37] at ix
    have ix : ixGo (some 1) none v (i : Int) = some (.ptr iv i) := ix
    rw [List.getElem_map] at dr
    have hcs := cntR_succ hlt
    have hcl2 := cntR_le hr1 i
    rcases hrows _ (List.getElem_mem hlt) with hr | hr
    · rw [hr] at dr hcs
      have hq : hitQ c at_ (cntR rows (i + 1)) = hitQ c at_ (cntR rows i) := by rw [hcs]; rfl
      have dr : dropC (h1.get iv) i = some (.imm 0 [] :: rr) := dr
      simp only [wpA_skip, wpA_region, wpA_seq, wpA_cond, wpA_block, condI_true, seqQ_normal, goI_out, goI_ops, opsA_nil, opsA_cons, stepA_move, stepA_assign, stepA_load, stepA_binOp, stepA_indexAddr, stepA_makeFunc, stepA_call, thenV_some, eval_tmp, put_some, aBin_lss, aLoad_eq, loadGo_one, aPlace_ptr, aIndexAddr_eq, Nat.reduceEqDiff, List.map_cons, List.map_nil, if_true, if_false, as_37, lt_39, ss_37, f4, f19, f20, f21, c3, ix, dr]
      refine callI_pure cal38 (pIndex0 at_ h1 X) ?_
      simp only [wpA_skip, wpA_region, wpA_seq, wpA_cond, condI_false, seqQ_normal, blkQ_normal, endI_mk, andThen_normal, goI_out, goI_ops, opsA_nil, opsA_cons, stepA_move, stepA_assign, stepA_binOp, thenV_some, eval_tmp, eval_const, put_some, aBin_add, aBin_geq, absV_int, Int.reduceLE, Int.reduceNeg, decide_false, Nat.reduceEqDiff, if_true, if_false, f21, w2]
      exact hid_mk ⟨(i + 1, s), ⟨f2, f4, f6, f8, f9, f19, f20, rfl, hlt, ow, by simp only [hq]; exact os, ids, ga, gz, by simp only [hq]; exact gm, hn1, k1⟩, by simp only; omega⟩
    · rw [hr] at dr hcs
      have dr : dropC (h1.get iv) i = some (.imm 1 (celE c) :: rr) := by rw [dr]; simp [rowV]
      by_cases hc : c.at_ = at_
      · have hq : hitQ c at_ (cntR rows (i + 1)) = hitQ c at_ (cntR rows i) + 1 := by unfold hitQ; rw [if_pos hc, if_pos hc, hcs]; rfl
        have hq0 : hitQ c at_ (cntR rows i) ≤ 2 ^ 20 := by unfold hitQ; rw [if_pos hc]; omega
        have z0 : decide ((0 : Int) ≤ 0) = true := rfl
        have x0 : ixGo (some 3) none (.imm 1 (celE c)) 0 = some (.at (celE c)) := rfl
        have ld := cel_ldc c
        have hpi := pIndex1 c at_ h1 X (by omega) ga
        rw [if_pos hc] at hpi
        simp only [wpA_skip, wpA_region, wpA_seq, wpA_cond, wpA_block, condI_true, seqQ_normal, goI_out, goI_ops, opsA_nil, opsA_cons, stepA_move, stepA_assign, stepA_load, stepA_binOp, stepA_indexAddr, stepA_makeFunc, stepA_call, thenV_some, eval_tmp, put_some, aBin_lss, aLoad_eq, loadGo_one, aPlace_ptr, aIndexAddr_eq, Nat.reduceEqDiff, List.map_cons, List.map_nil, if_true, if_false, as_37, lt_39, ss_37, f4, f19, f20, f21, c3, ix, dr]
        refine callI_pure cal38 hpi ?_
        generalize hitQ c at_ (cntR rows i) = q at *
        obtain ⟨s2, h2, ea, o2, k2, nw⟩ := app1Q os (by rw [List.length_replicate]; omega) c
        rw [← List.replicate_succ'] at o2
        have ids2 : ∀ j, idOf s2 = some j → X + 2 < j := fun j hj => by
          rcases nw with nw | nw
          · exact ids j (by rw [← nw]; exact hj)
          · have := nw j hj; omega
        have n2 := k2.n
        have gm2 := (k2.get (X + 2) hn1 (fun hh => by have := ids _ hh; omega)).trans gm
        have ga2 := (k2.get X (by omega) (fun hh => by have := ids _ hh; omega)).trans ga
        have gz2 := (k2.get (X + 1) (by omega) (fun hh => by have := ids _ hh; omega)).trans gz
        have ow2 := ow.keep k2 (fun j hj hh => by have := ids j hh; have := vlt j hj; omega)
        have kk2 : Keep h h2 none_ := k1.trans k2 fun j hj hh => by have := ids j hh; omega
        obtain ⟨iv2, ix2, _, ⟨rr2, dr2⟩, _⟩ := own_elem (kk := .i64) (P := Try.prog) ss_37 ow2 (k := i) (by rw [List.length_map]; exact hlt)
        obtain ⟨st, o, em, es, el⟩ := entVt (esV c q) (voteF c) gm2 (esV_st c q)
        rw [esV_get] at em el
        have hlk2 := el (h2.set (X + 2) o) get_set_same
        have ws : IntKind.i64.wrap ((q : Int) + 1) = (q : Int) + 1 := Go.IntWalk.i64_in _ (by omega)
        have hlk := lookVt (esV c q) (voteF c) gm2
        rw [esV_get] at hlk
        have est := es (h2.set (X + 2) o) ((q : Int) + 1) get_set_same
        rw [(esV_set c q).1, (esV_set c q).2] at est
        simp only [wpA_region, wpA_seq, wpA_cond, wpA_draw, condI_true, seqQ_normal, goI_out, goI_ops, opsA_nil, opsA_cons, stepA_move, stepA_assign, stepA_buildSlice, stepA_load, stepA_binOp, stepA_indexAddr, stepA_append, thenV_some, thenH_some, eval_tmp, eval_const, put_some, aBin_geq, absV_int, aLoad_eq, loadGo_row, aPlace_at, aIndexAddr_eq, Int.reduceLE, decide_true, Nat.reduceEqDiff, List.map_cons, List.map_nil, if_true, if_false, as_39, lt_36, ss_39, f8, x0, ld, lit1q, ea]
        refine SWp.drawnS (fun x => x = X + 2) [6, 8, 10] (.q 0 (.q 1 (.q 2 (.q 3 (.q 4 (.c 5 (.e 6 (.q 7 (.e 8 (.q 9 (.a 10 .done)) .stop)) (.e 8 (.q 9 (.e 6 (.q 7 (.a 10 .done)) .stop)) .stop)))))))) (by kernel_rfl) (by kernel_rfl) (by kernel_rfl) ?_
        simp only [mOk_move, mOk_indexAddr, mOk_load, mOkV_at, nne2, nne3, nne4, nne1', nne2', nne3', siI_q, sqI_some, implies_true, qI_nil, qI_cons, thenQ_some, q_move, q_load, q_indexAddr, goI_mk, eval_tmp, put_some, aLoad_eq, loadGo_row, aPlace_at, aIndexAddr_eq, List.getElem?_cons_zero, List.getElem?_cons_succ, Nat.reduceEqDiff, true_and, if_true, if_false, as_39, lt_36, ss_39, f9, x0, ld]
        refine siI_c rfl rfl rfl (fun h' _ => pVoteOf c h') ?_
        have kpM : Keep h2 (h2.set (X + 2) o) (fun x => x = X + 2) := Keep.set _ _ _
        have kpN : Keep h2 ((h2.set (X + 2) o).set (X + 2) (.map (vtE (esV c (q + 1))) (clV (q + 1)))) (fun x => x = X + 2) := kpM.trans' (Keep.set _ _ _)
        have kpO : Keep h2 (h2.set (X + 2) (.map (vtE (esV c (q + 1))) (clV (q + 1)))) (fun x => x = X + 2) := Keep.set _ _ _
        simp only [mOk_binOp, mOk_extract, nne2, nne3, nne4, nne1', nne2', nne3', siI_done, siI_stop, siI_q, siI_a, siI_e, sqI_some, saI_some, seI_some, keepT0, implies_true, qI_nil, qI_cons, thenQ_some, q_binOp, q_extract, wpA_region, seqQ_normal, blkQ_normal, endI_mk, andThen_normal, goI_out, goI_ops, goI_mk, opsA_nil, opsA_cons, stepA_move, stepA_binOp, stepA_lookup, stepA_mapEntry, stepA_entryStore, thenV_some, thenH_some, thenS_some, extV_zero, extV_succ, eval_tmp, eval_const, put_some, put_none, aBin_add, absV_int, set_set, List.getElem?_cons_zero, List.getElem?_cons_succ, Bool.false_eq_true, Nat.reduceEqDiff, and_true, true_and, if_true, if_false, f21, hlk, hlk2, ws, em, est, kpM, w2]
        have fin : ∀ HF, Keep h2 HF (fun x => x = X + 2) → Own HF 39 1 v (rows.map rowV) ∧ Own HF 36 3 s2 ((List.replicate (q + 1) c).flatMap celE) ∧ HF.get X = .cells [.int .i64 at_] 3 none ∧ HF.get (X + 1) = .cells [V.int .i64 0, .int .i64 0, .snil] 36 none ∧ X + 2 < HF.n ∧ Keep h HF none_ := fun HF kF =>
          ⟨ow2.keep kF (fun j hj hh => by have := vlt j hj; omega), o2.keep kF (fun j hj hh => by have := ids2 j hj; omega), (kF.get X (by omega) (by omega)).trans ga2, (kF.get (X + 1) (by omega) (by omega)).trans gz2, Nat.lt_of_lt_of_le (by omega) kF.n, kk2.trans kF fun j hj hh => by omega⟩
        refine ⟨hid_mk ?_, hid_mk ?_⟩
        all_goals
          refine ⟨(i + 1, s2), ⟨f2, f4, f6, rfl, f9, f19, f20, rfl, hlt, ?_, ?_, ids2, ?_, ?_, ?_, ?_, ?_⟩, by simp only; omega⟩
          · exact (fin _ (by first | exact kpN | exact kpO)).1
          · simp only [hq]; exact (fin _ (by first | exact kpN | exact kpO)).2.1
          · exact (fin _ (by first | exact kpN | exact kpO)).2.2.1
          · exact (fin _ (by first | exact kpN | exact kpO)).2.2.2.1
          · simp only [hq]; exact get_set_same
          · exact (fin _ (by first | exact kpN | exact kpO)).2.2.2.2.1
          · exact (fin _ (by first | exact kpN | exact kpO)).2.2.2.2.2
      · have hq : hitQ c at_ (cntR rows (i + 1)) = hitQ c at_ (cntR rows i) := by unfold hitQ; rw [if_neg hc, if_neg hc]
        have hpi := pIndex1 c at_ h1 X (by omega) ga
        rw [if_neg hc] at hpi
        simp only [wpA_skip, wpA_region, wpA_seq, wpA_cond, wpA_block, condI_true, seqQ_normal, goI_out, goI_ops, opsA_nil, opsA_cons, stepA_move, stepA_assign, stepA_load, stepA_binOp, stepA_indexAddr, stepA_makeFunc, stepA_call, thenV_some, eval_tmp, put_some, aBin_lss, aLoad_eq, loadGo_one, aPlace_ptr, aIndexAddr_eq, Nat.reduceEqDiff, List.map_cons, List.map_nil, if_true, if_false, as_37, lt_39, ss_37, f4, f19, f20, f21, c3, ix, dr]
        refine callI_pure cal38 hpi ?_
        simp only [wpA_skip, wpA_region, wpA_seq, wpA_cond, condI_false, seqQ_normal, blkQ_normal, endI_mk, andThen_normal, goI_out, goI_ops, opsA_nil, opsA_cons, stepA_move, stepA_assign, stepA_binOp, thenV_some, eval_tmp, eval_const, put_some, aBin_add, aBin_geq, absV_int, Int.reduceLE, Int.reduceNeg, decide_false, Nat.reduceEqDiff, if_true, if_false, f21, w2]
        exact hid_mk ⟨(i + 1, s), ⟨f2, f4, f6, f8, f9, f19, f20, rfl, hlt, ow, by simp only [hq]; exact os, ids, ga, gz, by simp only [hq]; exact gm, hn1, k1⟩, by simp only; omega⟩
  · obtain rfl : i = rows.length := by omega
    have c3 : decide (((rows.length : Nat) : Int) < ((rows.length : Nat) : Int)) = false := decide_eq_false (by omega)
    have hQle : hitQ c at_ (cntR rows rows.length) ≤ 2 ^ 20 := by have := cntR_le hr1 rows.length; unfold hitQ; split <;> omega
    unfold okQ
    generalize hitQ c at_ (cntR rows rows.length) = q at *
    have hl8 : aLen Try.prog 39 s h1 = some (.int .i64 (q : Nat)) := by
      rcases os with ⟨rfl | rfl, hcc⟩ | ⟨i0, len, cap, c0, ex, rfl, _, _, hlen2, _, _⟩
      · have : q = 0 := by cases q; rfl; simp [List.replicate_succ, celE] at hcc
        subst this
        exact aLen_snil kt_39
      · have : q = 0 := by cases q; rfl; simp [List.replicate_succ, celE] at hcc
        subst this
        exact aLen_z0 kt_39
      · rw [rows_len celE_len, List.length_replicate] at hlen2
        obtain rfl : len = q := by omega
        exact aLen_sl kt_39
    simp only [wpA_region, wpA_seq, wpA_cond, wpA_block, wpA_exit, wpA_loop, condI_false, seqQ_normal, seqQ_exit, blkQ_exit, endI_mk, goE, andThen_exit, goI_out, goI_ops, opsA_nil, opsA_cons, stepA_move, stepA_assign, stepA_binOp, stepA_len, thenV_some, eval_tmp, eval_const, put_some, aBin_lss, absV_int, absV_snil, Nat.reduceEqDiff, if_true, if_false, f8, f20, f21, c3, hl8]
    obtain ⟨h2, c48, k48⟩ := Cast.own (n := q) os (by rw [rows_len celE_len, List.length_replicate]) (by decide)
    have n2 := k48.n
    have gz2 := (k48.get (X + 1) (by omega) (fun hh => by have := ids _ hh; omega)).trans gz
    have gm2 := (k48.get (X + 2) (by omega) (fun hh => by have := ids _ hh; omega)).trans gm
    have kk2 : Keep h h2 none_ := k1.trans k48 fun j hj hh => by have := ids j hh; omega
    refine SWp.cast (CastF.slot (t := 48) (v := .imm q ((List.replicate q c).flatMap celE)) c48) ?_
    clear os ow ids k48 c48 gz gm ga
    have hqn : (if decide (n / 2 + 1 ≤ (q : Int)) = true then 0 else 0) = 0 := by split <;> rfl
    refine SWp.loopG (α := Nat × V) (fun x f h' => f 2 = .int .i64 n ∧ f 6 = .ptr (X + 1) 0 ∧ f 9 = .map (X + 2) ∧ f 13 = x.2 ∧ f 48 = .imm q ((List.replicate q c).flatMap celE) ∧ f 49 = .int .i64 (q : Nat) ∧ f 50 = .int .i64 (x.1 : Nat) ∧ x.1 ≤ q ∧
        Own h' 36 3 x.2 ((List.replicate (if decide (n / 2 + 1 ≤ (q : Int)) = true then x.1 else 0) c).flatMap celE) ∧ (∀ j, idOf x.2 = some j → X + 2 < j) ∧ h'.get (X + 1) = .cells [V.int .i64 0, .int .i64 0, .snil] 36 none ∧
        h'.get (X + 2) = .map (vtE (esV c q)) (clV q) ∧ X + 2 < h'.n ∧ Keep h h' none_) (fun x => q - x.1) (0, .snil)
      ⟨f2, f6, f9, rfl, rfl, rfl, rfl, Nat.zero_le _, by simp only [hqn]; exact Own.snil _ _ _, (fun j hj => by simp [idOf] at hj), gz2, gm2, by omega, kk2⟩ ?_
    clear gz2 gm2 kk2 n2
    rintro ⟨j, s2⟩ f h3 ⟨f2, f6, f9, f13, f48, f49, f50, hj, os, ids, gz, gm, hn3, k3⟩
    simp only at f13 f50 hj os ids
    refine wpI_sound (by kernel_rfl) ?_
    by_cases hlt : j < q
    · have c4 : decide ((j : Int) < ((q : Nat) : Int)) = true := decide_eq_true (by omega)
      have w2 : IntKind.i64.wrap (((j : Nat) : Int) + 1) = ((j + 1 : Nat) : Int) := by rw [Go.IntWalk.i64_in _ (by omega)]; omega
      have x0 := cel_ix (kk := .i64) (l := List.replicate q c) (k := j) (by rw [List.length_replicate]; exact hlt)
      rw [List.getElem_replicate, List.length_replicate, aIndexAddr_eq, ss_39] at x0
      have x0 : ixGo (some 3) none (.imm q ((List.replicate q c).flatMap celE)) (j : Int) = some (.at (celE c ++ ((List.replicate q c).drop (j + 1)).flatMap celE)) := x0
      have ld := cel_ld c
      have cc := cel_cells c
      have ldc := cel_ldc c
      have st := cel_store c
      obtain ⟨H4, hH4⟩ : ∃ y, y = h3.push (.cells (celE c) 36 none) := ⟨_, rfl⟩
      have k4 : Keep h3 H4 none_ := by rw [hH4]; exact Keep.push _ _ _
      have n4 : H4.n = h3.n + 1 := by rw [hH4]; rfl
      have g4 : H4.get h3.n = .cells (celE c) 36 none := by rw [hH4]; exact get_push_new
      have gz4 := (k4.get (X + 1) (by omega) (by simp [none_])).trans gz
      have gm4 := (k4.get (X + 2) (by omega) (by simp [none_])).trans gm
      have hlk := lookVt (esV c q) (voteF c) gm4
      rw [esV_get] at hlk
      simp only [wpA_skip, wpA_region, wpA_seq, wpA_cond, wpA_block, wpA_draw, condI_true, seqQ_normal, goI_out, goI_ops, opsA_nil, opsA_cons, stepA_alloc, stepA_load, stepA_store, stepA_binOp, stepA_indexAddr, thenV_some, thenH_some, thenS_some, eval_tmp, put_some, aBin_lss, aLoad_eq, loadGo_row, aPlace_at, aStore_eq, storeGo_ptr, aAlloc_eq, aIndexAddr_eq, get_push_new, set_push, Nat.reduceEqDiff, Option.map_some, if_true, if_false, as_39, lt_36, ss_39, zc_36, zt_36, f48, f49, f50, c4, x0, ld, cc, st]
      rw [← hH4]
      clear hH4
      refine SWp.drawnS none_ [] (.q 0 (.q 1 (.c 2 (.q 3 (.q 4 (.c 5 (.q 6 .done))))))) (by kernel_rfl) (by kernel_rfl) (by kernel_rfl) ?_
      simp only [siI_q, sqI_some, mOk_none', implies_true, qI_nil, qI_cons, thenQ_some, q_move, q_load, goI_mk, eval_tmp, put_some, put_none, aLoad_eq, loadGo_row, aPlace_ptr, dropC_cells, List.getElem?_cons_zero, List.getElem?_cons_succ, Nat.reduceEqDiff, Nat.zero_le, List.drop_zero, true_and, if_true, if_false, lt_36, f9, g4, ldc]
      refine siI_c rfl rfl rfl (fun h' _ => pVoteOf c h') ?_
      simp only [siI_q, sqI_some, mOk_none', implies_true, qI_nil, qI_cons, thenQ_some, q_move, q_lookup, goI_mk, eval_tmp, put_some, put_none, List.getElem?_cons_zero, List.getElem?_cons_succ, Nat.reduceEqDiff, true_and, if_true, if_false, f2, hlk]
      refine siI_c rfl rfl rfl (fun h' _ => pNeed n hn.1 (by omega) h') ?_
      by_cases hok : n / 2 + 1 ≤ (q : Int)
      · have c5 : decide (n / 2 + 1 ≤ (q : Int)) = true := decide_eq_true hok
        rw [if_pos c5] at os
        obtain ⟨s3, h5, ea, o5, k5, nw⟩ := app1Q (os.keep k4 (fun _ _ => by simp [none_])) (by rw [List.length_replicate]; omega) c
        rw [← List.replicate_succ'] at o5
        have ids5 : ∀ q, idOf s3 = some q → X + 2 < q := fun q hq => by
          rcases nw with nw | nw
          · exact ids q (by rw [← nw]; exact hq)
          · have := nw q hq; omega
        have n5 := k5.n
        simp only [siI_done, siI_q, sqI_some, mOk_none', implies_true, qI_nil, qI_cons, thenQ_some, q_binOp, wpA_region, wpA_cond, condI_true, seqQ_normal, blkQ_normal, endI_mk, andThen_normal, goI_out, goI_ops, goI_mk, opsA_nil, opsA_cons, stepA_move, stepA_assign, stepA_buildSlice, stepA_load, stepA_binOp, stepA_append, thenV_some, thenH_some, eval_tmp, eval_const, put_some, put_none, aBin_add, aBin_geq, absV_int, aLoad_eq, loadGo_row, aPlace_ptr, dropC_cells, List.getElem?_cons_zero, List.getElem?_cons_succ, Nat.reduceEqDiff, List.map_cons, List.map_nil, Nat.zero_le, List.drop_zero, true_and, if_true, if_false, lt_36, f13, f50, g4, ldc, c5, lit1q, ea, w2]
        exact hid_mk ⟨(j + 1, s3), ⟨f2, f6, f9, rfl, f48, f49, rfl, hlt, by simp only [c5, if_true]; exact o5, ids5, (k5.get (X + 1) (by omega) (fun hh => by have := ids _ hh; omega)).trans gz4, (k5.get (X + 2) (by omega) (fun hh => by have := ids _ hh; omega)).trans gm4, by omega, (k3.trans' k4).trans k5 fun q hq hh => by have := ids q hh; omega⟩, by simp only; omega⟩
      · have c5 : decide (n / 2 + 1 ≤ (q : Int)) = false := decide_eq_false hok
        simp only [siI_done, siI_q, sqI_some, mOk_none', implies_true, qI_nil, qI_cons, thenQ_some, q_binOp, wpA_skip, wpA_region, wpA_cond, condI_false, seqQ_normal, blkQ_normal, endI_mk, andThen_normal, goI_out, goI_ops, goI_mk, opsA_nil, opsA_cons, stepA_move, stepA_binOp, thenV_some, eval_tmp, eval_const, put_some, put_none, aBin_add, aBin_geq, absV_int, List.getElem?_cons_zero, List.getElem?_cons_succ, Nat.reduceEqDiff, true_and, if_true, if_false, f50, c5, w2]
        rw [c5] at os
        exact hid_mk ⟨(j + 1, s2), ⟨f2, f6, f9, f13, f48, f49, rfl, hlt, by simp only [c5]; exact os.keep k4 (fun _ _ => by simp [none_]), ids, gz4, gm4, by omega, k3.trans' k4⟩, by simp only; omega⟩
    · obtain rfl : j = q := by omega
      have c4 : decide (((j : Nat) : Int) < ((j : Nat) : Int)) = false := decide_eq_false (by omega)
      have hb := bestOwn os (by rw [List.length_replicate]; split <;> omega)
      simp only [wpA_region, wpA_seq, wpA_cond, wpA_exit, condI_false, seqQ_normal, seqQ_exit, blkQ_exit, endI_mk, goE, andThen_exit, goI_out, goI_ops, opsA_nil, opsA_cons, stepA_move, stepA_binOp, stepA_call, thenV_some, eval_tmp, eval_func, put_some, aBin_lss, Nat.reduceEqDiff, List.map_cons, List.map_nil, if_true, if_false, f13, f49, f50, c4]
      refine callI_of cal32 hb fun r h4 ⟨e4, k4⟩ => ?_
      subst e4
      have hD : (bestOf (List.replicate (if decide (n / 2 + 1 ≤ (j : Int)) = true then j else 0) c)).getD cel0 = (if decide (n / 2 + 1 ≤ (j : Int)) = true then c else cel0) ∧ decide (0 < (List.replicate (if decide (n / 2 + 1 ≤ (j : Int)) = true then j else 0) c).length) = decide (n / 2 + 1 ≤ (j : Int)) := by
        by_cases hok : n / 2 + 1 ≤ (j : Int)
        · have c5 : decide (n / 2 + 1 ≤ (j : Int)) = true := decide_eq_true hok
          obtain ⟨m, rfl⟩ : ∃ m, j = m + 1 := ⟨j - 1, by omega⟩
          rw [if_pos c5, best_same, c5]
          simp [c5]
        · have c5 : decide (n / 2 + 1 ≤ (j : Int)) = false := decide_eq_false hok
          rw [c5]
          simp [bestOf]
      rw [hD.1, hD.2]
      generalize hd : (if decide (n / 2 + 1 ≤ (j : Int)) = true then c else cel0) = d
      have hdl : d.by_.length ≤ 140737488355328 := by rw [← hd]; split; exact hcl; simp [cel0]
      generalize decide (n / 2 + 1 ≤ (j : Int)) = b at *
      have cc := cel_cells d
      have ldc := cel_ldc d
      have st := cel_store d
      have gz4 := (k4.get (X + 1) (by omega) (fun hh => by have := ids _ hh; omega)).trans gz
      have n4 := k4.n
      obtain ⟨H5, hH5⟩ : ∃ y, y = h4.push (.cells (celE d) 36 none) := ⟨_, rfl⟩
      have k5 : Keep h4 H5 none_ := by rw [hH5]; exact Keep.push _ _ _
      have g5 : H5.get h4.n = .cells (celE d) 36 none := by rw [hH5]; exact get_push_new
      have gz5 := (k5.get (X + 1) (by omega) (by simp [none_])).trans gz4
      simp only [wpA_region, wpA_seq, seqQ_normal, goI_out, goI_ops, opsA_nil, opsA_cons, stepA_move, stepA_assign, stepA_alloc, stepA_load, stepA_store, stepA_extract, thenV_some, thenH_some, thenS_some, extV_zero, extV_succ, eval_tmp, put_some, put_none, aLoad_eq, loadGo_row, aPlace_ptr, dropC_cells, aStore_eq, storeGo_ptr, aAlloc_eq, get_push_new, set_push, Nat.reduceEqDiff, Option.map_some, Nat.zero_le, List.drop_zero, if_true, if_false, lt_36, zc_36, zt_36, cc, st]
      rw [← hH5]
      clear hH5
      simp only [goI_ops, opsA_cons, stepA_call, thenV_some, eval_tmp, put_some, put_none, Nat.reduceEqDiff, List.map_cons, List.map_nil, if_true, if_false, ldc]
      refine callI_pure cal34 (pOwn d hdl H5) ?_
      simp only [wpA_ret, seqQ_normal, endI_mk, goI_out, goI_ops, opsA_nil, opsA_cons, stepA_move, stepA_assign, stepA_store, thenS_some, eval_tmp, put_some, put_none, aLoad_eq, loadGo_row, aPlace_ptr, dropC_cells, aStore_eq, storeGo_ptr, get_set_same, Nat.reduceEqDiff, Option.map_some, Nat.zero_le, List.drop_zero, if_true, if_false, lt_36, zt_36, f6, cc, st, ldc, gz5, retA_ret, Try.results22, resultsC_2, resultA_tmp, resultA_cell, res2_some]
      exact hid_mk ⟨_, _, Cast.refl _ _, rfl, (((k3.trans k4 fun q hq hh => by have := ids q hh; omega).trans' k5).trans (Keep.set _ (X + 1) _) fun q hq hh => by omega)⟩
end Go.Proofs.Ytmgjjhpkhjebbaa.Pk
