/-
  What functions of the program do, told of abstract states. Conditions: as each theorem says.
-/
import Derived.Test.YtecabknnggamhaaKvI
namespace Go.Proofs.Ytecabknnggamhaa.Pk
open Go Go.Proofs Go.Proofs.Ytecabknnggamhaa.Ab
set_option linter.unusedVariables false
set_option linter.unusedSimpArgs false

/-- Two stores that share nothing. -/
structure Apart (i : Nat) (v : V) (j : Nat) (u : V) : Prop where
  ne : i ≠ j
  vj : idOf v ≠ some j
  ui : idOf u ≠ some i
  vu : ∀ k, idOf v = some k → idOf u ≠ some k
theorem Apart.symm {i j : Nat} {v u : V} (a : Apart i v j u) : Apart j u i v := ⟨a.ne.symm, a.ui, a.vj, fun k hk hv => a.vu k hv hk⟩
theorem Apart.keep {h h' : AHeap} {i j : Nat} {v u : V} {room : Int} {m : List Pr} (a : Apart i v j u) (k : IsKv h j u room m) (hk : Keep h h' (kvO i v)) : IsKv h' j u room m :=
  k.keep hk (fun hh => by
    rcases hh with hh | hh
    · exact a.ne hh.symm
    · exact a.vj hh) fun q hq hh => by
    rcases hh with hh | hh
    · exact a.ui (by rw [hq, hh])
    · exact a.vu q hh hq
theorem Apart.step {h : AHeap} {i j : Nat} {v v' u : V} {room : Int} {m : List Pr} (a : Apart i v j u) (k : IsKv h j u room m) (d : NewOr h v v') : Apart i v' j u := by
  rcases d with d | d
  · exact ⟨a.ne, by rw [d]; exact a.vj, a.ui, fun q hq => a.vu q (by rw [← d]; exact hq)⟩
  · exact ⟨a.ne, fun hh => by have := d j hh; have := k.lt; omega, a.ui, fun q hq hu => by have := d q hq; have := k.own.lt q hu; omega⟩
def i16V (l : List Int) : List V := l.map (V.int .i16)
theorem i16_ix {l : List Int} {k : Nat} (hk : k < l.length) : ∃ r, aIndexAddr Try.prog 22 (.imm l.length (i16V l)) (.int .i64 (k : Int)) = some (.at (.int .i16 l[k] :: r)) := ⟨_, row_ix (V.int .i16) hk ss_22⟩
theorem mem_take_succ {l : List Int} {i : Nat} (hi : i < l.length) (x : Int) : x ∈ l.take (i + 1) ↔ x ∈ l.take i ∨ x = l[i] := by rw [List.take_succ_eq_append_getElem hi, List.mem_append, List.mem_singleton]
theorem kv_ext {a b : List Pr} (ha : Srt a) (hb : Srt b) (m : List Int) (g : Int → Int) (h1 : ∀ x, look a x = if x ∈ m then some (g x) else none) (h2 : ∀ x, look b x = if x ∈ m.reverse then some (g x) else none) : a = b :=
  srt_ext ha hb fun x => by rw [h1, h2]; simp
set_option maxHeartbeats 4000000 in
set_option maxRecDepth 10000 in
theorem kvOrderM (m : List Int) (val : Int) (hm : m.length ≤ 300) (h1 : AHeap) (i j : Nat) (k1 : IsKv h1 i .snil 1024 []) (k2 : IsKv h1 j .snil 1024 []) (hij : i ≠ j) (hw16 : ∀ n ∈ m, -32768 ≤ n ∧ n < 32768) : True := trivial
set_option maxHeartbeats 4000000 in
set_option maxRecDepth 10000 in
theorem kvOrder (ks : List Int) (val : Int) (hl : ks.length < 2 ^ 47) (h16 : ∀ n ∈ ks, -32768 ≤ n ∧ n < 32768) (h : AHeap) : SCalls Try.prog 3 [.imm ks.length (i16V ks), .int .i64 val] h (fun r h' => r = .bool true) := by
  refine SCalls.enterI (c := _) Try.func3 rfl (by kernel_rfl) (by simp) ?_
  simp only [wpA_region, wpA_seq, seqQ_normal, goI_out, goI_ops, opsA_nil, opsA_cons, stepA_assign, stepA_call, eval_const, absV_bool, List.map_nil]
  refine callI_pure cal15 (pShown12 h) ?_
  simp only [wpA_region, wpA_seq, seqQ_normal, goI_out, goI_ops, opsA_nil, opsA_cons, stepA_assign, stepA_call, eval_tmp, eval_const, put_some, enterF_succ, absV_int, Nat.reduceEqDiff, List.map_cons, List.map_nil, if_true, if_false]
  refine callI_of cal16 (kvNew h 1024 (by decide) (by decide)) fun r h1 ⟨e1, k1, p1⟩ => ?_
  subst e1
  simp only [wpA_region, wpA_seq, seqQ_normal, goI_out, goI_ops, opsA_nil, opsA_cons, stepA_move, stepA_assign, stepA_extract, stepA_call, thenV_some, extV_zero, extV_succ, eval_tmp, eval_const, put_some, enterF_succ, absV_int, Nat.reduceEqDiff, List.map_cons, List.map_nil, if_true, if_false]
  refine callI_of cal16 (kvNew h1 1024 (by decide) (by decide)) fun r h2 ⟨e2, k2, p2⟩ => ?_
  subst e2
  have k1' := k1.keepN p2
  have ap : Apart h.n .snil h1.n .snil := ⟨by have := k1.lt; omega, by simp [idOf], by simp [idOf], by simp [idOf]⟩
  generalize h.n = i at k1' ap
  generalize h1.n = j at k2 ap
  have cc := chg_cells
  have st := chg_store
  have hcut : ∃ m : List Int, m = ks.take 300 := ⟨_, rfl⟩
  obtain ⟨m, hm⟩ := hcut
  have hml : m.length ≤ 300 := by rw [hm, List.length_take]; omega
  have hm16 : ∀ n ∈ m, -32768 ≤ n ∧ n < 32768 := fun n hn => h16 n (by rw [hm] at hn; exact List.mem_of_mem_take hn)
  have hor : ((300 < ks.length) ∨ (¬ 300 < ks.length ∧ ks = m)) := by
    by_cases hc : 300 < ks.length
    · exact .inl hc
    · exact .inr ⟨hc, by rw [hm, List.take_of_length_le (by omega)]⟩
  rcases hor with hc | ⟨hc, hkm⟩
  all_goals
    first
    | (have d1 : decide ((300 : Int) < ((ks.length : Nat) : Int)) = true := decide_eq_true (by omega)
       have s1 : aSlice Try.prog 22 (.imm ks.length (i16V ks)) none (some (.int .i64 300)) none = some (.imm m.length (i16V m)) := by
        have := slice_imm_hi (P := Try.prog) (t := 22) (n := ks.length) (cs := i16V ks) (k := .i64) (m := 300) ss_22 (by decide) (by omega) (by simp [i16V])
        rw [this, hm]
        simp [i16V]
        omega
       simp only [wpA_skip, wpA_region, wpA_seq, wpA_cond, wpA_block, wpA_loop, condI_true, condI_false, seqQ_normal, goI_out, goI_ops, opsA_nil, opsA_cons, opsA_guardS, gvI_same, slotAt_zero, slotAt_succ, stepA_move, stepA_assign, stepA_pick, stepA_binOp, stepA_slice, stepA_extract, stepA_len, thenV_some, pickV_false, extV_zero, extV_succ, eval_tmp, eval_const, put_some, enterF_zero, enterF_succ, aBin_neq, aBin_gtr, ptr_nil_eql, absV_int, absV_bool, absV_pnil, aLen_imm, bne_self_eq_false, Nat.reduceEqDiff, reduceCtorEq, Option.map_some, Option.map_none, if_true, if_false, kt_22, kt_24, d1, s1])
    | (have d1 : decide ((300 : Int) < ((ks.length : Nat) : Int)) = false := decide_eq_false (by omega)
       rw [hkm] at d1
       simp only [wpA_skip, wpA_region, wpA_seq, wpA_cond, wpA_block, wpA_loop, condI_false, seqQ_normal, goI_out, goI_ops, opsA_nil, opsA_cons, opsA_guardS, gvI_same, slotAt_zero, slotAt_succ, stepA_move, stepA_assign, stepA_pick, stepA_binOp, stepA_extract, stepA_len, thenV_some, pickV_false, extV_zero, extV_succ, eval_tmp, eval_const, put_some, enterF_zero, enterF_succ, aBin_neq, aBin_gtr, ptr_nil_eql, absV_int, absV_bool, absV_pnil, aLen_imm, bne_self_eq_false, Nat.reduceEqDiff, reduceCtorEq, if_true, if_false, kt_22, kt_24, hkm, d1])
    refine SWp.loopG (α := Nat × V × List Pr × V × List Pr) (fun x f h' => f 1 = .int .i64 val ∧ f 5 = .bool true ∧ f 6 = .ptr i 0 ∧ f 8 = .ptr j 0 ∧ f 10 = .imm m.length (i16V m) ∧ f 11 = .int .i64 (x.1 : Nat) ∧ x.1 ≤ m.length ∧
        IsKv h' i x.2.1 1024 x.2.2.1 ∧ IsKv h' j x.2.2.2.1 1024 x.2.2.2.2 ∧ Apart i x.2.1 j x.2.2.2.1 ∧ x.2.2.1.length ≤ x.1 ∧ x.2.2.2.2.length ≤ x.1 ∧
        (∀ y, look x.2.2.1 y = if y ∈ m.take x.1 then some (IntKind.i64.wrap (val + y)) else none) ∧ ∀ y, look x.2.2.2.2 y = if y ∈ m.reverse.take x.1 then some (IntKind.i64.wrap (val + y)) else none) (fun x => m.length - x.1) (0, .snil, [], .snil, [])
      ⟨rfl, rfl, rfl, rfl, rfl, rfl, Nat.zero_le _, k1', k2, ap, Nat.zero_le _, Nat.zero_le _, fun y => by simp [look], fun y => by simp [look]⟩ ?_
    rintro ⟨t, v, a, u, b⟩ f h' ⟨f1, f5, f6, f8, f10, f11, ht, ka, kb, apt, la, lb, ha, hb⟩
    simp only at f11 ht ka kb apt la lb ha hb
    refine wpI_sound (by kernel_rfl) ?_
    by_cases hlt : t < m.length
    · have d2 : decide ((t : Int) < ((m.length : Nat) : Int)) = true := decide_eq_true (by omega)
      have hw := inc64 hlt (by omega)
      have w1 : IntKind.i64.wrap (((m.length : Nat) : Int) - 1) = ((m.length - 1 : Nat) : Int) := by rw [Go.IntWalk.i64_in _ (by omega)]; omega
      have w2 : IntKind.i64.wrap (((m.length - 1 : Nat) : Int) - (t : Int)) = ((m.length - 1 - t : Nat) : Int) := by rw [Go.IntWalk.i64_in _ (by omega)]; omega
      obtain ⟨r1, x1⟩ := i16_ix hlt
      obtain ⟨r2, x2⟩ := i16_ix (l := m) (k := m.length - 1 - t) (by omega)
      have g1 := mem_take_succ hlt
      have g2 := mem_take_succ (l := m.reverse) (i := t) (by rw [List.length_reverse]; exact hlt)
      rw [List.getElem_reverse] at g2
      have q1 := hm16 _ (List.getElem_mem hlt)
      have q2 := hm16 _ (List.getElem_mem (show m.length - 1 - t < m.length by omega))
      generalize m[t] = y1 at x1 g1 q1
      generalize m[m.length - 1 - t] = y2 at x2 g2 q2
      have c1 : IntKind.i64.wrap y1 = y1 := Go.IntWalk.i64_in _ (by omega)
      have c2 : IntKind.i64.wrap y2 = y2 := Go.IntWalk.i64_in _ (by omega)
      simp only [wpA_skip, wpA_region, wpA_seq, wpA_cond, wpA_block, wpA_draw, condI_true, seqQ_normal, goI_out, goI_ops, opsA_nil, opsA_cons, stepA_move, stepA_assign, stepA_load, stepA_binOp, stepA_indexAddr, stepA_len, thenV_some, eval_tmp, eval_const, put_some, aBin_sub, aBin_lss, absV_int, aLoad_eq, loadGo_one, aPlace_at, aLen_imm, Nat.reduceEqDiff, if_true, if_false, kt_22, lt_28, f10, f11, d2, w1, w2, x2]
      obtain ⟨_, p2, p3, _⟩ := putL_room (k := y1) (show (a.length : Int) < 1024 by omega) (IntKind.i64.wrap (val + y1))
      have sa : Srt (put a y1 (IntKind.i64.wrap (val + y1))) := srt_put ka.srt _ _
      have la2 := len_put_le ka.srt y1 (IntKind.i64.wrap (val + y1))
      refine SWp.cut (fun f h3 => f 1 = .int .i64 val ∧ f 5 = .bool true ∧ f 6 = .ptr i 0 ∧ f 8 = .ptr j 0 ∧ f 10 = .imm m.length (i16V m) ∧ f 11 = .int .i64 (t : Nat) ∧ f 12 = .int .i16 y2 ∧ f 14 = .int .i64 0 ∧
        ∃ v2, IsKv h3 i v2 1024 (put a y1 (IntKind.i64.wrap (val + y1))) ∧ IsKv h3 j u 1024 b ∧ Apart i v2 j u) ?_ ?_
      · refine SWp.drawnS (fun q => kvO i v q) [13, 17, 18] (.q 0 (.q 1 (.q 2 (.q 3 (.q 4 (.q 5 (.q 6 (.q 7 (.q 8 (.q 9 (.q 10 (.q 11 (.q 12 (.e 13 (.q 14 (.q 15 (.q 16 (.e 17 (.e 18 (.q 19 .done) .stop) .stop)))) (.e 17 (.e 13 (.q 14 (.q 15 (.q 16 (.e 18 (.q 19 .done) .stop)))) .stop) .stop))))))))))))))) (by kernel_rfl) (by kernel_rfl) (by kernel_rfl) ?_
        simp only [mOk_move, mOk_binOp, mOk_indexAddr, mOk_load, mOk_convert, mOkV_at, mOkV_int, nne2, nne3, nne4, nne1', nne2', nne3', siI_stop, siI_q, siI_e, sqI_some, seI_some, keepT1, implies_true, qI_nil, qI_cons, thenQ_some, q_move, q_load, q_binOp, q_convert, q_indexAddr, goI_ops, goI_mk, opsA_nil, opsA_cons, stepA_alloc, stepA_call, thenH_some, eval_tmp, put_some, aBin_add, aLoad_eq, loadGo_one, aPlace_at, aAlloc_eq, List.getElem?_cons_zero, List.getElem?_cons_succ, Nat.reduceEqDiff, List.map_cons, List.map_nil, Option.map_some, and_true, true_and, if_true, if_false, lt_28, zc_30, f1, f6, f10, f11, x1, aConv_int it_28 it_2, c1]
        refine ⟨?_, ?_⟩
        · refine callI_of cal17 (kvPut h' i v _ y1 _ a ka) fun r h3 ⟨v2, e3, k3, kp3, d3⟩ => ?_
          subst e3
          rw [p2] at k3
          have kbb := apt.keep kb kp3
          have kB : Keep h' (h3.push (.cells [.int .i64 0, .int .i64 0, .int .i64 0, .int .i64 0, .bool false] 30 none)) (fun q => kvO i v q) := kp3.then_push _
          have kC : Keep h' (h3.push (.cells (chgE (putX 1024 a y1 (IntKind.i64.wrap (val + y1)))) 30 none)) (fun q => kvO i v q) := kp3.then_push _
          simp only [mOk_move, mOk_assign, mOk_extract, nne2, nne3, nne4, nne1', nne2', nne3', siI_done, siI_stop, siI_q, siI_e, sqI_some, seI_some, implies_true, qI_nil, qI_cons, thenQ_some, q_move, q_assign, q_extract, endI_mk, goI_out, goI_ops, goI_mk, opsA_nil, opsA_cons, stepA_alloc, stepA_store, thenH_some, thenS_some, extV_zero, extV_succ, eval_tmp, put_some, put_none, aStore_eq, storeGo_ptr, aAlloc_eq, get_push_new, set_push, List.getElem?_cons_zero, List.getElem?_cons_succ, Bool.false_eq_true, Nat.reduceEqDiff, Option.map_some, and_true, true_and, if_true, if_false, zc_30, zt_30, p3, cc, st, kp3, kB, kC]
          exact hid_mk ⟨rfl, f1, f5, f6, f8, f10, f11, rfl, rfl, v2, k3.keepN (Keep.push _ _ _), kbb.keepN (Keep.push _ _ _), apt.step kb d3⟩
        · have kA : Keep h' (h'.push (.cells [.int .i64 0, .int .i64 0, .int .i64 0, .int .i64 0, .bool false] 30 none)) none_ := Keep.push _ _ _
          have gA : (h'.push (.cells [.int .i64 0, .int .i64 0, .int .i64 0, .int .i64 0, .bool false] 30 none)).get h'.n = .cells [.int .i64 0, .int .i64 0, .int .i64 0, .int .i64 0, .bool false] 30 none := get_push_new
          have nA : (h'.push (.cells [.int .i64 0, .int .i64 0, .int .i64 0, .int .i64 0, .bool false] 30 none)).n = h'.n + 1 := rfl
          have kaA := ka.keepN kA
          have kbA := kb.keepN kA
          generalize h'.push (.cells [.int .i64 0, .int .i64 0, .int .i64 0, .int .i64 0, .bool false] 30 none) = hA at kA gA nA kaA kbA
          refine callI_of cal17 (kvPut hA i v _ y1 _ a kaA) fun r h3 ⟨v2, e3, k3, kp3, d3⟩ => ?_
          subst e3
          rw [p2] at k3
          have kbb := apt.keep kbA kp3
          have hvn : ¬ kvO i v h'.n := fun hh => by
            rcases hh with hh | hh
            · have := ka.lt; omega
            · have := ka.own.lt _ hh; omega
          have gB := (kp3.get h'.n (by omega) hvn).trans gA
          have kB : Keep h' h3 (fun q => kvO i v q) := (kA.up).trans' kp3
          have kS : Keep h3 (h3.set h'.n (.cells (chgE (putX 1024 a y1 (IntKind.i64.wrap (val + y1)))) 30 none)) (fun q => q = h'.n) := Keep.set _ _ _
          have kC : Keep h' (h3.set h'.n (.cells (chgE (putX 1024 a y1 (IntKind.i64.wrap (val + y1)))) 30 none)) (fun q => kvO i v q) := kB.trans kS fun q hq hh => by omega
          have hv2 : ∀ q, idOf v2 = some q → q ≠ h'.n := fun q hq hh => by
            rcases d3 with d3 | d3
            · rw [d3] at hq; have := ka.own.lt q hq; omega
            · have := d3 q hq; omega
          simp only [mOk_move, mOk_assign, mOk_extract, nne2, nne3, nne4, nne1', nne2', nne3', siI_done, siI_stop, siI_q, siI_e, sqI_some, seI_some, implies_true, qI_nil, qI_cons, thenQ_some, q_move, q_assign, q_extract, endI_mk, goI_out, goI_ops, goI_mk, opsA_nil, opsA_cons, stepA_store, thenS_some, extV_zero, extV_succ, eval_tmp, put_some, put_none, aStore_eq, storeGo_ptr, List.getElem?_cons_zero, List.getElem?_cons_succ, Bool.false_eq_true, Nat.reduceEqDiff, Option.map_some, and_true, true_and, if_true, if_false, zt_30, p3, cc, st, gB, kB, kC]
          exact hid_mk ⟨rfl, f1, f5, f6, f8, f10, f11, rfl, rfl, v2, k3.keep kS (by have := ka.lt; omega) hv2, kbb.keep kS (by have := kb.lt; omega) fun q hq hh => by have := kb.own.lt q hq; omega, apt.step kbA d3⟩
      · clear f1 f5 f6 f8 f10 f11
        rintro f h3 ⟨f1, f5, f6, f8, f10, f11, f12, f14, v2, k3, k3b, apt2⟩
        obtain ⟨_, p2b, p3b, _⟩ := putL_room (k := y2) (show (b.length : Int) < 1024 by omega) (IntKind.i64.wrap (val + y2))
        have lb2 := len_put_le kb.srt y2 (IntKind.i64.wrap (val + y2))
        simp only [wpA_region, wpA_seq, seqQ_normal, goI_ops, opsA_cons, stepA_move, stepA_binOp, stepA_convert, stepA_call, thenV_some, eval_tmp, put_some, aBin_add, Nat.reduceEqDiff, List.map_cons, List.map_nil, if_true, if_false, f1, f8, f12, aConv_int it_28 it_2, c2]
        refine callI_of cal17 (kvPut h3 j u _ y2 _ b k3b) fun r h4 ⟨u2, e4, k4, kp4, d4⟩ => ?_
        subst e4
        rw [p2b] at k4
        have k4a := apt2.symm.keep k3 kp4
        simp only [wpA_skip, wpA_region, wpA_seq, wpA_cond, condI_false, seqQ_normal, blkQ_normal, endI_mk, andThen_normal, goI_out, goI_ops, opsA_nil, opsA_cons, opsA_guardS, gvI_same, slotAt_zero, slotAt_succ, stepA_move, stepA_assign, stepA_pick, stepA_alloc, stepA_store, stepA_binOp, stepA_extract, thenV_some, thenH_some, thenS_some, pickV_false, extV_zero, extV_succ, eval_tmp, eval_const, put_some, put_none, aBin_add, aBin_neq, absV_int, absV_bool, aStore_eq, storeGo_ptr, aAlloc_eq, get_push_new, set_push, bne_self_eq_false, Nat.reduceEqDiff, Option.map_some, if_true, if_false, zc_30, zt_30, f11, f14, p3b, cc, st, hw]
        refine hid_mk ⟨(t + 1, v2, put a y1 (IntKind.i64.wrap (val + y1)), u2, put b y2 (IntKind.i64.wrap (val + y2))), ⟨f1, f5, f6, f8, f10, rfl, hlt, k4a.keepN (Keep.push _ _ _), k4.keepN (Keep.push _ _ _), (apt2.symm.step k3 d4).symm, by simp only; omega, by simp only; omega, fun y => ?_, fun y => ?_⟩, by simp only; omega⟩
        · simp only
          rw [look_put a y1 _ y ka.srt, ha]
          by_cases hy : y = y1
          · rw [if_pos hy, if_pos ((g1 y).2 (.inr hy)), hy]
          · rw [if_neg hy]
            by_cases hy2 : y ∈ m.take t
            · rw [if_pos hy2, if_pos ((g1 y).2 (.inl hy2))]
            · rw [if_neg hy2, if_neg fun hh => by rcases (g1 y).1 hh with hh | hh; exact hy2 hh; exact hy hh]
        · simp only
          rw [look_put b y2 _ y kb.srt, hb]
          by_cases hy : y = y2
          · rw [if_pos hy, if_pos ((g2 y).2 (.inr hy)), hy]
          · rw [if_neg hy]
            by_cases hy2 : y ∈ m.reverse.take t
            · rw [if_pos hy2, if_pos ((g2 y).2 (.inl hy2))]
            · rw [if_neg hy2, if_neg fun hh => by rcases (g2 y).1 hh with hh | hh; exact hy2 hh; exact hy hh]
    · have d2 : decide ((t : Int) < ((m.length : Nat) : Int)) = false := decide_eq_false (by omega)
      obtain rfl : t = m.length := by omega
      rw [List.take_length] at ha
      rw [List.take_of_length_le (by simp)] at hb
      have hab : a = b := kv_ext ka.srt kb.srt m (fun y => IntKind.i64.wrap (val + y)) ha hb
      subst hab
      simp only [wpA_region, wpA_seq, wpA_cond, wpA_exit, condI_false, seqQ_normal, seqQ_exit, blkQ_exit, endI_mk, goE, andThen_exit, goI_out, goI_ops, opsA_nil, opsA_cons, opsA_guardS, gvI_same, slotAt_zero, slotAt_succ, stepA_move, stepA_binOp, stepA_len, stepA_call, thenV_some, eval_tmp, put_some, aBin_lss, aLen_imm, Nat.reduceEqDiff, List.map_cons, List.map_nil, if_true, if_false, kt_22, f5, f6, f10, f11, d2]
      refine callI_pure cal19 (kvList h' i v _ a ka) ?_
      simp only [goI_ops, opsA_guardS, gvI_same, slotAt_zero, slotAt_succ, stepA_move, stepA_call, eval_tmp, put_some, Nat.reduceEqDiff, List.map_cons, List.map_nil, if_true, if_false, f8]
      refine callI_pure cal19 (kvList h' j u _ a kb) ?_
      simp only [goI_ops, opsA_guardS, gvI_same, slotAt_zero, slotAt_succ, stepA_call, eval_tmp, put_some, Nat.reduceEqDiff, List.map_cons, List.map_nil, if_true, if_false]
      refine callI_pure cal18 (pChgsEq (listC a) (listC a) h' (by simp [listC]; omega)) ?_
      simp only [wpA_ret, seqQ_normal, endI_mk, goI_out, goI_ops, opsA_nil, opsA_cons, stepA_assign, stepA_pick, thenV_some, pickV_true, eval_tmp, eval_const, put_some, absV_bool, decide_true, Nat.reduceEqDiff, if_true, if_false, decide_true, retA_ret, Try.results3, resultsA_1]
      exact hid_mk rfl
end Go.Proofs.Ytecabknnggamhaa.Pk
