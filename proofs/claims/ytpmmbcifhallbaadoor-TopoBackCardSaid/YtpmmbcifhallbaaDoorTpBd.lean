/-
  What functions of the program do, told of abstract states. Conditions: as each theorem says.
-/
import Derived.Test.YtpmmbcifhallbaaDoorTpBc
namespace Go.Proofs.YtpmmbcifhallbaaDoor.Pk
open Go Go.Proofs Go.Proofs.YtpmmbcifhallbaaDoor.Ab
set_option linter.unusedVariables false
set_option linter.unusedSimpArgs false
theorem litX1 (h : AHeap) (v : Vx) : aBuildSlice Tryd.prog 22 1 [(0, .agg (encX v))] h = some (.sl h.n 0 1 1, h.push (.cells (encX v) 47 none)) := by
  rw [encX_eq, buildSlice_go sl_22]; rfl
theorem app1X {h : AHeap} {s : V} {cs : List Vx} (o : Own h 47 6 s (cs.flatMap encX)) (hl : cs.length ≤ 2 ^ 40) (c : Vx) :
    ∃ s' h', aAppend Tryd.prog 22 22 s (.sl h.n 0 1 1) (h.push (.cells (encX c) 47 none)) = some (s', h') ∧ Own h' 47 6 s' ((cs ++ [c]).flatMap encX) ∧ Keep h h' (isId s) ∧ NewOr h s s' := by
  have kp : Keep h (h.push (.cells (encX c) 47 none)) none_ := Keep.push _ _ _
  have oj : Own (h.push (.cells (encX c) 47 none)) 47 6 (.sl h.n 0 1 1) (encX c) := Own.fresh' (encX c) 1 (encX_len c) (by decide)
  have hsrc := own_src (P := Tryd.prog) (t := 22) kt_22 oj (n := 1) (encX_len c) (by decide) (encX_one c)
  obtain ⟨s', h', ea, oa, ka, na⟩ := append_ownM (P := Tryd.prog) (t := 22) (tx := 22) sl_22 (by decide) (o.keepN kp) hsrc (encX_len c) (fun m hm => by
    change m * 6 = _ at hm
    rw [rows_len encX_len, encX_len] at hm
    exact ⟨by simp only [lim]; omega, by simp only [lim]; omega⟩)
  refine ⟨s', h', ea, ?_, (kp.up).trans' ka, ?_⟩
  · rw [List.flatMap_append]
    simpa using oa
  · rcases na with na | na
    · exact .inl na
    · exact .inr fun q hq => Nat.le_trans kp.n (na q hq)
theorem zeroC24 (h : AHeap) (c : Nat) : Cast (.tuple [.agg [.snil, .int .i64 0], .int .i64 (c : Nat)]) h (.tuple [.agg (topE [] 0), .int .i64 (c : Nat)]) h :=
  Cast.tuple (CastL.cons (Pk.Cast.agg (CastL.cons (Cast.nil0 h) (CastL.refl _ _))) (CastL.refl _ _))
theorem castT {h : AHeap} {s : V} {l : List Vx} (p : Int) (o : Own h 47 6 s (l.flatMap encX)) : ∃ h2, Cast (.agg [s, .int .i64 p]) h (.agg (topE l p)) h2 ∧ Keep h h2 (isId s) := by
  obtain ⟨h2, c, k⟩ := Cast.own (n := l.length) o (rows_len encX_len l) (by decide)
  exact ⟨h2, Pk.Cast.agg (CastL.cons c (CastL.refl _ _)), k⟩
theorem rdV_err {bs : List Nat} {c : Nat} (h : rdV bs = .error c) : c ≠ 0 := by
  unfold rdV at h
  split at h
  · injection h with h; omega
  unfold rdV1 at h
  split at h
  · injection h with h; omega
  unfold rdV2 at h
  split at h
  · injection h with h; omega
  unfold rdV3 at h
  split at h
  · injection h with h; omega
  split at h
  · cases h
  split at h
  · injection h with h; omega
  · cases h
theorem goVs_error {m : Nat} {bs : List Nat} {acc : List Vx} {c : Nat} (h : rdV bs = .error c) : goVs (m + 1) bs acc = .error c := by unfold goVs; rw [h]
set_option maxHeartbeats 4000000 in
set_option maxRecDepth 10000 in
theorem pRead (i : Nat) (bs : List Nat) (h : AHeap) (hg : KG h) (hr : IsRd h (.ptr i 0) i bs) (hb : ∀ b ∈ bs, b < 256) (hc : bs.length ≤ 2 ^ 47) :
    SCalls Tryd.prog 49 [.ptr i 0] h (fun r h' => r = tV (rdT bs) ∧ Keep h h' (· = i) ∧ ∀ p l b', rdT bs = .ok (p, l, b') → IsRd h' (.ptr i 0) i b') := by
  refine SCalls.cast ?_
  refine SCalls.enterI (c := _) Tryd.func49 rfl (by kernel_rfl) (by simp) ?_
  have hin := hr.2.1
  obtain ⟨H0, hH0⟩ : ∃ y, y = h.push (.cells [V.snil, .int .i64 0] 24 none) := ⟨_, rfl⟩
  have k00 : Keep h H0 none_ := by rw [hH0]; exact Keep.push _ _ _
  have k0 : Keep h H0 (· = i) := k00.up
  have g0 : H0.get h.n = .cells [V.snil, .int .i64 0] 24 none := by rw [hH0]; exact get_push_new
  have n0 : H0.n = h.n + 1 := by rw [hH0]; rfl
  have r0 := IsRd.keep hr k00 (by simp [none_])
  have stz : setC (some 2) (AObj.cells [V.snil, .int .i64 0] 24 none) 0 [V.snil, .int .i64 0] = some (.cells [V.snil, .int .i64 0] 24 none) := rfl
  have z0 : (((0 : Nat) : Int) != 0) = false := rfl
  simp only [wpA_region, wpA_seq, seqQ_normal, goI_out, goI_ops, opsA_nil, opsA_cons, stepA_move, stepA_assign, stepA_alloc, stepA_call, thenH_some, eval_tmp, eval_const, put_some, enterF_zero, enterF_succ, absV_int, aAlloc_eq, Nat.reduceEqDiff, reduceCtorEq, List.map_cons, List.map_nil, Option.map_some, if_true, if_false, zc_24]
  rw [← hH0]
  clear hH0
  refine callI_of cal69 (pNum i bs H0 r0 hb (by omega)) fun r H1 ⟨e1, r1, k1⟩ => ?_
  subst e1
  have s1 : Sub (bs.drop (dec bs 0 0).2.1) bs := Sub.drop _ _
  have g1 := (k1.get h.n (by omega) (by omega)).trans g0
  have kk1 := k0.trans' k1
  have n1 := k1.n
  by_cases e1 : (dec bs 0 0).2.2 = 0
  rotate_left
  · have c1 : (((dec bs 0 0).2.2 : Int) != 0) = true := by simp; omega
    have hV : rdT bs = .error (dec bs 0 0).2.2 := by unfold rdT; rw [if_pos e1]
    simp only [wpA_region, wpA_seq, wpA_cond, wpA_ret, condI_true, seqQ_normal, seqQ_ret, endI_mk, goI_out, goI_ops, opsA_nil, opsA_cons, stepA_move, stepA_assign, stepA_build, stepA_store, stepA_binOp, stepA_extract, thenV_some, thenS_some, extV_zero, extV_succ, eval_tmp, eval_const, put_some, put_none, enterF_succ, aBin_neq, absV_int, cells_agg, aLoad_eq, loadGo_row, aPlace_ptr, dropC_cells, aStore_eq, storeGo_ptr, aBuild_go, aFill_nil, buildGo_struct, get_set_same, Nat.reduceEqDiff, Nat.reduceAdd, List.map_nil, Option.map_some, Nat.zero_add, Nat.zero_le, List.length_cons, List.length_nil, List.drop_zero, List.take_succ_cons, List.take_nil, if_true, if_false, Nat.le_refl, lt_24, pl_24, zc_24, zt_24, c1, g1, stz, retA_ret, Tryd.results49, resultsC_2, resultA_tmp, resultA_cell, res2_some]
    rw [hV]
    exact hid_mk ⟨_, _, zeroC24 _ _, rfl, kk1.trans (Keep.set _ h.n _) fun q hq hh => by omega, fun p l b' hh => by cases hh⟩
  have hV0 : rdT bs = rdT1 (min (dec bs 0 0).1 1000) (bs.drop (dec bs 0 0).2.1) := by unfold rdT; rw [if_neg (by omega)]
  rw [e1] at *
  rw [hV0]
  generalize min (dec bs 0 0).1 1000 = P at *
  generalize bs.drop (dec bs 0 0).2.1 = b1 at *
  clear hV0
  simp only [wpA_skip, wpA_region, wpA_seq, wpA_cond, condI_false, seqQ_normal, goI_out, goI_ops, opsA_nil, opsA_cons, stepA_move, stepA_assign, stepA_binOp, stepA_extract, stepA_call, thenV_some, extV_zero, extV_succ, eval_tmp, eval_const, put_some, enterF_zero, enterF_succ, aBin_neq, absV_int, Nat.reduceEqDiff, reduceCtorEq, List.map_cons, List.map_nil, if_true, if_false, z0]
  refine callI_of cal69 (pNum i b1 H1 r1 (s1.lt hb) (by have := s1.2; omega)) fun r H2 ⟨e2, r2, k2⟩ => ?_
  subst e2
  have s2 := (Sub.drop b1 (dec b1 0 0).2.1).trans s1
  have g2 := (k2.get h.n (by omega) (by omega)).trans g1
  have kk2 := kk1.trans' k2
  have n2 := k2.n
  by_cases e2 : (dec b1 0 0).2.2 = 0
  rotate_left
  · have c1 : (((dec b1 0 0).2.2 : Int) != 0) = true := by simp; omega
    have hV : rdT1 P b1 = .error (dec b1 0 0).2.2 := by unfold rdT1; rw [if_pos e2]
    simp only [wpA_region, wpA_seq, wpA_cond, wpA_ret, condI_true, seqQ_normal, seqQ_ret, endI_mk, goI_out, goI_ops, opsA_nil, opsA_cons, stepA_move, stepA_assign, stepA_build, stepA_store, stepA_binOp, stepA_extract, thenV_some, thenS_some, extV_zero, extV_succ, eval_tmp, eval_const, put_some, put_none, enterF_succ, aBin_neq, absV_int, cells_agg, aLoad_eq, loadGo_row, aPlace_ptr, dropC_cells, aStore_eq, storeGo_ptr, aBuild_go, aFill_nil, buildGo_struct, get_set_same, Nat.reduceEqDiff, Nat.reduceAdd, List.map_nil, Option.map_some, Nat.zero_add, Nat.zero_le, List.length_cons, List.length_nil, List.drop_zero, List.take_succ_cons, List.take_nil, if_true, if_false, Nat.le_refl, lt_24, pl_24, zc_24, zt_24, c1, g2, stz, retA_ret, Tryd.results49, resultsC_2, resultA_tmp, resultA_cell, res2_some]
    rw [hV]
    exact hid_mk ⟨_, _, zeroC24 _ _, rfl, kk2.trans (Keep.set _ h.n _) fun q hq hh => by omega, fun p l b' hh => by cases hh⟩
  have hV0 : rdT1 P b1 = if 24 < min (dec b1 0 0).1 1000 then .error 2 else rdT2 P (min (dec b1 0 0).1 1000) (b1.drop (dec b1 0 0).2.1) := by unfold rdT1; rw [if_neg (by omega)]
  rw [e2] at *
  rw [hV0]
  generalize min (dec b1 0 0).1 1000 = N at *
  generalize b1.drop (dec b1 0 0).2.1 = b2 at *
  clear hV0
  by_cases h24 : 24 < N
  · have c1 : decide ((24 : Int) < (N : Int)) = true := decide_eq_true (by omega)
    simp only [wpA_skip, wpA_region, wpA_seq, wpA_cond, wpA_ret, condI_true, condI_false, seqQ_normal, seqQ_ret, endI_mk, goI_out, goI_ops, opsA_nil, opsA_cons, stepA_move, stepA_assign, stepA_build, stepA_store, stepA_binOp, stepA_extract, thenV_some, thenS_some, extV_zero, extV_succ, eval_tmp, eval_const, put_some, put_none, enterF_succ, aBin_neq, aBin_gtr, absV_int, cells_agg, aLoad_eq, loadGo_row, aPlace_ptr, dropC_cells, aStore_eq, storeGo_ptr, aBuild_go, aFill_nil, buildGo_struct, get_set_same, Nat.reduceEqDiff, Nat.reduceAdd, List.map_nil, Option.map_some, Nat.zero_add, Nat.zero_le, List.length_cons, List.length_nil, List.drop_zero, List.take_succ_cons, List.take_nil, if_true, if_false, Nat.le_refl, lt_24, pl_24, zc_24, zt_24, z0, c1, g2, stz, retA_ret, Tryd.results49, resultsC_2, resultA_tmp, resultA_cell, res2_some]
    rw [if_pos h24]
    exact hid_mk ⟨_, _, zeroC24 _ 2, rfl, kk2.trans (Keep.set _ h.n _) fun q hq hh => by omega, fun p l b' hh => by cases hh⟩
  have c1 : decide ((24 : Int) < (N : Int)) = false := decide_eq_false (by omega)
  rw [if_neg h24]
  have st1 : setC (some 2) (AObj.cells [V.snil, .int .i64 0] 24 none) 0 [V.snil, .int .i64 (P : Int)] = some (.cells [V.snil, .int .i64 (P : Int)] 24 none) := rfl
  obtain ⟨H3, hH3⟩ : ∃ y, y = H2.push (.cells [V.snil, .int .i64 (P : Int)] 24 none) := ⟨_, rfl⟩
  have k30 : Keep H2 H3 none_ := by rw [hH3]; exact Keep.push _ _ _
  have k3 : Keep H2 H3 (· = i) := k30.up
  have g33 : H3.get H2.n = .cells [V.snil, .int .i64 (P : Int)] 24 none := by rw [hH3]; exact get_push_new
  have n3 : H3.n = H2.n + 1 := by rw [hH3]; rfl
  have g3 := (k3.get h.n (by omega) (by omega)).trans g2
  have kk3 := kk2.trans' k3
  have r3 := IsRd.keep r2 k30 (by simp [none_])
  simp only [wpA_skip, wpA_region, wpA_seq, wpA_cond, wpA_block, wpA_loop, condI_false, seqQ_normal, goI_out, goI_ops, opsA_nil, opsA_cons, stepA_move, stepA_assign, stepA_alloc, stepA_build, stepA_store, stepA_binOp, stepA_extract, thenV_some, thenH_some, thenS_some, extV_zero, extV_succ, eval_tmp, eval_const, put_some, put_none, enterF_succ, aBin_neq, aBin_gtr, absV_int, cells_int, cells_agg, aStore_eq, storeGo_ptr, setAll_nil, setAll_cons, aAlloc_eq, aBuild_go, aFill_nil, aFill_cons, fillGo_some, buildGo_struct, get_push_new, set_push, List.getElem?_cons_zero, List.getElem?_cons_succ, Nat.reduceEqDiff, Nat.reduceAdd, List.map_cons, List.map_nil, Option.map_some, Nat.zero_add, List.length_cons, List.length_nil, List.set_cons_zero, List.set_cons_succ, and_self, if_true, if_false, Nat.le_refl, pl_24, zc_24, zt_24, z0, c1, st1]
  rw [← hH3]
  clear hH3
  generalize hF : H2.n = F at *
  have own0 : Own H3 47 6 .snil (([] : List Vx).flatMap encX) := .inl ⟨.inl rfl, rfl⟩
  refine SWp.loopG (α := Nat × V × List Vx × List Nat) (fun x f h' => f 0 = .ptr i 0 ∧ f 2 = .ptr h.n 0 ∧ f 7 = .ptr F 0 ∧ f 33 = .int .i64 (N : Int) ∧ f 34 = .int .i64 (x.1 : Nat) ∧ x.1 ≤ N ∧ x.2.2.1.length = x.1 ∧ h'.get h.n = .cells [V.snil, .int .i64 0] 24 none ∧ h'.get F = .cells [x.2.1, .int .i64 (P : Int)] 24 none ∧
      Own h' 47 6 x.2.1 (x.2.2.1.flatMap encX) ∧ (∀ j, idOf x.2.1 = some j → F < j) ∧ IsRd h' (.ptr i 0) i x.2.2.2 ∧ Sub x.2.2.2 bs ∧ Keep h h' (· = i) ∧ F < h'.n ∧ goVs N b2 [] = goVs (N - x.1) x.2.2.2 x.2.2.1) (fun x => N - x.1) (0, .snil, [], b2)
    ⟨rfl, rfl, rfl, rfl, rfl, Nat.zero_le _, rfl, g3, g33, own0, (fun j hj => by simp [idOf] at hj), r3, s2, kk3, by omega, rfl⟩ ?_
  rintro ⟨j, s, acc, b⟩ f h1 ⟨f0, f2, f7, f33, f34, hj, hal, gz, gF, os, ids, rd, sb, kk, hFn, hE⟩
  simp only at f34 hj hal gF os ids rd sb hE
  refine wpI_sound (by kernel_rfl) ?_
  by_cases hlt : j < N
  · have c5 : decide ((j : Int) < (N : Int)) = true := decide_eq_true (by omega)
    have w2 : IntKind.i64.wrap (((j : Nat) : Int) + 1) = ((j + 1 : Nat) : Int) := by rw [Go.IntWalk.i64_in _ (by omega)]; omega
    obtain ⟨mi, hmi⟩ : ∃ mi, N - j = mi + 1 := ⟨N - j - 1, by omega⟩
    rw [hmi] at hE
    simp only [wpA_skip, wpA_region, wpA_seq, wpA_cond, wpA_block, condI_true, seqQ_normal, goI_out, goI_ops, opsA_nil, opsA_cons, stepA_move, stepA_binOp, stepA_call, thenV_some, eval_tmp, put_some, aBin_lss, Nat.reduceEqDiff, reduceCtorEq, List.map_cons, List.map_nil, if_true, if_false, f0, f33, f34, c5]
    refine callI_of cal70 (pReadV i b h1 (hg.keep kk) rd (sb.lt hb) (by have := sb.2; omega)) fun r H4 ⟨e4, k4, d4⟩ => ?_
    subst e4
    have n4 := k4.n
    have gz4 := (k4.get h.n (by omega) (by omega)).trans gz
    have gF4 := (k4.get F hFn (by omega)).trans gF
    have kk4 := kk.trans' k4
    have os4 := os.keep k4 (fun q hq hh => by have := ids q hq; omega)
    cases hv : rdV b with
    | error c =>
      rw [goVs_error hv] at hE
      have hc0 : ((c : Int) != 0) = true := by have := rdV_err hv; simp; omega
      have hG : rdT2 P N b2 = .error c := by unfold rdT2; rw [hE]
      have hone : (V.agg (encX zeroX)).cells = some (encX zeroX) := rfl
      have hset : setC (some 6) (AObj.cells [V.int .i64 0, .snil, .int .i64 0, .int .i64 0, .snil, .int .i64 0] 47 none) 0 (encX zeroX) = some (.cells (encX zeroX) 47 none) := by
        rw [setC_row (n := 6) (encX_len _) (encX_one _), if_pos (by decide), encX_eq]; rfl
      have kZ : Keep H4 (H4.push (.cells (encX zeroX) 47 none)) none_ := Keep.push _ _ _
      have gz5 := (kZ.get h.n (by omega) (by simp [none_])).trans gz4
      simp only [vV]
      simp only [wpA_region, wpA_seq, wpA_cond, wpA_ret, condI_true, seqQ_normal, seqQ_ret, blkQ_ret, endI_mk, goE, andThen_ret, goI_out, goI_ops, opsA_nil, opsA_cons, stepA_move, stepA_assign, stepA_alloc, stepA_build, stepA_store, stepA_binOp, stepA_extract, thenV_some, thenH_some, thenS_some, extV_zero, extV_succ, eval_tmp, eval_const, put_some, put_none, aBin_neq, absV_int, cells_agg, aLoad_eq, loadGo_row, aPlace_ptr, dropC_cells, aStore_eq, storeGo_ptr, aAlloc_eq, aBuild_go, aFill_nil, buildGo_struct, get_push_new, get_set_same, set_push, Nat.reduceEqDiff, Nat.reduceAdd, List.map_nil, Option.map_some, Nat.zero_add, Nat.zero_le, List.length_cons, List.length_nil, List.drop_zero, List.take_succ_cons, List.take_nil, if_true, if_false, Nat.le_refl, lt_24, pl_24, zc_24, zc_47, zt_24, zt_47, f2, hone, hset, hc0, gz5, stz, retA_ret, Tryd.results49, resultsC_2, resultA_tmp, resultA_cell, res2_some]
      rw [hG]
      exact hid_mk ⟨_, _, zeroC24 _ _, rfl, (kk4.trans' kZ.up).trans (Keep.set _ h.n _) fun q hq hh => by omega, fun p l b' hh => by cases hh⟩
    | ok y =>
      obtain ⟨A, b'⟩ := y
      have hE2 : goVs N b2 [] = goVs mi b' (acc ++ [A]) := by rw [hE]; conv => lhs; unfold goVs; rw [hv]
      obtain ⟨_, sA, _⟩ := rdV_sound (sb.lt hb) hv
      have rd4 := d4 A b' hv
      have hone : (V.agg (encX A)).cells = some (encX A) := rfl
      have hset : setC (some 6) (AObj.cells [V.int .i64 0, .snil, .int .i64 0, .int .i64 0, .snil, .int .i64 0] 47 none) 0 (encX A) = some (.cells (encX A) 47 none) := by
        rw [setC_row (n := 6) (encX_len _) (encX_one _), if_pos (by decide), encX_eq]; rfl
      have hd0 : dropC (AObj.cells (encX A) 47 none) 0 = some (encX A) := by rw [encX_eq]; rfl
      have hld : loadGo (some (some 6)) (some (encX A)) = some (.agg (encX A)) := by rw [encX_eq]; rfl
      obtain ⟨H5, hH5⟩ : ∃ y, y = H4.push (.cells (encX A) 47 none) := ⟨_, rfl⟩
      have k5 : Keep H4 H5 none_ := by rw [hH5]; exact Keep.push _ _ _
      have n5 : H5.n = H4.n + 1 := by rw [hH5]; rfl
      have gA : H5.get H4.n = .cells (encX A) 47 none := by rw [hH5]; exact get_push_new
      have gz5 := (k5.get h.n (by omega) (by simp [none_])).trans gz4
      have gF5 := (k5.get F (by omega) (by simp [none_])).trans gF4
      obtain ⟨s', H6, ea, o6, k6, n6⟩ := app1X (os4.keepN k5) (by omega) A
      have hlit := litX1 H5 A
      have hn6 := k6.n
      have gz6 := (k6.get h.n (by omega) (fun hh => by have := ids h.n hh; omega)).trans gz5
      have gF6 := (k6.get F (by omega) (fun hh => by have := ids F hh; omega)).trans gF5
      have one_s : s'.one = true := by
        rcases o6 with ⟨rfl | rfl, _⟩ | ⟨_, _, _, _, _, rfl, _⟩ <;> rfl
      have cell_s : s'.cells = some [s'] := by
        rcases o6 with ⟨rfl | rfl, _⟩ | ⟨_, _, _, _, _, rfl, _⟩ <;> rfl
      have hsetF : setC (some 1) (AObj.cells [s, V.int .i64 (P : Int)] 24 none) 0 [s'] = some (.cells [s', .int .i64 (P : Int)] 24 none) := by rw [setC_one one_s]; rfl
      have ids' : ∀ q, idOf s' = some q → F < q := fun q hq => by
        rcases n6 with n6 | n6
        · exact ids q (by rw [← n6]; exact hq)
        · have := n6 q hq; omega
      have kS : Keep H6 (H6.set F (.cells [s', .int .i64 (P : Int)] 24 none)) (· = F) := Keep.set _ _ _
      have kk6 : Keep h H6 (· = i) := (kk4.trans' k5.up).trans k6 fun q hq hh => by have := ids q hh; omega
      have rd6 : IsRd H6 (.ptr i 0) i b' := IsRd.keep rd4 (k5.up.trans' k6) (fun hh => by have := ids i hh; omega)
      simp only [vV]
      simp only [wpA_skip, wpA_region, wpA_seq, wpA_cond, condI_false, seqQ_normal, goI_out, goI_ops, opsA_nil, opsA_cons, stepA_move, stepA_assign, stepA_alloc, stepA_load, stepA_store, stepA_binOp, stepA_fieldAddr, stepA_extract, thenV_some, thenH_some, thenS_some, extV_zero, extV_succ, eval_tmp, eval_const, put_some, put_none, aBin_neq, absV_int, aField_eq, fieldGo_ptr, aLoad_eq, aPlace_ptr, aStore_eq, storeGo_ptr, aAlloc_eq, get_push_new, set_push, bne_self_eq_false, Nat.reduceEqDiff, Option.map_some, Nat.add_zero, if_true, if_false, ft_24_0, lt_22, zc_47, zt_47, f7, hone, hset]
      rw [← hH5]
      clear hH5
      simp only [wpA_region, seqQ_normal, blkQ_normal, endI_mk, andThen_normal, goI_out, goI_ops, opsA_nil, opsA_cons, stepA_move, stepA_buildSlice, stepA_load, stepA_store, stepA_binOp, stepA_fieldAddr, stepA_append, thenV_some, thenH_some, thenS_some, eval_tmp, eval_const, put_some, put_none, aBin_add, absV_int, aField_eq, fieldGo_ptr, aLoad_eq, loadGo_one, aPlace_ptr, dropC_cells, aStore_eq, storeGo_ptr, Nat.reduceEqDiff, Nat.reduceAdd, List.map_cons, List.map_nil, Option.map_some, Nat.add_zero, Nat.zero_add, Nat.zero_le, List.length_cons, List.length_nil, List.drop_zero, if_true, if_false, ft_24_0, lt_47, zt_22, f7, f34, gF5, gA, hd0, hld, hlit, ea, gF6, cell_s, hsetF, w2]
      exact hid_mk ⟨(j + 1, s', acc ++ [A], b'), ⟨f0, f2, f7, f33, rfl, hlt, by simp [hal], (kS.get h.n (by omega) (by omega)).trans gz6, get_set_same, o6.keep kS (fun q hq hh => by have := ids' q hq; omega), ids', rd6.keep kS (by omega), sA.trans sb, kk6.trans kS fun q hq hh => by omega, by rw [set_n]; omega, by rw [show N - (j + 1) = mi by omega]; exact hE2⟩, by simp only; omega⟩
  · have c5 : decide ((j : Int) < (N : Int)) = false := decide_eq_false (by omega)
    rw [show N - j = 0 by omega, goVs] at hE
    have hG : rdT2 P N b2 = .ok (P, acc, b) := by unfold rdT2; rw [hE]
    have one_s : s.one = true := by
      rcases os with ⟨rfl | rfl, _⟩ | ⟨_, _, _, _, _, rfl, _⟩ <;> rfl
    have stF : setC (some 2) (AObj.cells [V.snil, .int .i64 0] 24 none) 0 [s, .int .i64 (P : Int)] = some (.cells [s, .int .i64 (P : Int)] 24 none) :=
      (setC_row (n := 2) (vs := [s, V.int .i64 (P : Int)]) rfl (by simp only [all_cons, all_nil, one_int, one_s, Bool.and_self])).trans rfl
    have kS : Keep h1 (h1.set h.n (.cells [s, .int .i64 (P : Int)] 24 none)) (· = h.n) := Keep.set _ _ _
    have os2 := os.keep kS fun q hq hh => by have := ids q hq; omega
    obtain ⟨h9, c9, k9⟩ := castT (P : Int) os2
    simp only [wpA_region, wpA_seq, wpA_cond, wpA_exit, wpA_ret, condI_false, seqQ_normal, seqQ_exit, blkQ_exit, endI_mk, goE, andThen_exit, goI_out, goI_ops, opsA_nil, opsA_cons, stepA_assign, stepA_load, stepA_store, stepA_binOp, thenV_some, thenS_some, eval_tmp, eval_const, put_some, put_none, aBin_lss, absV_int, cells_agg, aLoad_eq, loadGo_row, aPlace_ptr, dropC_cells, aStore_eq, storeGo_ptr, get_set_same, Nat.reduceEqDiff, Nat.reduceAdd, Option.map_some, Nat.zero_add, Nat.zero_le, List.length_cons, List.length_nil, List.drop_zero, List.take_succ_cons, List.take_nil, if_true, if_false, Nat.le_refl, lt_24, zt_24, f2, f7, f33, f34, c5, gF, gz, stF, retA_ret, Tryd.results49, resultsC_2, resultA_tmp, resultA_cell, res2_some]
    rw [hG]
    refine hid_mk ⟨_, h9, Cast.tuple (CastL.cons c9 (CastL.refl _ _)), rfl, (kk.trans kS fun q hq hh => by omega).trans k9 fun q hq hh => by have := ids q hh; omega, fun p l b' hh => ?_⟩
    cases hh
    exact (rd.keep kS (by omega)).keep k9 (fun hh => by have := ids i hh; omega)
end Go.Proofs.YtpmmbcifhallbaaDoor.Pk
