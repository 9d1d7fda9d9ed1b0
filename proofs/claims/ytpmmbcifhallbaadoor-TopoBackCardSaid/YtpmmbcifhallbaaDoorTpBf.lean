/-
  What functions of the program do, told of abstract states. Conditions: as each theorem says.
-/
import Derived.Test.YtpmmbcifhallbaaDoorTpBe
namespace Go.Proofs.YtpmmbcifhallbaaDoor.Pk
open Go Go.Proofs Go.Proofs.YtpmmbcifhallbaaDoor.Ab
set_option linter.unusedVariables false
set_option linter.unusedSimpArgs false
set_option maxHeartbeats 1000000 in
set_option maxRecDepth 10000 in
theorem pTOf (x : V) (bs : List Nat) (h : AHeap) (hg : TG h) (rd : Rd h x bs) (hb : ∀ b ∈ bs, b < 256) (hl : bs.length ≤ 2 ^ 47) : Pure Tryd.prog 22 [x] h (toV bs) := by
  refine Pure.of (toV_clo bs) ?_
  refine SCalls.enterI (c := _) Tryd.func22 rfl (by kernel_rfl) (by simp) ?_
  obtain ⟨H0, hH0⟩ : ∃ y, y = h.push (.cells [V.snil, .int .i64 0] 24 none) := ⟨_, rfl⟩
  have k0 : Keep h H0 none_ := by rw [hH0]; exact Keep.push _ _ _
  have g0 : H0.get h.n = .cells [V.snil, .int .i64 0] 24 none := by rw [hH0]; exact get_push_new
  have n0 : H0.n = h.n + 1 := by rw [hH0]; rfl
  have stz : setC (some 2) (AObj.cells [V.snil, .int .i64 0] 24 none) 0 [V.snil, .int .i64 0] = some (.cells [V.snil, .int .i64 0] 24 none) := rfl
  have stT : ∀ (l : List Vx) (p : Int), setC (some 2) (AObj.cells [V.snil, .int .i64 0] 24 none) 0 [.imm l.length (l.flatMap encX), .int .i64 p] = some (.cells [.imm l.length (l.flatMap encX), .int .i64 p] 24 none) := fun _ _ => rfl
  have hcT : ∀ (l : List Vx) (p : Int), (V.agg (topE l p)).cells = some [.imm l.length (l.flatMap encX), .int .i64 p] := fun _ _ => rfl
  have hag : ∀ (l : List Vx) (p : Int), V.agg [.imm l.length (l.flatMap encX), .int .i64 p] = .agg (topE l p) := fun _ _ => rfl
  simp only [wpA_region, wpA_seq, seqQ_normal, goI_out, goI_ops, opsA_nil, opsA_cons, stepA_move, stepA_assign, stepA_alloc, stepA_call, thenH_some, eval_tmp, eval_const, put_some, enterF_zero, enterF_succ, absV_int, aAlloc_eq, Nat.reduceEqDiff, reduceCtorEq, List.map_cons, List.map_nil, Option.map_some, if_true, if_false, zc_24]
  rw [← hH0]
  clear hH0
  refine callI_of cal48 (From x bs H0 (rd.keep k0) (by omega)) fun r H1 ⟨e1, r1, k1⟩ => ?_
  subst e1
  have n1 : H0.n + 1 ≤ H1.n := r1.2.1
  have g1 := (k1.get h.n (by omega) (by simp [none_])).trans g0
  have kk1 := k0.trans' k1
  simp only [wpA_region, wpA_seq, seqQ_normal, goI_out, goI_ops, opsA_nil, opsA_cons, stepA_move, stepA_assign, stepA_call, eval_tmp, put_some, enterF_succ, Nat.reduceEqDiff, List.map_cons, List.map_nil, if_true, if_false]
  refine callI_of cal49 (pRead H0.n bs H1 (hg.1.keep kk1) r1 hb hl) fun r H2 ⟨e2, k2, d2⟩ => ?_
  subst e2
  have n2 := k2.n
  have g2 := (k2.get h.n (by omega) (by omega)).trans g1
  have kk2 : Keep h H2 none_ := kk1.trans k2 fun q hq hh => by omega
  cases hx : rdT bs with
  | error c =>
    have hc0 := rdT_err hx
    have c1 : (((c : Nat) : Int) != 0) = true := by simp; omega
    have hV : toV bs = .tuple [.agg (topE [] 0), .int .i64 (c : Nat)] := by unfold toV toR; rw [hx]
    rw [hV]
    have kZ : Keep H2 (H2.push (.cells [.imm 0 [], .int .i64 0] 24 none)) none_ := Keep.push _ _ _
    have g3 := (kZ.get h.n (by omega) (by simp [none_])).trans g2
    have hc0 : (V.agg (topE [] 0)).cells = some [.imm 0 [], .int .i64 0] := rfl
    have stT0 : setC (some 2) (AObj.cells [V.snil, .int .i64 0] 24 none) 0 [.imm 0 [], .int .i64 0] = some (.cells [.imm 0 [], .int .i64 0] 24 none) := rfl
    simp only [tV]
    simp only [wpA_region, wpA_seq, wpA_cond, wpA_ret, condI_true, seqQ_normal, seqQ_ret, endI_mk, goI_out, goI_ops, opsA_nil, opsA_cons, stepA_move, stepA_assign, stepA_alloc, stepA_build, stepA_store, stepA_binOp, stepA_extract, thenV_some, thenH_some, thenS_some, extV_zero, extV_succ, eval_tmp, eval_const, put_some, put_none, enterF_succ, aBin_neq, absV_int, cells_agg, aLoad_eq, loadGo_row, aPlace_ptr, dropC_cells, aStore_eq, storeGo_ptr, aAlloc_eq, aBuild_go, aFill_nil, buildGo_struct, get_push_new, get_set_same, set_push, Nat.reduceEqDiff, Nat.reduceAdd, List.map_nil, Option.map_some, Nat.zero_add, Nat.zero_le, List.length_cons, List.length_nil, List.drop_zero, List.take_succ_cons, List.take_nil, if_true, if_false, Nat.le_refl, lt_24, pl_24, zc_24, zt_24, hc0, stT0, c1, g3, stz, retA_ret, Tryd.results22, resultsC_2, resultA_tmp, resultA_cell, res2_some]
    exact hid_mk ⟨_, zeroC24 _ c, (kk2.trans' kZ).trans (Keep.set _ h.n _) fun q hq hh => by omega⟩
  | ok y =>
    obtain ⟨p, l, r⟩ := y
    have rd2 := d2 p l r hx
    obtain ⟨okl, _, _⟩ := rdT_sound hb hx
    have z0 : ((0 : Int) != 0) = false := rfl
    obtain ⟨H3, hH3⟩ : ∃ y, y = H2.push (.cells [.imm l.length (l.flatMap encX), .int .i64 (p : Int)] 24 none) := ⟨_, rfl⟩
    have k3 : Keep H2 H3 none_ := by rw [hH3]; exact Keep.push _ _ _
    have g33 : H3.get H2.n = .cells [.imm l.length (l.flatMap encX), .int .i64 (p : Int)] 24 none := by rw [hH3]; exact get_push_new
    have g3 := (k3.get h.n (by omega) (by simp [none_])).trans g2
    have rd3 := IsRd.keep rd2 k3 (by simp [none_])
    have kk3 := kk2.trans' k3
    have n3 : H3.n = H2.n + 1 := by rw [hH3]; rfl
    simp only [tV]
    simp only [wpA_skip, wpA_region, wpA_seq, wpA_cond, condI_false, seqQ_normal, goI_out, goI_ops, opsA_nil, opsA_cons, stepA_move, stepA_assign, stepA_alloc, stepA_store, stepA_binOp, stepA_extract, stepA_call, thenV_some, thenH_some, thenS_some, extV_zero, extV_succ, eval_tmp, eval_const, put_some, put_none, enterF_succ, aBin_neq, absV_int, aStore_eq, storeGo_ptr, aAlloc_eq, get_push_new, set_push, bne_self_eq_false, Nat.reduceEqDiff, List.map_cons, List.map_nil, Option.map_some, if_true, if_false, zc_24, zt_24, hcT, stT]
    rw [← hH3]
    clear hH3
    refine callI_pure cal50 (Left H3 _ _ r rd3) ?_
    by_cases hr0 : r.length = 0
    rotate_left
    · have c1 : decide ((0 : Int) < ((r.length : Nat) : Int)) = true := decide_eq_true (by omega)
      have hV : toV bs = .tuple [.agg (topE [] 0), .int .i64 (5 : Nat)] := by unfold toV toR; rw [hx]; simp only; rw [if_pos hr0]; rfl
      rw [hV]
      simp only [wpA_region, wpA_seq, wpA_cond, wpA_ret, condI_true, seqQ_normal, seqQ_ret, endI_mk, goI_out, goI_ops, opsA_nil, opsA_cons, stepA_assign, stepA_build, stepA_store, stepA_binOp, thenV_some, thenS_some, eval_tmp, eval_const, put_some, put_none, enterF_succ, aBin_gtr, absV_int, cells_agg, aLoad_eq, loadGo_row, aPlace_ptr, dropC_cells, aStore_eq, storeGo_ptr, aBuild_go, aFill_nil, buildGo_struct, get_set_same, Nat.reduceEqDiff, Nat.reduceAdd, List.map_nil, Option.map_some, Nat.zero_add, Nat.zero_le, List.length_cons, List.length_nil, List.drop_zero, List.take_succ_cons, List.take_nil, if_true, if_false, Nat.le_refl, lt_24, pl_24, zc_24, zt_24, c1, g3, stz, retA_ret, Tryd.results22, resultsC_2, resultA_tmp, resultA_cell, res2_some]
      exact hid_mk ⟨_, zeroC24 _ 5, kk3.trans (Keep.set _ h.n _) fun q hq hh => by omega⟩
    have c1 : decide ((0 : Int) < ((r.length : Nat) : Int)) = false := decide_eq_false (by omega)
    simp only [wpA_skip, wpA_region, wpA_seq, wpA_cond, condI_false, seqQ_normal, goI_out, goI_ops, opsA_nil, opsA_cons, stepA_load, stepA_binOp, stepA_call, thenV_some, eval_tmp, eval_const, put_some, put_none, enterF_succ, aBin_gtr, absV_int, aLoad_eq, loadGo_row, aPlace_ptr, dropC_cells, Nat.reduceEqDiff, Nat.reduceAdd, List.map_cons, List.map_nil, Nat.zero_add, Nat.zero_le, List.length_cons, List.length_nil, List.drop_zero, List.take_succ_cons, List.take_nil, if_true, if_false, Nat.le_refl, lt_24, c1, g33, hag]
    refine callI_pure cal16 (pCheck l p okl H3 (hg.keep kk3)) ?_
    by_cases h0 : (chkT (p : Int) l).2 = 0
    · have c2 : ((chkT (p : Int) l).2 != 0) = false := by simpa using h0
      have hV : toV bs = .tuple [.agg (topE l (p : Int)), .int .i64 0] := by unfold toV toR; rw [hx]; simp only; rw [if_neg (by omega), if_neg (by omega)]
      rw [hV]
      simp only [wpA_skip, wpA_region, wpA_seq, wpA_cond, wpA_ret, condI_false, seqQ_normal, endI_mk, goI_out, goI_ops, opsA_nil, opsA_cons, stepA_move, stepA_assign, stepA_load, stepA_store, stepA_binOp, stepA_extract, thenV_some, thenS_some, extV_zero, extV_succ, eval_tmp, eval_const, put_some, put_none, enterF_succ, aBin_neq, absV_int, cells_agg, aLoad_eq, loadGo_row, aPlace_ptr, dropC_cells, aStore_eq, storeGo_ptr, get_set_same, Nat.reduceEqDiff, Nat.reduceAdd, Option.map_some, Nat.zero_add, Nat.zero_le, List.length_cons, List.length_nil, List.drop_zero, List.take_succ_cons, List.take_nil, if_true, if_false, Nat.le_refl, lt_24, zt_24, chkA, c2, g33, g3, stT, retA_ret, Tryd.results22, resultsC_2, resultA_tmp, resultA_cell, res2_some]
      exact hid_mk ⟨_, Cast.refl _ _, kk3.trans (Keep.set _ h.n _) fun q hq hh => by omega⟩
    · have c2 : ((chkT (p : Int) l).2 != 0) = true := by simpa using h0
      have hV : toV bs = .tuple [.agg (topE [] 0), .int .i64 (chkT (p : Int) l).2] := by unfold toV toR; rw [hx]; simp only; rw [if_neg (by omega), if_pos h0]
      rw [hV]
      simp only [wpA_region, wpA_seq, wpA_cond, wpA_ret, condI_true, seqQ_normal, seqQ_ret, endI_mk, goI_out, goI_ops, opsA_nil, opsA_cons, stepA_move, stepA_assign, stepA_build, stepA_store, stepA_binOp, stepA_extract, thenV_some, thenS_some, extV_zero, extV_succ, eval_tmp, eval_const, put_some, put_none, enterF_succ, aBin_neq, absV_int, cells_agg, aLoad_eq, loadGo_row, aPlace_ptr, dropC_cells, aStore_eq, storeGo_ptr, aBuild_go, aFill_nil, buildGo_struct, get_set_same, Nat.reduceEqDiff, Nat.reduceAdd, List.map_nil, Option.map_some, Nat.zero_add, Nat.zero_le, List.length_cons, List.length_nil, List.drop_zero, List.take_succ_cons, List.take_nil, if_true, if_false, Nat.le_refl, lt_24, pl_24, zc_24, zt_24, chkA, c2, g3, stz, retA_ret, Tryd.results22, resultsC_2, resultA_tmp, resultA_cell, res2_some]
      exact hid_mk ⟨_, Cast.tuple (CastL.cons (Pk.Cast.agg (CastL.cons (Cast.nil0 _) (CastL.refl _ _))) (CastL.refl _ _)), kk3.trans (Keep.set _ h.n _) fun q hq hh => by omega⟩
end Go.Proofs.YtpmmbcifhallbaaDoor.Pk
