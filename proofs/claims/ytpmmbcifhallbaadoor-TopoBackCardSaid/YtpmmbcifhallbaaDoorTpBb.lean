/-
  What functions of the program do, told of abstract states. Conditions: as each theorem says.
-/
import Derived.Test.YtpmmbcifhallbaaDoorTpBa
namespace Go.Proofs.YtpmmbcifhallbaaDoor.Pk
open Go Go.Proofs Go.Proofs.YtpmmbcifhallbaaDoor.Ab
set_option linter.unusedVariables false
set_option linter.unusedSimpArgs false
/-! ### A topology read back -/
set_option maxRecDepth 10000 in
theorem pNum (i : Nat) (bs : List Nat) (h : AHeap) (hr : IsRd h (.ptr i 0) i bs) (hb : ∀ b ∈ bs, b < 256) (hc : bs.length ≤ 2 ^ 47) :
    SCalls Tryd.prog 69 [.ptr i 0] h (fun r h' => r = .tuple [.int .i64 ((min (dec bs 0 0).1 1000 : Nat) : Int), .int .i64 ((dec bs 0 0).2.2 : Nat)] ∧ IsRd h' (.ptr i 0) i (bs.drop (dec bs 0 0).2.1) ∧ Keep h h' (· = i)) := by
  refine SCalls.enterI (c := _) Tryd.func69 rfl (by kernel_rfl) (by simp) ?_
  simp only [wpA_region, wpA_seq, seqQ_normal, goI_out, goI_ops, opsA_nil, opsA_cons, stepA_move, stepA_assign, stepA_call, eval_tmp, eval_const, put_some, enterF_zero, enterF_succ, absV_int, Nat.reduceEqDiff, reduceCtorEq, List.map_cons, List.map_nil, if_true, if_false]
  refine callI_of cal78 (RUint _ i bs h hr hb hc) fun r h1 ⟨e1, r1, k1⟩ => ?_
  subst e1
  have u1 : IntKind.i64.wrap (min ((dec bs 0 0).1 : Int) 1000) = ((min (dec bs 0 0).1 1000 : Nat) : Int) := by rw [Go.IntWalk.i64_in _ (by omega)]; omega
  simp only [wpA_region, wpA_seq, wpA_ret, seqQ_normal, endI_mk, goI_out, goI_ops, opsA_nil, opsA_cons, stepA_move, stepA_assign, stepA_convert, stepA_extract, stepA_min, thenV_some, thenC_some, extV_zero, extV_succ, eval_tmp, eval_const, put_some, enterF_succ, mmV_min, absV_int, Nat.reduceEqDiff, if_true, if_false, aConv_int it_71 it_3, u1, retA_ret, Tryd.results69, resultsA_2]
  exact hid_mk ⟨rfl, r1, k1⟩
def rdV3 (k : Nat) (fr : List Int) (n : Int) (bs : List Nat) : Except Nat (Vx × List Nat) :=
  if (getBytes bs).2.2 ≠ 0 then .error (getBytes bs).2.2
  else if (getBytes bs).1.length = 0 then .ok (⟨(k : Int), fr, .mk 0 0 [], n⟩, (getBytes bs).2.1)
  else if ofC (getBytes bs).1 ≠ 0 then .error (ofC (getBytes bs).1)
  else .ok (⟨(k : Int), fr, ofE (getBytes bs).1, n⟩, (getBytes bs).2.1)
def rdV2 (k : Nat) (fr : List Int) (bs : List Nat) : Except Nat (Vx × List Nat) :=
  if (dec bs 0 0).2.2 ≠ 0 then .error (dec bs 0 0).2.2 else rdV3 k fr (unz (dec bs 0 0).1) (bs.drop (dec bs 0 0).2.1)
def rdV1 (k : Nat) (bs : List Nat) : Except Nat (Vx × List Nat) :=
  if (getInts bs 2).2.2 ≠ 0 then .error (getInts bs 2).2.2 else rdV2 k (getInts bs 2).1 (getInts bs 2).2.1
def rdV (bs : List Nat) : Except Nat (Vx × List Nat) :=
  if (dec bs 0 0).2.2 ≠ 0 then .error (dec bs 0 0).2.2 else rdV1 (min (dec bs 0 0).1 1000) (bs.drop (dec bs 0 0).2.1)
def zeroX : Vx := ⟨0, [], .mk 0 0 [], 0⟩
def vV : Except Nat (Vx × List Nat) → V
  | .error c => .tuple [.agg (encX zeroX), .int .i64 (c : Nat)]
  | .ok (v, _) => .tuple [.agg (encX v), .int .i64 0]
def Sub (a b : List Nat) : Prop := (∀ x ∈ a, x ∈ b) ∧ a.length ≤ b.length
theorem Sub.rfl' (a : List Nat) : Sub a a := ⟨fun _ h => h, Nat.le_refl _⟩
theorem Sub.nil (a : List Nat) : Sub [] a := ⟨fun _ h => (by cases h), Nat.zero_le _⟩
theorem Sub.trans {a b c : List Nat} (x : Sub a b) (y : Sub b c) : Sub a c := ⟨fun q h => y.1 q (x.1 q h), Nat.le_trans x.2 y.2⟩
theorem Sub.drop (a : List Nat) (k : Nat) : Sub (a.drop k) a := ⟨fun _ h => List.mem_of_mem_drop h, by rw [List.length_drop]; omega⟩
theorem Sub.take (a : List Nat) (k : Nat) : Sub (a.take k) a := ⟨fun _ h => List.mem_of_mem_take h, by rw [List.length_take]; omega⟩
theorem Sub.lt {a b : List Nat} (x : Sub a b) (h : ∀ q ∈ b, q < 256) : ∀ q ∈ a, q < 256 := fun q hq => h q (x.1 q hq)
theorem goInts_sub : ∀ (m : Nat) (r : List Nat) (acc : List Int), Sub (goInts m r acc).2.1 r
  | 0, r, acc => Sub.rfl' r
  | m + 1, r, acc => by
    unfold goInts
    split
    · exact Sub.nil _
    · split
      · exact Sub.nil _
      · exact (goInts_sub m _ _).trans (Sub.drop _ _)
theorem getInts_sub (bs : List Nat) (m : Int) : Sub (getInts bs m).2.1 bs := by
  unfold getInts
  split
  · exact Sub.rfl' _
  · split
    · exact Sub.rfl' _
    · split
      · exact Sub.rfl' _
      · exact (goInts_sub _ _ _).trans (Sub.drop _ _)
theorem getBytes_sub (bs : List Nat) : Sub (getBytes bs).2.1 bs ∧ Sub (getBytes bs).1 bs := by
  unfold getBytes
  split
  · exact ⟨Sub.rfl' _, Sub.nil _⟩
  · split
    · exact ⟨Sub.rfl' _, Sub.nil _⟩
    · exact ⟨(Sub.drop _ _).trans (Sub.drop _ _), (Sub.take _ _).trans (Sub.drop _ _)⟩
theorem zeroC47 (h : AHeap) (c : Nat) : Cast (.tuple [.agg [.int .i64 0, .snil, .int .i64 0, .int .i64 0, .snil, .int .i64 0], .int .i64 (c : Nat)]) h (.tuple [.agg (encX zeroX), .int .i64 (c : Nat)]) h := by
  refine Cast.tuple (CastL.cons ?_ (CastL.refl _ _))
  rw [encX_eq]
  exact Pk.Cast.agg (CastL.skip (CastL.cons (Cast.nil0 h) (CastL.skip (CastL.skip (CastL.cons (Cast.nil0 h) (CastL.refl _ _))))))
theorem zeroE47 (h : AHeap) (k : Nat) (fr : List Int) (n : Int) : Cast (.tuple [.agg [.int .i64 (k : Int), .imm fr.length (i64V fr), .int .i64 0, .int .i64 0, .snil, .int .i64 n], .int .i64 0]) h (.tuple [.agg (encX ⟨(k : Int), fr, .mk 0 0 [], n⟩), .int .i64 0]) h := by
  refine Cast.tuple (CastL.cons ?_ (CastL.refl _ _))
  rw [encX_eq]
  exact Pk.Cast.agg (CastL.skip (CastL.skip (CastL.skip (CastL.skip (CastL.cons (Cast.nil0 h) (CastL.refl _ _))))))
set_option maxHeartbeats 2000000 in
set_option maxRecDepth 10000 in
theorem pReadV (i : Nat) (bs : List Nat) (h : AHeap) (hg : KG h) (hr : IsRd h (.ptr i 0) i bs) (hb : ∀ b ∈ bs, b < 256) (hc : bs.length ≤ 2 ^ 47) :
    SCalls Tryd.prog 70 [.ptr i 0] h (fun r h' => r = vV (rdV bs) ∧ Keep h h' (· = i) ∧ ∀ v b', rdV bs = .ok (v, b') → IsRd h' (.ptr i 0) i b') := by
  refine SCalls.cast ?_
  refine SCalls.enterI (c := _) Tryd.func70 rfl (by kernel_rfl) (by simp) ?_
  have hin := hr.2.1
  obtain ⟨H0, hH0⟩ : ∃ y, y = h.push (.cells [V.int .i64 0, .snil, .int .i64 0, .int .i64 0, .snil, .int .i64 0] 47 none) := ⟨_, rfl⟩
  have k0 : Keep h H0 (· = i) := by rw [hH0]; exact Keep.push _ _ _
  have k00 : Keep h H0 none_ := by rw [hH0]; exact Keep.push _ _ _
  have g0 : H0.get h.n = .cells [V.int .i64 0, .snil, .int .i64 0, .int .i64 0, .snil, .int .i64 0] 47 none := by rw [hH0]; exact get_push_new
  have n0 : H0.n = h.n + 1 := by rw [hH0]; rfl
  have r0 := IsRd.keep hr k00 (by simp [none_])
  have stz : setC (some 6) (AObj.cells [V.int .i64 0, .snil, .int .i64 0, .int .i64 0, .snil, .int .i64 0] 47 none) 0 [V.int .i64 0, .snil, .int .i64 0, .int .i64 0, .snil, .int .i64 0] = some (.cells [V.int .i64 0, .snil, .int .i64 0, .int .i64 0, .snil, .int .i64 0] 47 none) := rfl
  have z0 : (((0 : Nat) : Int) != 0) = false := rfl
  simp only [wpA_region, wpA_seq, seqQ_normal, goI_out, goI_ops, opsA_nil, opsA_cons, stepA_move, stepA_assign, stepA_alloc, stepA_call, thenH_some, eval_tmp, eval_const, put_some, enterF_zero, enterF_succ, absV_int, aAlloc_eq, Nat.reduceEqDiff, reduceCtorEq, List.map_cons, List.map_nil, Option.map_some, if_true, if_false, zc_47]
  rw [← hH0]
  clear hH0
  refine callI_of cal69 (pNum i bs H0 r0 hb (by omega)) fun r H1 ⟨e1, r1, k1⟩ => ?_
  subst e1
  have s1 : Sub (bs.drop (dec bs 0 0).2.1) bs := Sub.drop _ _
  have g1 := (k1.get h.n (by omega) (by omega)).trans g0
  have kk1 := k0.trans' k1
  have n1 := k1.n
  by_cases e1 : (dec bs 0 0).2.2 = 0
  rotate_left
  · have c1 : (((dec bs 0 0).2.2 : Int) != 0) = true := by simp; omega
    have hV : rdV bs = .error (dec bs 0 0).2.2 := by unfold rdV; rw [if_pos e1]
    simp only [wpA_region, wpA_seq, wpA_cond, wpA_ret, condI_true, seqQ_normal, seqQ_ret, endI_mk, goI_out, goI_ops, opsA_nil, opsA_cons, stepA_move, stepA_assign, stepA_build, stepA_store, stepA_binOp, stepA_extract, thenV_some, thenS_some, extV_zero, extV_succ, eval_tmp, eval_const, put_some, put_none, enterF_succ, aBin_neq, absV_int, cells_agg, aLoad_eq, loadGo_row, aPlace_ptr, dropC_cells, aStore_eq, storeGo_ptr, aBuild_go, aFill_nil, buildGo_struct, get_set_same, Nat.reduceEqDiff, Nat.reduceAdd, List.map_nil, Option.map_some, Nat.zero_add, Nat.zero_le, List.length_cons, List.length_nil, List.drop_zero, List.take_succ_cons, List.take_nil, if_true, if_false, Nat.le_refl, lt_47, pl_47, zc_47, zt_47, c1, g1, stz, retA_ret, Tryd.results70, resultsC_2, resultA_tmp, resultA_cell, res2_some]
    rw [hV]
    exact hid_mk ⟨_, _, zeroC47 _ _, rfl, kk1.trans (Keep.set _ h.n _) fun q hq hh => by omega, fun v b' hh => by cases hh⟩
  have hV0 : rdV bs = rdV1 (min (dec bs 0 0).1 1000) (bs.drop (dec bs 0 0).2.1) := by unfold rdV; rw [if_neg (by omega)]
  rw [e1] at *
  rw [hV0]
  generalize min (dec bs 0 0).1 1000 = K at *
  generalize bs.drop (dec bs 0 0).2.1 = b1 at *
  clear hV0
  simp only [wpA_skip, wpA_region, wpA_seq, wpA_cond, condI_false, seqQ_normal, goI_out, goI_ops, opsA_nil, opsA_cons, stepA_move, stepA_assign, stepA_binOp, stepA_extract, stepA_call, thenV_some, extV_zero, extV_succ, eval_tmp, eval_const, put_some, enterF_zero, enterF_succ, aBin_neq, absV_int, Nat.reduceEqDiff, reduceCtorEq, List.map_cons, List.map_nil, if_true, if_false, z0]
  refine callI_of cal79 (RIntsG _ i b1 2 H1 r1 (s1.lt hb) (by have := s1.2; omega) (.inr (by decide)) (by decide)) fun r H2 ⟨e2, r2, k2⟩ => ?_
  subst e2
  have s2 := (getInts_sub b1 2).trans s1
  have g2 := (k2.get h.n (by omega) (by omega)).trans g1
  have kk2 := kk1.trans' k2
  have n2 := k2.n
  by_cases e2 : (getInts b1 2).2.2 = 0
  rotate_left
  · have c1 : (((getInts b1 2).2.2 : Int) != 0) = true := by simp; omega
    have hV : rdV1 K b1 = .error (getInts b1 2).2.2 := by unfold rdV1; rw [if_pos e2]
    simp only [wpA_region, wpA_seq, wpA_cond, wpA_ret, condI_true, seqQ_normal, seqQ_ret, endI_mk, goI_out, goI_ops, opsA_nil, opsA_cons, stepA_move, stepA_assign, stepA_build, stepA_store, stepA_binOp, stepA_extract, thenV_some, thenS_some, extV_zero, extV_succ, eval_tmp, eval_const, put_some, put_none, enterF_succ, aBin_neq, absV_int, cells_agg, aLoad_eq, loadGo_row, aPlace_ptr, dropC_cells, aStore_eq, storeGo_ptr, aBuild_go, aFill_nil, buildGo_struct, get_set_same, Nat.reduceEqDiff, Nat.reduceAdd, List.map_nil, Option.map_some, Nat.zero_add, Nat.zero_le, List.length_cons, List.length_nil, List.drop_zero, List.take_succ_cons, List.take_nil, if_true, if_false, Nat.le_refl, lt_47, pl_47, zc_47, zt_47, c1, g2, stz, retA_ret, Tryd.results70, resultsC_2, resultA_tmp, resultA_cell, res2_some]
    rw [hV]
    exact hid_mk ⟨_, _, zeroC47 _ _, rfl, kk2.trans (Keep.set _ h.n _) fun q hq hh => by omega, fun v b' hh => by cases hh⟩
  have hV0 : rdV1 K b1 = rdV2 K (getInts b1 2).1 (getInts b1 2).2.1 := by unfold rdV1; rw [if_neg (by omega)]
  rw [e2] at *
  rw [hV0]
  generalize (getInts b1 2).1 = fr at *
  generalize (getInts b1 2).2.1 = b2 at *
  clear hV0
  simp only [wpA_skip, wpA_region, wpA_seq, wpA_cond, condI_false, seqQ_normal, goI_out, goI_ops, opsA_nil, opsA_cons, stepA_move, stepA_assign, stepA_binOp, stepA_extract, stepA_call, thenV_some, extV_zero, extV_succ, eval_tmp, eval_const, put_some, enterF_zero, enterF_succ, aBin_neq, absV_int, Nat.reduceEqDiff, reduceCtorEq, List.map_cons, List.map_nil, if_true, if_false, z0]
  refine callI_of cal80 (RInt _ i b2 H2 r2 (s2.lt hb) (by have := s2.2; omega)) fun r H3 ⟨e3, r3, k3⟩ => ?_
  subst e3
  have s3 := (Sub.drop b2 (dec b2 0 0).2.1).trans s2
  have g3 := (k3.get h.n (by omega) (by omega)).trans g2
  have kk3 := kk2.trans' k3
  have n3 := k3.n
  by_cases e3 : (dec b2 0 0).2.2 = 0
  rotate_left
  · have c1 : (((dec b2 0 0).2.2 : Int) != 0) = true := by simp; omega
    have hV : rdV2 K fr b2 = .error (dec b2 0 0).2.2 := by unfold rdV2; rw [if_pos e3]
    simp only [wpA_region, wpA_seq, wpA_cond, wpA_ret, condI_true, seqQ_normal, seqQ_ret, endI_mk, goI_out, goI_ops, opsA_nil, opsA_cons, stepA_move, stepA_assign, stepA_build, stepA_store, stepA_binOp, stepA_extract, thenV_some, thenS_some, extV_zero, extV_succ, eval_tmp, eval_const, put_some, put_none, enterF_succ, aBin_neq, absV_int, cells_agg, aLoad_eq, loadGo_row, aPlace_ptr, dropC_cells, aStore_eq, storeGo_ptr, aBuild_go, aFill_nil, buildGo_struct, get_set_same, Nat.reduceEqDiff, Nat.reduceAdd, List.map_nil, Option.map_some, Nat.zero_add, Nat.zero_le, List.length_cons, List.length_nil, List.drop_zero, List.take_succ_cons, List.take_nil, if_true, if_false, Nat.le_refl, lt_47, pl_47, zc_47, zt_47, c1, g3, stz, retA_ret, Tryd.results70, resultsC_2, resultA_tmp, resultA_cell, res2_some]
    rw [hV]
    exact hid_mk ⟨_, _, zeroC47 _ _, rfl, kk3.trans (Keep.set _ h.n _) fun q hq hh => by omega, fun v b' hh => by cases hh⟩
  have hV0 : rdV2 K fr b2 = rdV3 K fr (unz (dec b2 0 0).1) (b2.drop (dec b2 0 0).2.1) := by unfold rdV2; rw [if_neg (by omega)]
  rw [e3] at *
  rw [hV0]
  generalize unz (dec b2 0 0).1 = N at *
  generalize b2.drop (dec b2 0 0).2.1 = b3 at *
  clear hV0
  simp only [wpA_skip, wpA_region, wpA_seq, wpA_cond, condI_false, seqQ_normal, goI_out, goI_ops, opsA_nil, opsA_cons, stepA_move, stepA_assign, stepA_binOp, stepA_extract, stepA_call, thenV_some, extV_zero, extV_succ, eval_tmp, eval_const, put_some, enterF_zero, enterF_succ, aBin_neq, absV_int, Nat.reduceEqDiff, reduceCtorEq, List.map_cons, List.map_nil, if_true, if_false, z0]
  refine callI_of cal81 (RBytes _ i b3 H3 r3 (s3.lt hb) (by have := s3.2; omega)) fun r H4 ⟨e4, r4, k4⟩ => ?_
  subst e4
  have s4 := (getBytes_sub b3).2.trans s3
  have g4 := (k4.get h.n (by omega) (by omega)).trans g3
  have kk4 := kk3.trans' k4
  have n4 := k4.n
  by_cases e4 : (getBytes b3).2.2 = 0
  rotate_left
  · have c1 : (((getBytes b3).2.2 : Int) != 0) = true := by simp; omega
    have hV : rdV3 K fr N b3 = .error (getBytes b3).2.2 := by unfold rdV3; rw [if_pos e4]
    simp only [wpA_region, wpA_seq, wpA_cond, wpA_ret, condI_true, seqQ_normal, seqQ_ret, endI_mk, goI_out, goI_ops, opsA_nil, opsA_cons, stepA_move, stepA_assign, stepA_build, stepA_store, stepA_binOp, stepA_extract, thenV_some, thenS_some, extV_zero, extV_succ, eval_tmp, eval_const, put_some, put_none, enterF_succ, aBin_neq, absV_int, cells_agg, aLoad_eq, loadGo_row, aPlace_ptr, dropC_cells, aStore_eq, storeGo_ptr, aBuild_go, aFill_nil, buildGo_struct, get_set_same, Nat.reduceEqDiff, Nat.reduceAdd, List.map_nil, Option.map_some, Nat.zero_add, Nat.zero_le, List.length_cons, List.length_nil, List.drop_zero, List.take_succ_cons, List.take_nil, if_true, if_false, Nat.le_refl, lt_47, pl_47, zc_47, zt_47, c1, g4, stz, retA_ret, Tryd.results70, resultsC_2, resultA_tmp, resultA_cell, res2_some]
    rw [hV]
    exact hid_mk ⟨_, _, zeroC47 _ _, rfl, kk4.trans (Keep.set _ h.n _) fun q hq hh => by omega, fun v b' hh => by cases hh⟩
  have hV0 : rdV3 K fr N b3 = if (getBytes b3).1.length = 0 then .ok (⟨(K : Int), fr, .mk 0 0 [], N⟩, (getBytes b3).2.1) else if ofC (getBytes b3).1 ≠ 0 then .error (ofC (getBytes b3).1) else .ok (⟨(K : Int), fr, ofE (getBytes b3).1, N⟩, (getBytes b3).2.1) := by unfold rdV3; rw [if_neg (by omega)]
  rw [hV0]
  clear hV0
  rw [e4] at *
  have st1 : ∀ (k : Int) (m : Nat) (x : List V) (n : Int), setC (some 6) (AObj.cells [V.int .i64 0, .snil, .int .i64 0, .int .i64 0, .snil, .int .i64 0] 47 none) 0 [.int .i64 k, .imm m x, .int .i64 0, .int .i64 0, .snil, .int .i64 n] = some (.cells [.int .i64 k, .imm m x, .int .i64 0, .int .i64 0, .snil, .int .i64 n] 47 none) := fun _ _ _ _ => rfl
  obtain ⟨H5, hH5⟩ : ∃ y, y = H4.push (.cells [V.int .i64 (K : Int), .imm fr.length (i64V fr), .int .i64 0, .int .i64 0, .snil, .int .i64 N] 47 none) := ⟨_, rfl⟩
  have k5 : Keep H4 H5 (· = i) := by rw [hH5]; exact Keep.push _ _ _
  have k50 : Keep H4 H5 none_ := by rw [hH5]; exact Keep.push _ _ _
  have g55 : H5.get H4.n = .cells [V.int .i64 (K : Int), .imm fr.length (i64V fr), .int .i64 0, .int .i64 0, .snil, .int .i64 N] 47 none := by rw [hH5]; exact get_push_new
  have n5 : H5.n = H4.n + 1 := by rw [hH5]; rfl
  have g5 := (k5.get h.n (by omega) (by omega)).trans g4
  have kk5 := kk4.trans' k5
  have r5 := IsRd.keep r4 k50 (by simp [none_])
  simp only [wpA_skip, wpA_region, wpA_seq, wpA_cond, condI_false, seqQ_normal, goI_out, goI_ops, opsA_nil, opsA_cons, stepA_move, stepA_assign, stepA_alloc, stepA_build, stepA_store, stepA_binOp, stepA_extract, stepA_len, thenV_some, thenH_some, thenS_some, extV_zero, extV_succ, eval_tmp, eval_const, put_some, put_none, enterF_succ, aBin_neq, aBin_gtr, absV_int, cells_int, cells_imm, cells_agg, aStore_eq, storeGo_ptr, setAll_nil, setAll_cons, aAlloc_eq, aLen_imm, aBuild_go, aFill_nil, aFill_cons, fillGo_some, buildGo_struct, get_push_new, set_push, List.getElem?_cons_zero, List.getElem?_cons_succ, Nat.reduceEqDiff, Nat.reduceAdd, Nat.reduceLeDiff, List.map_cons, List.map_nil, Option.map_some, Nat.zero_add, List.length_cons, List.length_nil, List.set_cons_zero, List.set_cons_succ, and_self, if_true, if_false, Nat.le_refl, kt_36, pl_47, zc_47, zt_47, z0, st1]
  rw [← hH5]
  clear hH5
  by_cases hl0 : (getBytes b3).1.length = 0
  · have c1 : decide ((0 : Int) < (((getBytes b3).1.length : Nat) : Int)) = false := decide_eq_false (by omega)
    rw [if_pos hl0]
    simp only [wpA_skip, wpA_region, wpA_seq, wpA_ret, condI_false, seqQ_normal, endI_mk, goI_out, goI_ops, opsA_nil, opsA_cons, stepA_assign, stepA_load, stepA_store, thenV_some, thenS_some, eval_tmp, eval_const, put_some, put_none, enterF_succ, absV_int, cells_agg, aLoad_eq, loadGo_row, aPlace_ptr, dropC_cells, aStore_eq, storeGo_ptr, get_set_same, Nat.reduceEqDiff, Nat.reduceAdd, Option.map_some, Nat.zero_add, Nat.zero_le, List.length_cons, List.length_nil, List.drop_zero, List.take_succ_cons, List.take_nil, if_true, if_false, Nat.le_refl, lt_47, zt_47, c1, g55, g5, st1, retA_ret, Tryd.results70, resultsC_2, resultA_tmp, resultA_cell, res2_some]
    have kS : Keep H5 (H5.set h.n (.cells [V.int .i64 (K : Int), .imm fr.length (i64V fr), .int .i64 0, .int .i64 0, .snil, .int .i64 N] 47 none)) (· = h.n) := Keep.set _ h.n _
    exact hid_mk ⟨_, _, zeroE47 _ _ _ _, rfl, kk5.trans kS fun q hq hh => by omega, fun v b' hh => by injection hh with hh; injection hh with h1 h2; subst h2; exact r5.keep kS (by omega)⟩
  · have c1 : decide ((0 : Int) < (((getBytes b3).1.length : Nat) : Int)) = true := decide_eq_true (by omega)
    simp only [wpA_region, wpA_seq, condI_true, goI_ops, opsA_cons, stepA_move, stepA_call, eval_tmp, put_some, put_none, enterF_succ, Nat.reduceEqDiff, List.map_cons, List.map_nil, if_true, if_false, c1]
    refine callI_pure cal82 (pOf _ (getBytes b3).1 H5 (hg.keep kk5) (Rd.imm _ _) (s4.lt hb) (by have := s4.2; omega)) ?_
    rw [if_neg hl0]
    generalize (getBytes b3).1 = xs at *
    unfold ofV
    have hcE := ex_cells (ofE xs)
    obtain ⟨A, hA⟩ : ∃ y, y = (⟨(K : Int), fr, ofE xs, N⟩ : Vx) := ⟨_, rfl⟩
    have stE : setC (some 3) (AObj.cells [V.int .i64 (K : Int), .imm fr.length (i64V fr), .int .i64 0, .int .i64 0, .snil, .int .i64 N] 47 none) 2 (encE (ofE xs)) = some (.cells (encX A) 47 none) := by
      rw [setC_row (n := 3) (encE_len _) (encE_one _), if_pos (by simp), hA]
      simp only [encX]
      generalize ofE xs = E
      cases E
      rfl
    have hone : (V.agg (encX A)).cells = some (encX A) := rfl
    have hset : setC (some 6) (AObj.cells [V.int .i64 0, .snil, .int .i64 0, .int .i64 0, .snil, .int .i64 0] 47 none) 0 (encX A) = some (.cells (encX A) 47 none) := by
      rw [setC_row (n := 6) (encX_len A) (encX_one A), if_pos (by decide), encX_eq]; rfl
    have hd0 : dropC (AObj.cells (encX A) 47 none) 0 = some (encX A) := by rw [encX_eq]; rfl
    have hld : loadGo (some (some 6)) (some (encX A)) = some (.agg (encX A)) := by rw [encX_eq]; rfl
    have ldX : (if 6 ≤ (encX A).length then some (V.agg (List.take 6 (encX A))) else none) = some (.agg (encX A)) := by rw [encX_eq]; rfl
    have kA : Keep H5 (H5.set H4.n (.cells (encX A) 47 none)) (· = H4.n) := Keep.set _ _ _
    have g6 := (kA.get h.n (by omega) (by omega)).trans g5
    by_cases e5 : ofC xs = 0
    · have c2 : ((ofC xs : Int) != 0) = false := by simp [e5]
      rw [if_neg (by omega)]
      simp only [wpA_skip, wpA_region, wpA_seq, wpA_cond, wpA_ret, condI_false, seqQ_normal, endI_mk, goI_out, goI_ops, opsA_nil, opsA_cons, stepA_move, stepA_assign, stepA_load, stepA_store, stepA_binOp, stepA_fieldAddr, stepA_extract, thenV_some, thenS_some, extV_zero, extV_succ, eval_tmp, eval_const, put_some, put_none, enterF_succ, aBin_neq, absV_int, aField_eq, fieldGo_ptr, aLoad_eq, aPlace_ptr, aStore_eq, storeGo_ptr, get_set_same, Nat.reduceEqDiff, Option.map_some, Nat.zero_add, if_true, if_false, ft_47_2, lt_47, zt_45, zt_47, hcE, g55, stE, c2, hd0, hld, g6, hone, hset, retA_ret, Tryd.results70, resultsC_2, resultA_tmp, resultA_cell, res2_some]
      have kS : Keep (H5.set H4.n (.cells (encX A) 47 none)) ((H5.set H4.n (.cells (encX A) 47 none)).set h.n (.cells (encX A) 47 none)) (· = h.n) := Keep.set _ h.n _
      exact hid_mk ⟨_, _, Cast.refl _ _, by rw [hA]; rfl, (kk5.trans kA fun q hq hh => by omega).trans kS fun q hq hh => by omega, fun v b' hh => by injection hh with hh; injection hh with h1 h2; subst h2; exact (r5.keep kA (by omega)).keep kS (by omega)⟩
    · have c2 : ((ofC xs : Int) != 0) = true := by simp; omega
      rw [if_pos e5]
      simp only [wpA_region, wpA_seq, wpA_cond, wpA_ret, condI_true, seqQ_normal, seqQ_ret, endI_mk, goI_out, goI_ops, opsA_nil, opsA_cons, stepA_move, stepA_assign, stepA_build, stepA_store, stepA_binOp, stepA_fieldAddr, stepA_extract, thenV_some, thenS_some, extV_zero, extV_succ, eval_tmp, eval_const, put_some, put_none, enterF_succ, aBin_neq, absV_int, cells_agg, aField_eq, fieldGo_ptr, aLoad_eq, loadGo_row, aPlace_ptr, dropC_cells, aStore_eq, storeGo_ptr, aBuild_go, aFill_nil, buildGo_struct, get_set_same, Nat.reduceEqDiff, Nat.reduceAdd, List.map_nil, Option.map_some, Nat.zero_add, Nat.zero_le, List.length_cons, List.length_nil, List.drop_zero, List.take_succ_cons, List.take_nil, if_true, if_false, Nat.le_refl, ft_47_2, lt_47, pl_47, zc_47, zt_45, zt_47, hcE, g55, stE, c2, g6, stz, retA_ret, Tryd.results70, resultsC_2, resultA_tmp, resultA_cell, res2_some]
      exact hid_mk ⟨_, _, zeroC47 _ _, rfl, (kk5.trans kA fun q hq hh => by omega).trans (Keep.set _ h.n _) fun q hq hh => by omega, fun v b' hh => by cases hh⟩
end Go.Proofs.YtpmmbcifhallbaaDoor.Pk
