/-
  What functions of the program do, told of abstract states. Conditions: as each theorem says.
-/
import Derived.Test.YtlbekgogjlchjaaMaA
import Derived.Test.YtlbekgogjlchjaaAbD
import Derived.Test.YtlbekgogjlchjaaAbD
import Derived.Test.YtlbekgogjlchjaaAbD
namespace Go.Proofs.Ytlbekgogjlchjaa.Pk
open Go Go.Proofs Go.Proofs.Ytlbekgogjlchjaa.Ab
set_option linter.unusedVariables false
set_option linter.unusedSimpArgs false
/-! ### The checksum: a function of the bytes -/
/-- One bit of the register. -/
def entS (r : Int) : Int := if bAnd .u32 r 1 = 0 then r.fdiv (2 ^ (min (Int.toNat 1) IntKind.u32.bits)) else bXor .u32 (r.fdiv (2 ^ (min (Int.toNat 1) IntKind.u32.bits))) 2197175160
def entF (r : Int) : Nat → Int
  | 0 => r
  | k + 1 => entS (entF r k)
set_option maxRecDepth 10000 in
theorem entry (c : Int) (h : AHeap) : Pure Try.prog 113 [.int .u8 c] h (.int .u32 (entF (IntKind.u32.wrap c) 8)) := by
  refine SCalls.enterI (c := _) Try.func113 rfl (by kernel_rfl) (by simp) ?_
  simp only [wpA_region, wpA_seq, wpA_block, wpA_loop, seqQ_normal, goI_out, goI_ops, opsA_nil, opsA_cons, stepA_move, stepA_assign, stepA_convert, thenC_some, eval_tmp, eval_const, put_some, enterF_zero, enterF_succ, aConv_int, absV_int, Option.some.injEq, Nat.reduceEqDiff, reduceCtorEq, if_true, if_false, it_161, it_5]
  refine SWp.loopG (α := Nat) (fun i f h' => h' = h ∧ f 3 = .int .u32 (entF (IntKind.u32.wrap c) i) ∧ f 7 = .int .i64 (i : Nat) ∧ i ≤ 8) (fun i => 8 - i) 0
    ⟨rfl, rfl, rfl, Nat.zero_le _⟩ ?_
  rintro i f h' ⟨rfl, f3, f7, hi⟩
  refine wpI_sound (by kernel_rfl) ?_
  by_cases hlast : i < 8
  · have d1 : decide ((i : Int) < 8) = true := by simp; omega
    have hw : IntKind.i64.wrap ((i : Int) + 1) = ((i + 1 : Nat) : Int) := by rw [Go.IntWalk.i64_in _ (by omega)]; rfl
    by_cases c1 : bAnd .u32 (entF (IntKind.u32.wrap c) i) 1 = 0
    · have c1' : (bAnd .u32 (entF (IntKind.u32.wrap c) i) 1 != 0) = false := by simp [c1]
      simp only [wpA_skip, wpA_region, wpA_seq, wpA_cond, wpA_block, condI_true, condI_false, seqQ_normal, blkQ_normal, endI_mk, andThen_normal, goI_out, goI_ops, opsA_nil, opsA_cons, stepA_move, stepA_assign, stepA_binOp, thenV_some, eval_tmp, eval_const, put_some, aBin_add, aBin_neq, aBin_lss, aBin_and, absV_int, Nat.reduceEqDiff, if_true, if_false, f3, f7, d1, c1', hw, aBin_shr (show (0 : Int) ≤ 1 by decide)]
      have e : entF (IntKind.u32.wrap c) (i + 1) = (entF (IntKind.u32.wrap c) i).fdiv (2 ^ (min (Int.toNat 1) IntKind.u32.bits)) := by rw [entF, entS, if_pos c1]
      exact hid_mk ⟨i + 1, ⟨rfl, by rw [e]; rfl, rfl, hlast⟩, by omega⟩
    · have c1' : (bAnd .u32 (entF (IntKind.u32.wrap c) i) 1 != 0) = true := by simp [c1]
      simp only [wpA_skip, wpA_region, wpA_seq, wpA_cond, wpA_block, condI_true, seqQ_normal, blkQ_normal, endI_mk, andThen_normal, goI_out, goI_ops, opsA_nil, opsA_cons, stepA_move, stepA_assign, stepA_binOp, thenV_some, eval_tmp, eval_const, put_some, aBin_add, aBin_neq, aBin_lss, aBin_and, aBin_xor, absV_int, Nat.reduceEqDiff, if_true, if_false, f3, f7, d1, c1', hw, aBin_shr (show (0 : Int) ≤ 1 by decide)]
      have e : entF (IntKind.u32.wrap c) (i + 1) = bXor .u32 ((entF (IntKind.u32.wrap c) i).fdiv (2 ^ (min (Int.toNat 1) IntKind.u32.bits))) 2197175160 := by rw [entF, entS, if_neg c1]
      exact hid_mk ⟨i + 1, ⟨rfl, by rw [e]; rfl, rfl, hlast⟩, by omega⟩
  · have d1 : decide ((i : Int) < 8) = false := by simp; omega
    have e : i = 8 := by omega
    subst e
    simp only [wpA_region, wpA_seq, wpA_cond, wpA_exit, wpA_ret, condI_false, seqQ_normal, seqQ_exit, blkQ_exit, endI_mk, goE, andThen_exit, goI_out, goI_ops, opsA_nil, opsA_cons, stepA_move, stepA_assign, stepA_binOp, thenV_some, eval_tmp, eval_const, put_some, aBin_lss, absV_int, Nat.reduceEqDiff, if_true, if_false, f3, f7, d1, retA_ret, Try.results113, resultsA_1]
    exact hid_mk ⟨rfl, rfl⟩

/-- One byte of the checksum. -/
def crcS (r c : Int) : Int := bXor .u32 (r.fdiv (2 ^ (min (Int.toNat 8) IntKind.u32.bits))) (entF (IntKind.u32.wrap (bXor .u8 (IntKind.u8.wrap r) c)) 8)
def crcN (l : List Nat) : Int := l.foldl (fun (r : Int) (c : Nat) => crcS r (c : Int)) 4294967295
def crcF (l : List Nat) : Int := bXor .u32 (if IntKind.u32.signed = true then -1 else IntKind.u32.max) (crcN l)
set_option maxRecDepth 10000 in
theorem checksum (l : List Nat) (h : AHeap) (hl : l.length ≤ 2 ^ 47) : Pure Try.prog 111 [.imm l.length (bytesV l)] h (.int .u32 (crcF l)) := by
  refine SCalls.enterI (c := _) Try.func111 rfl (by kernel_rfl) (by simp) ?_
  simp only [wpA_region, wpA_seq, wpA_block, wpA_loop, seqQ_normal, goI_out, goI_ops, opsA_nil, opsA_cons, stepA_move, stepA_assign, stepA_len, thenV_some, eval_tmp, eval_const, put_some, enterF_zero, enterF_succ, absV_int, aLen_imm, Nat.reduceEqDiff, reduceCtorEq, if_true, if_false, kt_30]
  refine SWp.loopG (α := Nat) (fun i f h' => h' = h ∧ f 3 = .int .u32 (crcN (l.take i)) ∧ f 6 = .imm l.length (bytesV l) ∧ f 7 = .int .i64 (l.length : Nat) ∧ f 8 = .int .i64 (i : Nat) ∧ i ≤ l.length) (fun i => l.length - i) 0
    ⟨rfl, rfl, rfl, rfl, rfl, Nat.zero_le _⟩ ?_
  rintro i f h' ⟨rfl, f3, f6, f7, f8, hi⟩
  refine wpI_sound (by kernel_rfl) ?_
  by_cases hlast : i < l.length
  · have d1 : decide ((i : Int) < ((l.length : Nat) : Int)) = true := by simp; omega
    have hw : IntKind.i64.wrap ((i : Int) + 1) = ((i + 1 : Nat) : Int) := by rw [Go.IntWalk.i64_in _ (by omega)]; rfl
    have hx : aIndexAddr Try.prog 30 (.imm l.length (bytesV l)) (.int .i64 (i : Int)) = some (.at (.int .u8 (l[i] : Nat) :: bytesV (l.drop (i + 1)))) := by
      have hix := index_imm (P := Try.prog) (t := 30) (k := .i64) (i := (i : Int)) (n := l.length) (cs := bytesV l) ss_30 (by omega) (by omega) (by rw [bytesV_length]; omega)
      rw [Int.toNat_natCast, bytes_drop hlast] at hix
      exact hix
    have e : crcN (l.take (i + 1)) = crcS (crcN (l.take i)) (l[i] : Nat) := by
      rw [List.take_succ_eq_append_getElem hlast]
      unfold crcN
      rw [List.foldl_append]
      rfl
    simp only [wpA_skip, wpA_region, wpA_seq, wpA_cond, wpA_block, condI_true, seqQ_normal, goI_out, goI_ops, opsA_nil, opsA_cons, stepA_move, stepA_assign, stepA_load, stepA_binOp, stepA_convert, stepA_indexAddr, stepA_call, thenV_some, thenC_some, eval_tmp, eval_const, put_some, aBin_lss, aBin_xor, absV_int, aLoad_eq, loadGo_one, aPlace_at, Nat.reduceEqDiff, List.map_cons, List.map_nil, if_true, if_false, lt_5, f3, f6, f7, f8, d1, hx, aBin_shr (show (0 : Int) ≤ 8 by decide), aConv_int it_161 it_5]
    refine callI_pure cal113 (entry _ h') ?_
    simp only [wpA_region, seqQ_normal, blkQ_normal, endI_mk, andThen_normal, goI_out, goI_ops, opsA_nil, opsA_cons, stepA_move, stepA_assign, stepA_binOp, thenV_some, eval_tmp, eval_const, put_some, aBin_add, aBin_xor, absV_int, Nat.reduceEqDiff, if_true, if_false, f8, hw]
    exact hid_mk ⟨i + 1, ⟨rfl, by rw [e]; rfl, f6, f7, rfl, hlast⟩, by omega⟩
  · have d1 : decide ((i : Int) < ((l.length : Nat) : Int)) = false := by simp; omega
    have e : crcN (l.take i) = crcN l := by rw [show i = l.length by omega, List.take_length]
    simp only [wpA_region, wpA_seq, wpA_cond, wpA_exit, condI_false, seqQ_normal, seqQ_exit, blkQ_exit, endI_mk, goE, andThen_exit, goI_out, goI_ops, opsA_nil, opsA_cons, stepA_move, stepA_binOp, stepA_unOp, thenV_some, eval_tmp, put_some, aBin_lss, Nat.reduceEqDiff, if_true, if_false, f3, f7, f8, d1]
    exact hid_mk ⟨by rw [e]; rfl, rfl⟩

/-- The checksum as a frame has it: four bytes, the lowest first. -/
def sumB (l : List Nat) (i : Nat) : Int := IntKind.u8.wrap ((crcF l).fdiv (2 ^ (min (Int.toNat (8 * (i : Int))) IntKind.u32.bits)))
def sumV (l : List Nat) : V := .agg [.int .u8 (sumB l 0), .int .u8 (sumB l 1), .int .u8 (sumB l 2), .int .u8 (sumB l 3)]
def sumC (l : List Nat) (k : Nat) : List V := [.int .u8 (if 0 < k then sumB l 0 else 0), .int .u8 (if 1 < k then sumB l 1 else 0), .int .u8 (if 2 < k then sumB l 2 else 0), .int .u8 (if 3 < k then sumB l 3 else 0)]
set_option maxRecDepth 10000 in
theorem sumOf (l : List Nat) (h : AHeap) (hl : l.length ≤ 2 ^ 47) : Pure Try.prog 105 [.imm l.length (bytesV l)] h (sumV l) := by
  refine Pure.val (Clo.agg (CloL.cons (Clo.int _ _) (CloL.cons (Clo.int _ _) (CloL.cons (Clo.int _ _) (CloL.cons (Clo.int _ _) CloL.nil))))) ?_
  refine SCalls.enterI (c := _) Try.func105 rfl (by kernel_rfl) (by simp) ?_
  simp only [wpA_region, wpA_seq, seqQ_normal, goI_out, goI_ops, opsA_nil, opsA_cons, stepA_move, stepA_alloc, stepA_call, thenH_some, eval_tmp, put_some, enterF_zero, enterF_succ, aAlloc_eq, Nat.reduceEqDiff, reduceCtorEq, List.map_cons, List.map_nil, Option.map_some, if_true, if_false, zc_167]
  refine callI_pure cal111 (checksum l _ hl) ?_
  simp only [wpA_region, wpA_seq, wpA_block, wpA_loop, seqQ_normal, goI_out, goI_ops, opsA_nil, opsA_cons, stepA_move, stepA_assign, stepA_alloc, thenH_some, eval_tmp, eval_const, put_some, enterF_succ, absV_int, aAlloc_eq, push_n, Nat.reduceEqDiff, Option.map_some, if_true, if_false, zc_167]
  refine SWp.loopG (α := Nat) (fun i f h' => f 2 = .ptr h.n 0 ∧ f 3 = .int .u32 (crcF l) ∧ f 4 = .ptr (h.n + 1) 0 ∧ f 8 = .int .i64 (i : Nat) ∧ i ≤ 4 ∧ h'.n = h.n + 2 ∧ h'.get h.n = .cells (sumC l 0) 167 none ∧ h'.get (h.n + 1) = .cells (sumC l i) 167 none ∧ Keep h h' none_) (fun i => 4 - i) 0
    ⟨rfl, rfl, rfl, rfl, Nat.zero_le _, rfl, (get_push_lt (by rw [push_n]; omega)).trans get_push_new, get_push_new, (Keep.push _ _ _).trans (Keep.push _ _ _) (fun _ _ h => h)⟩ ?_
  rintro i f h' ⟨f2, f3, f4, f8, hi, hn, g0, g1, hk⟩
  refine wpI_sound (by kernel_rfl) ?_
  have hmul : ∀ j : Nat, j < 4 → IntKind.i64.wrap (8 * (j : Int)) = 8 * (j : Int) := fun j hj => Go.IntWalk.i64_in _ (by omega)
  by_cases hlast : i < 4
  · have d1 : decide ((i : Int) < 4) = true := by simp; omega
    have hw : IntKind.i64.wrap ((i : Int) + 1) = ((i + 1 : Nat) : Int) := by rw [Go.IntWalk.i64_in _ (by omega)]; rfl
    have hm := hmul i hlast
    have hx : aIndexAddr Try.prog 167 (.ptr (h.n + 1) 0) (.int .i64 (i : Int)) = some (.ptr (h.n + 1) i) := by
      have : i = 0 ∨ i = 1 ∨ i = 2 ∨ i = 3 := by omega
      have z5 : sizeT Try.prog 5 = some 1 := by kernel_rfl
      rcases this with rfl | rfl | rfl | rfl <;> simp [aIndexAddr, z5]
    have hl2 : i + 1 ≤ (sumC l i).length := by simp [sumC]; omega
    have hset : (sumC l i).set i (.int .u8 (IntKind.u8.wrap ((crcF l).fdiv (2 ^ min (8 * (i : Int)).toNat IntKind.u32.bits)))) = sumC l (i + 1) := by
      have : i = 0 ∨ i = 1 ∨ i = 2 ∨ i = 3 := by omega
      rcases this with rfl | rfl | rfl | rfl <;> simp [sumC, sumB]
    simp only [wpA_skip, wpA_region, wpA_seq, wpA_cond, wpA_block, condI_true, seqQ_normal, blkQ_normal, endI_mk, andThen_normal, goI_out, goI_ops, opsA_nil, opsA_cons, stepA_move, stepA_assign, stepA_store, stepA_binOp, stepA_convert, stepA_indexAddr, thenV_some, thenC_some, thenS_some, eval_tmp, eval_const, put_some, put_none, aBin_add, aBin_mul, aBin_lss, absV_int, cells_int, one_int, all_nil, all_cons, aStore_eq, storeGo_ptr, setC_row, setAll_nil, setAll_cons, Nat.reduceEqDiff, Option.map_some, Nat.zero_add, List.length_cons, List.length_nil, if_true, if_false, Bool.and_self, zt_5, f3, f4, f8, d1, hw, hm, g1, hx, aBin_shr (show (0 : Int) ≤ 8 * (i : Int) by omega), aConv_int it_161 it_5, hl2, hset, if_true, Option.map_some]
    exact hid_mk ⟨i + 1, ⟨f2, f3, f4, rfl, hlast, hn, (get_set_ne (by omega)).trans g0, get_set_same, hk.trans (Keep.set _ _ _) (fun k hk hi => by omega)⟩, by omega⟩
  · have d1 : decide ((i : Int) < 4) = false := by simp; omega
    have e : i = 4 := by omega
    subst e
    have e0 : sumC l 0 = [.int .u8 0, .int .u8 0, .int .u8 0, .int .u8 0] := by simp [sumC]
    have e4 : sumC l 4 = [.int .u8 (sumB l 0), .int .u8 (sumB l 1), .int .u8 (sumB l 2), .int .u8 (sumB l 3)] := by simp [sumC]
    rw [e4] at g1
    rw [e0] at g0
    simp only [wpA_region, wpA_seq, wpA_cond, wpA_exit, wpA_ret, condI_false, seqQ_normal, seqQ_exit, blkQ_exit, endI_mk, goE, andThen_exit, goI_out, goI_ops, opsA_nil, opsA_cons, stepA_load, stepA_store, stepA_binOp, thenV_some, thenS_some, eval_tmp, eval_const, put_some, put_none, aBin_lss, absV_int, cells_agg, one_int, all_nil, all_cons, aLoad_eq, loadGo_row, aPlace_ptr, dropC_cells, aStore_eq, storeGo_ptr, setC_row, setAll_nil, setAll_cons, get_set_same, Nat.reduceEqDiff, Nat.reduceAdd, Option.map_some, Nat.zero_add, Nat.zero_le, List.length_cons, List.length_nil, List.drop_zero, List.take_succ_cons, List.take_nil, List.set_cons_zero, List.set_cons_succ, if_true, if_false, Bool.and_self, Nat.le_refl, lt_167, zt_167, f2, f4, f8, d1, g0, g1, retA_ret, Try.results105, resultsC_1, resultA_cell]
    exact hid_mk ⟨rfl, hk.trans (Keep.set _ _ _) (fun k hk hi => by omega)⟩
end Go.Proofs.Ytlbekgogjlchjaa.Pk
namespace Go.Proofs.Ytlbekgogjlchjaa.Pk
open Go Go.Proofs Go.Proofs.Ytlbekgogjlchjaa.Ab
set_option linter.unusedVariables false
set_option linter.unusedSimpArgs false
set_option maxRecDepth 10000 in
theorem bytesA (s x : V) (cs xs : List Nat) (h : AHeap) (rd : Rd h s cs) (rx : Rd h x xs) (hc : cs.length + xs.length ≤ 2 ^ 45) :
    SCalls Try.prog 83 [s, x] h (fun r h' => Acc h h' 5 1 r (bytesV (cs ++ encBytes xs))) := by
  refine SCalls.enterI (c := _) Try.func83 rfl (by kernel_rfl) (by simp) ?_
  have hw : IntKind.i64.wrap (10 + (xs.length : Int)) = ((10 + xs.length : Nat) : Int) := by rw [Go.IntWalk.i64_in _ (by omega)]; omega
  have hu := wrap_natU (n := xs.length) (by omega)
  simp only [wpA_region, wpA_seq, seqQ_normal, goI_out, goI_ops, opsA_nil, opsA_cons, stepA_move, stepA_assign, stepA_binOp, stepA_len, stepA_call, thenV_some, eval_tmp, eval_const, put_some, enterF_zero, enterF_succ, aBin_add, absV_int, absV_snil, Nat.reduceEqDiff, reduceCtorEq, List.map_cons, List.map_nil, if_true, if_false, rx.len h (Keep.refl _ _), hw]
  refine callI_of cal77 (freshA s cs (10 + xs.length) h rd (by omega)) fun r1 h1 a1 => ?_
  simp only [goI_ops, opsA_cons, stepA_move, stepA_convert, stepA_len, stepA_call, thenV_some, thenC_some, eval_tmp, put_some, enterF_zero, enterF_succ, Nat.reduceEqDiff, List.map_cons, List.map_nil, if_true, if_false, rx.len h1 a1.keep, aConv_int it_3 it_131, hu]
  refine callI_of cal92 (addUintA r1 cs xs.length h1 a1 (by omega) (by omega)) fun r2 h2 a2 => ?_
  have hl := (enc_le xs.length (by omega)).2
  obtain ⟨v, h3, e3, a3⟩ := a2.app (P := Try.prog) (tx := 30) sl_30 (by decide) (rx.src h2 a2.keep) (by rw [bytesV_length, Nat.mul_one]) (by simp only [bytesV_length, List.length_append, lim]; omega) (by simp only [bytesV_length, List.length_append, lim]; omega)
  simp only [wpA_region, wpA_seq, wpA_ret, seqQ_normal, endI_mk, goI_out, goI_ops, opsA_nil, opsA_cons, stepA_move, stepA_assign, stepA_append, thenH_some, eval_tmp, put_some, enterF_zero, enterF_succ, Nat.reduceEqDiff, if_true, if_false, e3, retA_ret, Try.results83, resultsA_1]
  exact hid_mk (a3.conv (by rw [← bytesV_append, List.append_assoc]; rfl))

/-- The four bytes of a checksum. -/
def sumL (l : List Nat) : List Nat := [(sumB l 0).toNat, (sumB l 1).toNat, (sumB l 2).toNat, (sumB l 3).toNat]
theorem sumB_nat (l : List Nat) (i : Nat) : ((sumB l i).toNat : Int) = sumB l i := by
  unfold sumB
  rw [IntKind.wrap_u8]
  omega
theorem sumB_lt (l : List Nat) (i : Nat) : (sumB l i).toNat < 256 := by
  unfold sumB
  rw [IntKind.wrap_u8]
  omega
theorem sumV_eq (l : List Nat) : sumV l = .agg (bytesV (sumL l)) := by
  simp only [sumV, sumL, bytesV, List.map_cons, List.map_nil, sumB_nat]
/-- A frame. -/
def frame (l : List Nat) : List Nat := encBytes l ++ sumL l
def frameV (l : List Nat) : V := if 4096 < l.length then .tuple [.snil, .int .i64 2] else .tuple [.imm (frame l).length (bytesV (frame l)), .int .i64 0]
theorem arrSl (i : Nat) : aSlice Try.prog 167 (.ptr i 0) none none none = some (.sl i 0 4 4) := by
  have u : Try.prog.underlying 167 = some (.array 4 5) := by kernel_rfl
  have z : sizeT Try.prog 5 = some 1 := by kernel_rfl
  unfold aSlice
  simp only [u, z]
  rfl
theorem arrSrc {h : AHeap} {i : Nat} {cs : List V} (hg : h.get i = .cells cs 167 none) (hl : cs.length = 4) (h1 : cs.all (·.one) = true) : aSrc Try.prog 1 30 (.sl i 0 4 4) h = some (4, cs) := by
  have u : Try.prog.underlying 30 = some (.slice 5) := by kernel_rfl
  unfold aSrc
  simp only [u, hg, List.drop_zero, Nat.mul_one, Nat.zero_add]
  rw [List.take_of_length_le (by omega), if_pos ⟨by omega, h1⟩]
set_option maxRecDepth 10000 in
theorem Frame (l : List Nat) (h : AHeap) (hl : l.length ≤ 2 ^ 40) : Pure Try.prog 91 [.imm l.length (bytesV l)] h (frameV l) := by
  by_cases hbig : 4096 < l.length
  · have d1 : decide ((4096 : Int) < (l.length : Nat)) = true := by simp; omega
    refine SCalls.enterI (c := _) Try.func91 rfl (by kernel_rfl) (by simp) ?_
    simp only [wpA_region, wpA_seq, wpA_cond, wpA_ret, condI_true, seqQ_normal, seqQ_ret, endI_mk, goI_out, goI_ops, opsA_nil, opsA_cons, stepA_move, stepA_assign, stepA_binOp, stepA_len, thenV_some, eval_tmp, eval_const, put_some, enterF_zero, enterF_succ, aBin_gtr, absV_int, absV_snil, aLen_imm, Nat.reduceEqDiff, reduceCtorEq, if_true, if_false, kt_30, d1, retA_ret, Try.results91, resultsA_2]
    exact hid_mk ⟨by rw [frameV, if_pos hbig], rfl⟩
  have d1 : decide ((4096 : Int) < (l.length : Nat)) = false := by simp; omega
  rw [frameV, if_neg hbig]
  refine Pure.of (Clo.tuple (CloL.cons (Clo.imm (bytesV_clo _)) (CloL.cons (Clo.int _ _) CloL.nil))) ?_
  refine SCalls.enterI (c := _) Try.func91 rfl (by kernel_rfl) (by simp) ?_
  simp only [wpA_skip, wpA_region, wpA_seq, wpA_cond, condI_false, seqQ_normal, goI_out, goI_ops, opsA_nil, opsA_cons, stepA_move, stepA_assign, stepA_binOp, stepA_len, stepA_call, thenV_some, eval_tmp, eval_const, put_some, enterF_zero, enterF_succ, aBin_gtr, absV_int, absV_snil, aLen_imm, Nat.reduceEqDiff, reduceCtorEq, List.map_cons, List.map_nil, if_true, if_false, kt_30, d1]
  refine callI_pure cal105 (sumOf l _ (by omega)) ?_
  rw [sumV_eq]
  have hset : setC (some 4) (AObj.cells [.int .u8 0, .int .u8 0, .int .u8 0, .int .u8 0] 167 none) 0 (bytesV (sumL l)) = some (.cells (bytesV (sumL l)) 167 none) := by
    rw [setC_row (n := 4) rfl (bytesV_one _), if_pos (by decide)]; rfl
  simp only [wpA_seq, wpA_draw, seqQ_normal, goI_out, goI_ops, opsA_nil, opsA_cons, stepA_alloc, stepA_store, thenH_some, thenS_some, eval_tmp, put_some, enterF_succ, cells_agg, aStore_eq, storeGo_ptr, aAlloc_eq, get_push_new, set_push, Nat.reduceEqDiff, Option.map_some, if_true, if_false, zc_167, zt_167, hset, Option.map_some]
  refine SWp.drawnS none_ [1, 3] (.q 0 (.q 2 (.e 1 (.a 3 (.q 4 (.q 5 .done))) .stop))) (by kernel_rfl) (by kernel_rfl) (by kernel_rfl) ?_
  simp only [siI_stop, siI_q, siI_e, sqI_some, seI_some, mOk_none', implies_true, qI_nil, qI_cons, thenQ_some, q_move, q_slice, goI_mk, opsA_cons, stepA_call, eval_tmp, eval_const, put_some, put_none, enterF_zero, enterF_succ, absV_snil, List.getElem?_cons_zero, List.getElem?_cons_succ, Nat.reduceEqDiff, reduceCtorEq, List.map_cons, List.map_nil, Option.map_none, and_true, true_and, if_true, if_false, arrSl]
  refine callI_of cal83 (bytesA .snil (.imm l.length (bytesV l)) [] l _ (Rd.snil _) (Rd.imm _ _) (by simp; omega)) fun r h1 a1 => ?_
  have g1 : h1.get h.n = .cells (bytesV (sumL l)) 167 none := (a1.keep.get h.n (by rw [push_n]; omega) (fun h => h)).trans get_push_new
  have a2 : Acc h h1 5 1 r (bytesV ([] ++ encBytes l)) := ⟨a1.own, (Keep.push _ _ _).trans a1.keep fun _ _ h => h, fun k hk => by have := a1.new k hk; rw [push_n] at this; omega⟩
  have hle := (enc_le l.length (by omega)).2
  obtain ⟨v, h3, e3, a3⟩ := a2.app (P := Try.prog) (tx := 30) sl_30 (by decide) (arrSrc g1 rfl (bytesV_one _)) (by rfl) (by simp only [bytesV_length, List.length_append, lim, encBytes, sumL, List.length_cons, List.length_nil]; omega) (by simp only [bytesV_length, List.length_append, lim, encBytes, sumL, List.length_cons, List.length_nil]; omega)
  simp only [siI_done, siI_q, siI_a, sqI_some, saI_some, mOk_none', implies_true, qI_nil, qI_cons, q_assign, wpA_ret, seqQ_normal, endI_mk, goI_out, goI_ops, goI_mk, opsA_nil, opsA_cons, stepA_append, thenH_some, eval_tmp, eval_const, put_some, put_none, enterF_succ, absV_int, List.getElem?_cons_zero, List.getElem?_cons_succ, Bool.false_eq_true, Nat.reduceEqDiff, true_and, if_true, if_false, e3, retA_ret, Try.results91, resultsA_2]
  refine ⟨a1.keep, hid_mk ?_⟩
  have a4 := a3.conv (show bytesV ([] ++ encBytes l) ++ bytesV (sumL l) = bytesV (frame l) by rw [← bytesV_append]; rfl)
  obtain ⟨h2, c, k2⟩ := a4.cast (n := (frame l).length) (by rw [bytesV_length, Nat.mul_one]) (by decide)
  exact ⟨h2, Cast.tuple (CastL.cons c (CastL.refl _ _)), k2⟩
end Go.Proofs.Ytlbekgogjlchjaa.Pk
namespace Go.Proofs.Ytlbekgogjlchjaa.Pk
open Go Go.Proofs Go.Proofs.Ytlbekgogjlchjaa.Ab
set_option linter.unusedVariables false
set_option linter.unusedSimpArgs false
/-! ### Two arrays of four bytes, compared -/
theorem pr_ints4 (a0 a1 a2 a3 b0 b1 b2 b3 : Int) : pureRun Try.prog (Op.equal 167 (.agg #[.int .u8 a0, .int .u8 a1, .int .u8 a2, .int .u8 a3]) (.agg #[.int .u8 b0, .int .u8 b1, .int .u8 b2, .int .u8 b3])) =
    some ((a0 == b0) && ((a1 == b1) && ((a2 == b2) && (a3 == b3)))) := by
  have u : Try.prog.underlying 167 = some (.array 4 5) := by kernel_rfl
  have u5 : Try.prog.underlying 5 = some (.int .u8) := by kernel_rfl
  have z5 : pureRun Try.prog (sizeOf 5) = some 1 := by kernel_rfl
  have p5 : ∀ (cs : Array Value) (o : Nat) (v : Value), cs[o]? = some v → pureRun Try.prog (part 5 cs o) = some v := fun cs o v hv => pr_part u5 rfl hv
  show pureRun Try.prog (Op.equalIn (9999 + 1) 167 _ _) = _
  unfold Op.equalIn
  simp only [pureRun_bind, pr_underlying u, Option.bind_some, z5]
  simp only [Std.Legacy.Range.forIn_eq_forIn_range', Std.Legacy.Range.size, List.range', List.forIn_cons, List.forIn_nil]
  have q : ∀ a b : Int, pureRun Try.prog (Op.equalIn 9999 5 (.int .u8 a) (.int .u8 b)) = some (a == b) := fun a b => pr_equal_int (d := 9998) u5
  have p0 : ∀ w x y z : Value, pureRun Try.prog (part 5 #[w, x, y, z] 0) = some w := fun w x y z => p5 _ 0 w rfl
  have p1 : ∀ w x y z : Value, pureRun Try.prog (part 5 #[w, x, y, z] 1) = some x := fun w x y z => p5 _ 1 x rfl
  have p2 : ∀ w x y z : Value, pureRun Try.prog (part 5 #[w, x, y, z] 2) = some y := fun w x y z => p5 _ 2 y rfl
  have p3 : ∀ w x y z : Value, pureRun Try.prog (part 5 #[w, x, y, z] 3) = some z := fun w x y z => p5 _ 3 z rfl
  simp only [Nat.zero_add, Nat.mul_one, Nat.reduceAdd, pureRun_bind, p0, q, Option.bind_some]
  cases (a0 == b0)
  · rfl
  simp only [Bool.not_true, Bool.false_eq_true, if_false, pr_pure, Option.bind_some, pureRun_bind, p1, q]
  cases (a1 == b1)
  · rfl
  simp only [Bool.not_true, Bool.false_eq_true, if_false, pr_pure, Option.bind_some, pureRun_bind, p2, q]
  cases (a2 == b2)
  · rfl
  simp only [Bool.not_true, Bool.false_eq_true, if_false, pr_pure, Option.bind_some, pureRun_bind, p3, q]
  cases (a3 == b3) <;> rfl
theorem neq4 (a0 a1 a2 a3 b0 b1 b2 b3 : Int) {xo yo : Operand} : aBin Try.prog .neq 167 xo yo (.agg [.int .u8 a0, .int .u8 a1, .int .u8 a2, .int .u8 a3]) (.agg [.int .u8 b0, .int .u8 b1, .int .u8 b2, .int .u8 b3]) =
    some (.bool (!((a0 == b0) && ((a1 == b1) && ((a2 == b2) && (a3 == b3)))))) := by
  have hg : Try.prog.eqGuardType Try.prog.depth 167 = false := by kernel_rfl
  have h1 := pr_ints4 a0 a1 a2 a3 b0 b1 b2 b3
  unfold aBin
  have fx : ∀ w x y z : Int, plainV (.agg [.int .u8 w, .int .u8 x, .int .u8 y, .int .u8 z]) = some (.agg #[.int .u8 w, .int .u8 x, .int .u8 y, .int .u8 z]) := fun _ _ _ _ => rfl
  simp only [fx]
  have h2 : pureRun Try.prog (eqGuard .neq 167 xo yo (.agg #[.int .u8 a0, .int .u8 a1, .int .u8 a2, .int .u8 a3]) (.agg #[.int .u8 b0, .int .u8 b1, .int .u8 b2, .int .u8 b3])) = some () := by
    simp [eqGuard, pureRun_bind, pr_program, hg, pr_pure]
  rw [pureRun_bind, h2]
  simp only [Option.bind_some, binOp, pureRun_bind, h1, pr_pure, Option.map_some]
  rfl
end Go.Proofs.Ytlbekgogjlchjaa.Pk
namespace Go.Proofs.Ytlbekgogjlchjaa.Pk
open Go Go.Proofs Go.Proofs.Ytlbekgogjlchjaa.Ab
set_option linter.unusedVariables false
set_option linter.unusedSimpArgs false
theorem lit0y (h : AHeap) : aBuildSlice Try.prog 30 0 [] h = some (.sl h.n 0 0 0, h.push (.cells [] 5 none)) := by rw [buildSlice_go sl_30]; rfl
theorem acc0y (h : AHeap) : Acc h (h.push (.cells [] 5 none)) 5 1 (.sl h.n 0 0 0) (bytesV []) :=
  ⟨.inr ⟨h.n, 0, 0, [], none, rfl, Nat.lt_succ_self _, get_push_new, rfl, rfl, .inl ⟨by simp [unk], Nat.le_refl _, Nat.le_refl _⟩⟩, Keep.push _ _ _, fun k hk => by simp [idOf] at hk; omega⟩
set_option maxRecDepth 10000 in
theorem pCloneB (l : List Nat) (hl : l.length ≤ 2 ^ 40) (h : AHeap) : Pure Try.prog 50 [.imm l.length (bytesV l)] h (.imm l.length (bytesV l)) := by
  refine Pure.of (Clo.imm (bytesV_clo _)) ?_
  cases l with
  | nil =>
    refine SCalls.imm0 ?_ ?_
    · refine SCalls.enterI (c := _) Try.func50 rfl (by kernel_rfl) (by simp) ?_
      have e := snil_nil_eql (xo := .tmp 3) (yo := .const (.slice none 0 0)) kt_30
      simp only [wpA_region, wpA_seq, wpA_cond, wpA_ret, condI_true, seqQ_normal, seqQ_ret, endI_mk, goI_out, goI_ops, opsA_nil, opsA_cons, stepA_move, stepA_assign, stepA_binOp, thenV_some, eval_tmp, eval_const, put_some, enterF_zero, enterF_succ, absV_snil, Nat.reduceEqDiff, reduceCtorEq, if_true, if_false, e, retA_ret, Try.results50, resultsA_1]
      exact hid_mk ⟨h, Cast.snil0 h, Keep.refl _ _⟩
    · refine SCalls.enterI (c := _) Try.func50 rfl (by kernel_rfl) (by simp) ?_
      have e : ∀ xo yo, aBin Try.prog .eql 30 xo yo .e0 .snil = some (.bool false) := fun xo yo => e0_nil_eql kt_30
      obtain ⟨v1, h1, e1, a1⟩ := Acc.appM (P := Try.prog) (tx := 30) sl_30 (acc0y h) (by decide) (e0_src kt_30) rfl (fun m hm => by
        change m * 1 = _ at hm
        simp [bytesV] at hm
        subst hm; exact ⟨by decide, by decide⟩)
      have b0 := lit0y h
      simp only [wpA_skip, wpA_region, wpA_seq, wpA_cond, wpA_ret, condI_false, seqQ_normal, endI_mk, goI_out, goI_ops, opsA_nil, opsA_cons, stepA_move, stepA_assign, stepA_buildSlice, stepA_binOp, stepA_append, thenV_some, thenH_some, eval_tmp, eval_const, put_some, enterF_zero, enterF_succ, absV_snil, Nat.reduceEqDiff, reduceCtorEq, List.map_nil, if_true, if_false, e, b0, e1, retA_ret, Try.results50, resultsA_1]
      obtain ⟨h2, c2, k2⟩ := a1.cast (n := 0) rfl (by decide)
      exact hid_mk ⟨h2, c2, k2⟩
  | cons x l =>
    refine SCalls.enterI (c := _) Try.func50 rfl (by kernel_rfl) (by simp) ?_
    have e : ∀ xo yo, aBin Try.prog .eql 30 xo yo (.imm (x :: l).length (bytesV (x :: l))) .snil = some (.bool false) := fun xo yo => imm_nil_eql kt_30 (by simp)
    obtain ⟨v1, h1, e1, a1⟩ := Acc.appM (P := Try.prog) (tx := 30) sl_30 (acc0y h) (by decide) (imm_src kt_30 (by rw [bytesV_length, Nat.mul_one]) (bytesV_one (x :: l))) (by rw [bytesV_length]; exact (Nat.mul_one _).symm) (fun m hm => by
      change m * 1 = (bytesV []).length + (bytesV (x :: l)).length at hm
      rw [bytesV_length, bytesV_length, List.length_nil] at hm
      exact ⟨by simp only [lim]; omega, by simp only [lim]; omega⟩)
    have b0 := lit0y h
    generalize (x :: l) = q at e e1 a1 hl ⊢
    simp only [wpA_skip, wpA_region, wpA_seq, wpA_cond, wpA_ret, condI_false, seqQ_normal, endI_mk, goI_out, goI_ops, opsA_nil, opsA_cons, stepA_move, stepA_assign, stepA_buildSlice, stepA_binOp, stepA_append, thenV_some, thenH_some, eval_tmp, eval_const, put_some, enterF_zero, enterF_succ, absV_snil, Nat.reduceEqDiff, reduceCtorEq, List.map_nil, if_true, if_false, e, b0, e1, retA_ret, Try.results50, resultsA_1]
    obtain ⟨h2, c2, k2⟩ := a1.cast (n := q.length) (by rw [show bytesV [] = [] from rfl, List.nil_append, bytesV_length, Nat.mul_one]) (by decide)
    exact hid_mk ⟨h2, c2, k2⟩
end Go.Proofs.Ytlbekgogjlchjaa.Pk
namespace Go.Proofs.Ytlbekgogjlchjaa.Pk
open Go Go.Proofs Go.Proofs.Ytlbekgogjlchjaa.Ab
set_option linter.unusedVariables false
set_option linter.unusedSimpArgs false
/-! ### The frame that stands at the head of a row of bytes -/
/-- Its payload, its length, the error. -/
def openC (b : List Nat) : List Nat × Nat × Nat :=
  if (dec (b.take 10) 0 0).2.2 ≠ 0 then ([], 0, (dec (b.take 10) 0 0).2.2)
  else if 4096 < (dec (b.take 10) 0 0).1 then ([], 0, 2)
  else if b.length < (dec (b.take 10) 0 0).2.1 + (dec (b.take 10) 0 0).1 + 4 then ([], 0, 4)
  else if (b.drop ((dec (b.take 10) 0 0).2.1 + (dec (b.take 10) 0 0).1)).take 4 = sumL ((b.drop (dec (b.take 10) 0 0).2.1).take (dec (b.take 10) 0 0).1) then
    ((b.drop (dec (b.take 10) 0 0).2.1).take (dec (b.take 10) 0 0).1, (dec (b.take 10) 0 0).2.1 + (dec (b.take 10) 0 0).1 + 4, 0)
  else ([], 0, 5)
def openV (r : List Nat × Nat × Nat) : V := if r.2.2 = 0 then .tuple [.imm r.1.length (bytesV r.1), .int .i64 (r.2.1 : Nat), .int .i64 0] else .tuple [.snil, .int .i64 0, .int .i64 (r.2.2 : Nat)]
theorem openV_clo (r : List Nat × Nat × Nat) : Clo (openV r) := by
  unfold openV
  split
  · exact Clo.tuple (CloL.cons (Clo.imm (bytesV_clo _)) (CloL.cons (Clo.int _ _) (CloL.cons (Clo.int _ _) CloL.nil)))
  · exact Clo.tuple (CloL.cons Clo.snil (CloL.cons (Clo.int _ _) (CloL.cons (Clo.int _ _) CloL.nil)))
theorem copy4 {h : AHeap} {i n : Nat} {c cs : List V} (hg : h.get i = .cells c 167 none) (hc : c.length = 4) (hn : 4 ≤ n) (hcs : cs.length = n) (h1 : cs.all (·.one) = true) :
    aCopy Try.prog 30 (.sl i 0 4 4) (.imm n cs) h = some (.int .i64 4, h.set i (.cells (cs.take 4) 167 none)) := by
  have e : elemT Try.prog 30 = some 5 := by kernel_rfl
  have z : sizeT Try.prog 5 = some 1 := by kernel_rfl
  have m : Nat.min n 4 = 4 := Nat.min_eq_right hn
  have l4 : (cs.take 4).length = 4 := by rw [List.length_take]; omega
  have hone : (cs.take 4).all (·.one) = true := List.all_eq_true.2 fun x hx => List.all_eq_true.1 h1 x (List.mem_of_mem_take hx)
  have hlay : lay c 0 (cs.take 4) = cs.take 4 := by
    unfold lay
    rw [List.drop_of_length_le (by omega)]
    simp
  unfold aCopy
  simp only [e, z, aLenOf, m, aFirst, hg, Nat.mul_one]
  rw [if_pos ⟨hn, by omega⟩]
  simp only
  rw [if_neg (by decide), if_pos ⟨by omega, hone⟩, hlay]
  rfl
theorem natOf_nat {k : IntKind} (n : Nat) : natOf (.int k (n : Int)) = some n := by
  unfold natOf
  simp
theorem bytesV_take (l : List Nat) (k : Nat) : (bytesV l).take k = bytesV (l.take k) := by unfold bytesV; rw [List.map_take]
set_option maxRecDepth 10000 in
theorem Open (b : List Nat) (h : AHeap) (hb : ∀ x ∈ b, x < 256) (hl : b.length ≤ 2 ^ 40) : Pure Try.prog 90 [.imm b.length (bytesV b)] h (openV (openC b)) := by
  refine Pure.val (openV_clo _) ?_
  have hb10 : ∀ x ∈ b.take 10, x < 256 := fun x hx => hb x (List.mem_of_mem_take hx)
  have hl10 : (b.take 10).length ≤ 10 := by rw [List.length_take]; omega
  refine SCalls.enterI (c := _) Try.func90 rfl (by kernel_rfl) (by simp) ?_
  have hsl : aSlice Try.prog 30 (.imm b.length (bytesV b)) none (some (.int .i64 (min (b.length : Int) 10))) none = some (.imm (b.take 10).length (bytesV (b.take 10))) := by
    have h1 := slice_toK b (min b.length 10) (by omega) (kk := .i64)
    have h2 : b.take (min b.length 10) = b.take 10 := by
      rcases Nat.le_total b.length 10 with hle | hle
      · rw [Nat.min_eq_left hle, List.take_of_length_le (Nat.le_refl _), List.take_of_length_le hle]
      · rw [Nat.min_eq_right hle]
    rw [h2] at h1
    rw [← h1]
    congr 4
    omega
  simp only [wpA_region, wpA_seq, seqQ_normal, goI_out, goI_ops, opsA_nil, opsA_cons, stepA_move, stepA_assign, stepA_slice, stepA_len, stepA_min, stepA_call, thenV_some, eval_tmp, eval_const, put_some, enterF_zero, enterF_succ, mmV_min, absV_int, absV_snil, aLen_imm, Nat.reduceEqDiff, reduceCtorEq, List.map_cons, List.map_nil, Option.map_some, Option.map_none, if_true, if_false, kt_30, hsl]
  refine callI_of cal59 (From (.imm (b.take 10).length (bytesV (b.take 10))) (b.take 10) h (Rd.imm _ _) (by omega)) fun r1 h1 ⟨e1, rd1, k1⟩ => ?_
  subst e1
  simp only [wpA_region, wpA_seq, seqQ_normal, goI_out, goI_ops, opsA_nil, opsA_cons, stepA_move, stepA_assign, stepA_call, eval_tmp, put_some, enterF_succ, Nat.reduceEqDiff, List.map_cons, List.map_nil, if_true, if_false]
  refine callI_of cal78 (RUint _ _ (b.take 10) h1 rd1 hb10 (by omega)) fun r2 h2 ⟨e2, rd2, k2⟩ => ?_
  subst e2
  have k3 : Keep h h2 none_ := k1.trans k2 fun k hk hi => by omega
  have hu := dec_used (b.take 10) 0 0
  have hx := dec_lt (b.take 10) 0 0 (by omega) (by decide) hb10
  unfold openC
  generalize hd : dec (b.take 10) 0 0 = D at *
  obtain ⟨n, used, err⟩ := D
  simp only at hu hx rd2 ⊢
  by_cases herr : err = 0
  case neg =>
    have d1 : ((err : Int) != 0) = true := by simp; omega
    simp only [wpA_region, wpA_seq, wpA_cond, wpA_ret, condI_true, seqQ_normal, seqQ_ret, endI_mk, goI_out, goI_ops, opsA_nil, opsA_cons, stepA_move, stepA_assign, stepA_binOp, stepA_extract, thenV_some, extV_zero, extV_succ, eval_tmp, eval_const, put_some, enterF_succ, aBin_neq, absV_int, absV_snil, Nat.reduceEqDiff, if_true, if_false, d1, retA_ret, Try.results90, resultsA_3]
    rw [if_pos herr]
    exact hid_mk ⟨by simp [openV, herr], k3⟩
  subst herr
  rw [if_neg (by simp)]
  have d0 : (((0 : Nat) : Int) != 0) = false := by simp
  by_cases hbig : 4096 < n
  · have d2 : decide ((4096 : Int) < (n : Int)) = true := by simp; omega
    simp only [wpA_skip, wpA_region, wpA_seq, wpA_cond, wpA_ret, condI_true, condI_false, seqQ_normal, seqQ_ret, endI_mk, goI_out, goI_ops, opsA_nil, opsA_cons, stepA_move, stepA_assign, stepA_binOp, stepA_extract, thenV_some, extV_zero, extV_succ, eval_tmp, eval_const, put_some, enterF_succ, aBin_neq, aBin_gtr, absV_int, absV_snil, Nat.reduceEqDiff, if_true, if_false, d0, d2, retA_ret, Try.results90, resultsA_3]
    rw [if_pos hbig]
    exact hid_mk ⟨by simp [openV], k3⟩
  rw [if_neg hbig]
  have d2 : decide ((4096 : Int) < (n : Int)) = false := by simp; omega
  simp only [wpA_skip, wpA_region, wpA_seq, wpA_cond, condI_false, seqQ_normal, goI_out, goI_ops, opsA_nil, opsA_cons, stepA_move, stepA_assign, stepA_binOp, stepA_extract, stepA_len, stepA_call, thenV_some, extV_zero, extV_succ, eval_tmp, eval_const, put_some, enterF_succ, aBin_neq, aBin_gtr, absV_int, aLen_imm, Nat.reduceEqDiff, List.map_cons, List.map_nil, if_true, if_false, kt_30, d0, d2]
  refine callI_pure cal61 (Left _ _ _ _ rd2) ?_
  have hwl : IntKind.i64.wrap ((((b.take 10).length : Nat) : Int) - ((((b.take 10).drop used).length : Nat) : Int)) = (used : Int) := by
    rw [List.length_drop, Go.IntWalk.i64_in _ (by omega)]; omega
  have hwn : IntKind.i64.wrap (n : Int) = (n : Int) := wrap_nat (by omega)
  have hwe : IntKind.i64.wrap ((used : Int) + (n : Int)) = ((used + n : Nat) : Int) := by rw [Go.IntWalk.i64_in _ (by omega)]; omega
  have hwd : IntKind.i64.wrap ((b.length : Int) - ((used + n : Nat) : Int)) = (b.length : Int) - ((used + n : Nat) : Int) := Go.IntWalk.i64_in _ (by omega)
  by_cases hsh : b.length < used + n + 4
  · have d3 : decide ((b.length : Int) - ((used + n : Nat) : Int) < 4) = true := by rw [decide_eq_true_iff]; omega
    simp only [wpA_region, wpA_seq, wpA_cond, wpA_ret, condI_true, seqQ_normal, seqQ_ret, endI_mk, goI_out, goI_ops, opsA_nil, opsA_cons, stepA_move, stepA_assign, stepA_binOp, stepA_convert, stepA_len, thenV_some, thenC_some, eval_tmp, eval_const, put_some, enterF_zero, enterF_succ, aBin_add, aBin_sub, aBin_lss, absV_int, absV_snil, aLen_imm, Nat.reduceEqDiff, reduceCtorEq, if_true, if_false, kt_30, hwl, aConv_int it_131 it_3, hwn, hwe, hwd, d3, retA_ret, Try.results90, resultsA_3]
    rw [if_pos hsh]
    exact hid_mk ⟨by simp [openV], k3⟩
  rw [if_neg hsh]
  have d3 : decide ((b.length : Int) - ((used + n : Nat) : Int) < 4) = false := by rw [decide_eq_false_iff_not]; omega
  simp only [wpA_skip, wpA_region, wpA_seq, wpA_cond, wpA_draw, condI_false, seqQ_normal, goI_out, goI_ops, opsA_nil, opsA_cons, stepA_move, stepA_assign, stepA_alloc, stepA_binOp, stepA_convert, stepA_len, thenV_some, thenC_some, thenH_some, eval_tmp, eval_const, put_some, enterF_zero, enterF_succ, aBin_add, aBin_sub, aBin_lss, absV_int, aAlloc_eq, aLen_imm, Nat.reduceEqDiff, reduceCtorEq, Option.map_some, if_true, if_false, kt_30, zc_167, hwl, aConv_int it_131 it_3, hwn, hwe, hwd, d3]
  have hse := slice_from b (used + n) (by omega) (kk := .i64)
  have hcp : aCopy Try.prog 30 (.sl h2.n 0 4 4) (.imm (b.drop (used + n)).length (bytesV (b.drop (used + n)))) (h2.push (.cells [.int .u8 0, .int .u8 0, .int .u8 0, .int .u8 0] 167 none)) =
      some (.int .i64 4, (h2.push (.cells [.int .u8 0, .int .u8 0, .int .u8 0, .int .u8 0] 167 none)).set h2.n (.cells (bytesV ((b.drop (used + n)).take 4)) 167 none)) := by
    rw [copy4 get_push_new rfl (by rw [List.length_drop]; omega) (bytesV_length _) (bytesV_one _), bytesV_take]
  refine SWp.drawnS none_ [4] (.q 0 (.q 1 (.q 2 (.q 3 (.a 4 .done))))) (by kernel_rfl) (by kernel_rfl) (by kernel_rfl) ?_
  simp only [siI_done, siI_q, siI_a, sqI_some, saI_some, mOk_none', implies_true, qI_nil, qI_cons, thenQ_some, q_move, q_slice, wpA_region, wpA_seq, seqQ_normal, goI_out, goI_ops, goI_mk, opsA_nil, opsA_cons, stepA_move, stepA_slice, stepA_copy, thenH_some, eval_tmp, put_some, enterF_zero, enterF_succ, set_push, List.getElem?_cons_zero, List.getElem?_cons_succ, Nat.reduceEqDiff, reduceCtorEq, Option.map_some, Option.map_none, true_and, if_true, if_false, arrSl, hse, hcp]
  have hpl : ((b.drop used).take n).length = n := by rw [List.length_take, List.length_drop]; omega
  have hsp : aSlice Try.prog 30 (.imm b.length (bytesV b)) (some (.int .i64 (used : Int))) (some (.int .i64 ((used + n : Nat) : Int))) none = some (.imm ((b.drop used).take n).length (bytesV ((b.drop used).take n))) := by
    rw [slice_imm (lo := some (.int .i64 (used : Int))) (hi := some (.int .i64 ((used + n : Nat) : Int))) (l := used) (m := used + n) ss_30 (natOf_nat (k := .i64) used) (natOf_nat (k := .i64) (used + n)) (by omega) (by omega) (by rw [bytesV_length, Nat.mul_one])]
    rw [hpl]
    unfold bytesV
    rw [Nat.mul_one, Nat.add_sub_cancel_left, Nat.mul_one, ← List.map_drop, ← List.map_take]
  have hg3 : (h2.push (.cells (bytesV ((b.drop (used + n)).take 4)) 167 none)).get h2.n = .cells (bytesV ((b.drop (used + n)).take 4)) 167 none := get_push_new
  have k4 : Keep h (h2.push (.cells (bytesV ((b.drop (used + n)).take 4)) 167 none)) none_ := k3.trans (Keep.push _ _ _) (fun _ _ h => h)
  generalize h2.push (.cells (bytesV ((b.drop (used + n)).take 4)) 167 none) = h4 at hg3 k4 ⊢
  generalize hpay : (b.drop used).take n = pay at hpl hsp ⊢
  generalize htold : (b.drop (used + n)).take 4 = told at hg3 ⊢
  have htl : told.length = 4 := by rw [← htold, List.length_take, List.length_drop]; omega
  obtain ⟨t0, t1, t2, t3, rfl⟩ : ∃ t0 t1 t2 t3, told = [t0, t1, t2, t3] := by
    match told, htl with
    | [t0, t1, t2, t3], _ => exact ⟨t0, t1, t2, t3, rfl⟩
  simp only [wpA_seq, wpA_draw, seqQ_normal, goI_out, goI_ops, opsA_nil, opsA_cons, stepA_assign, thenV_some, eval_tmp, put_some, enterF_succ, Nat.reduceEqDiff, if_true, if_false, hsp]
  refine SWp.drawnS none_ [] (.q 0 (.q 1 (.c 2 (.q 3 .done)))) (by kernel_rfl) (by kernel_rfl) (by kernel_rfl) ?_
  have hdc : dropC (.cells (bytesV [t0, t1, t2, t3]) 167 none) 0 = some (bytesV [t0, t1, t2, t3]) := rfl
  have hld : loadGo (some (some 4)) (some (bytesV [t0, t1, t2, t3])) = some (.agg (bytesV [t0, t1, t2, t3])) := rfl
  simp only [siI_q, sqI_some, mOk_none', implies_true, qI_nil, qI_cons, thenQ_some, q_move, q_load, goI_mk, eval_tmp, put_some, enterF_succ, aLoad_eq, aPlace_ptr, List.getElem?_cons_zero, List.getElem?_cons_succ, Nat.reduceEqDiff, true_and, if_true, if_false, lt_167, hg3, hdc, hld]
  refine siI_c rfl rfl rfl (fun h' _ => sumOf pay h' (by omega)) ?_
  have hcond : (((t0 : Int) == sumB pay 0) && (((t1 : Int) == sumB pay 1) && (((t2 : Int) == sumB pay 2) && ((t3 : Int) == sumB pay 3)))) = decide ([t0, t1, t2, t3] = sumL pay) := by
    rw [Bool.eq_iff_iff]
    have e0 := sumB_nat pay 0
    have e1 := sumB_nat pay 1
    have e2 := sumB_nat pay 2
    have e3 := sumB_nat pay 3
    simp only [Bool.and_eq_true, beq_iff_eq, decide_eq_true_iff, sumL, List.cons.injEq, and_true]
    constructor
    · rintro ⟨h0, h1, h2, h3⟩
      omega
    · rintro ⟨h0, h1, h2, h3⟩
      omega
  have hneq : ∀ xo yo, aBin Try.prog .neq 167 xo yo (.agg [.int .u8 (t0 : Int), .int .u8 (t1 : Int), .int .u8 (t2 : Int), .int .u8 (t3 : Int)]) (.agg [.int .u8 (sumB pay 0), .int .u8 (sumB pay 1), .int .u8 (sumB pay 2), .int .u8 (sumB pay 3)]) = some (.bool (!decide ([t0, t1, t2, t3] = sumL pay))) := fun xo yo => by rw [neq4, hcond]
  have hbv : bytesV [t0, t1, t2, t3] = [.int .u8 (t0 : Int), .int .u8 (t1 : Int), .int .u8 (t2 : Int), .int .u8 (t3 : Int)] := rfl
  by_cases hok : [t0, t1, t2, t3] = sumL pay
  · have d4 : (!decide ([t0, t1, t2, t3] = sumL pay)) = false := by simp [hok]
    rw [if_pos hok]
    simp only [siI_done, siI_q, sqI_some, mOk_none', implies_true, qI_nil, qI_cons, thenQ_some, q_binOp, wpA_skip, wpA_region, wpA_seq, wpA_cond, condI_false, seqQ_normal, goI_out, goI_ops, goI_mk, opsA_cons, stepA_move, stepA_call, eval_tmp, put_some, enterF_succ, List.getElem?_cons_zero, List.getElem?_cons_succ, Nat.reduceEqDiff, List.map_cons, List.map_nil, true_and, if_true, if_false, sumV, hbv, hneq, d4]
    refine callI_pure cal50 (pCloneB pay (by omega) h4) ?_
    have hw4 : IntKind.i64.wrap (((used + n : Nat) : Int) + 4) = ((used + n + 4 : Nat) : Int) := by rw [Go.IntWalk.i64_in _ (by omega)]; omega
    simp only [wpA_ret, seqQ_normal, endI_mk, goI_out, goI_ops, opsA_nil, opsA_cons, stepA_move, stepA_assign, stepA_binOp, thenV_some, eval_tmp, eval_const, put_some, enterF_succ, aBin_add, absV_int, Nat.reduceEqDiff, if_true, if_false, hw4, retA_ret, Try.results90, resultsA_3]
    exact hid_mk ⟨by simp [openV], k4⟩
  · have d4 : (!decide ([t0, t1, t2, t3] = sumL pay)) = true := by simp [hok]
    rw [if_neg hok]
    simp only [siI_done, siI_q, sqI_some, mOk_none', implies_true, qI_nil, qI_cons, thenQ_some, q_binOp, wpA_region, wpA_seq, wpA_cond, wpA_ret, condI_true, seqQ_normal, seqQ_ret, endI_mk, goI_out, goI_ops, goI_mk, opsA_nil, opsA_cons, stepA_assign, eval_tmp, eval_const, put_some, enterF_succ, absV_int, absV_snil, List.getElem?_cons_zero, List.getElem?_cons_succ, Nat.reduceEqDiff, true_and, if_true, if_false, sumV, hbv, hneq, d4, wpA_region, wpA_seq, wpA_cond, wpA_ret, condI_true, seqQ_normal, seqQ_ret, endI_mk, goI_out, goI_ops, goI_mk, opsA_nil, opsA_cons, stepA_assign, eval_tmp, eval_const, put_some, enterF_succ, absV_int, absV_snil, List.getElem?_cons_zero, List.getElem?_cons_succ, Nat.reduceEqDiff, true_and, if_true, if_false, retA_ret, Try.results90, resultsA_3]
    exact hid_mk ⟨by simp [openV], k4⟩
end Go.Proofs.Ytlbekgogjlchjaa.Pk
namespace Go.Proofs.Ytlbekgogjlchjaa.Pk
open Go Go.Proofs Go.Proofs.Ytlbekgogjlchjaa.Ab
set_option linter.unusedVariables false
set_option linter.unusedSimpArgs false
/-! ### All frames from the beginning on -/
def scanF : Nat → List Nat → List (List Nat) × Nat
  | 0, _ => ([], 0)
  | k + 1, b => if b = [] ∨ (openC b).2.2 ≠ 0 then ([], 0) else ((openC b).1 :: (scanF k (b.drop (openC b).2.1)).1, (openC b).2.1 + (scanF k (b.drop (openC b).2.1)).2)
def rowV (l : List (List Nat)) : List V := l.map fun p => .imm p.length (bytesV p)
def scanV (r : List (List Nat) × Nat) : V := .tuple [.imm r.1.length (rowV r.1), .int .i64 (r.2 : Nat)]
theorem rowV_clo (l : List (List Nat)) : CloL (rowV l) := CloL.map fun p _ => Clo.imm (bytesV_clo p)
theorem rowV_len (l : List (List Nat)) : (rowV l).length = l.length := by simp [rowV]
theorem rowV_app (a b : List (List Nat)) : rowV (a ++ b) = rowV a ++ rowV b := by simp [rowV]
theorem openC_ok (b : List Nat) (h : (openC b).2.2 = 0) : 4 ≤ (openC b).2.1 ∧ (openC b).2.1 ≤ b.length := by
  unfold openC at *
  by_cases h1 : (dec (b.take 10) 0 0).2.2 ≠ 0
  · rw [if_pos h1] at h
    exact absurd h h1
  rw [if_neg h1] at h ⊢
  by_cases h2 : 4096 < (dec (b.take 10) 0 0).1
  · rw [if_pos h2] at h
    exact absurd h (by decide)
  rw [if_neg h2] at h ⊢
  by_cases h3 : b.length < (dec (b.take 10) 0 0).2.1 + (dec (b.take 10) 0 0).1 + 4
  · rw [if_pos h3] at h
    exact absurd h (by decide)
  rw [if_neg h3] at h ⊢
  split at h
  · rename_i h4
    rw [if_pos h4]
    exact ⟨by simp only; omega, by simp only; omega⟩
  · exact absurd h (by decide)
theorem lit1r (h : AHeap) (n : Nat) (cs : List V) : aBuildSlice Try.prog 54 1 [(0, .imm n cs)] h = some (.sl h.n 0 1 1, h.push (.cells [.imm n cs] 30 none)) := by
  rw [buildSlice_go sl_54]
  rfl
set_option maxRecDepth 10000 in
theorem Scan (b : List Nat) (h : AHeap) (hb : ∀ x ∈ b, x < 256) (hl : b.length ≤ 2 ^ 30) : SCalls Try.prog 76 [.imm b.length (bytesV b)] h (fun r h' => ∃ v, r = .tuple [v, .int .i64 ((scanF b.length b).2 : Nat)] ∧ Acc h h' 30 1 v (rowV (scanF b.length b).1)) := by
  refine SCalls.enterI (c := _) Try.func76 rfl (by kernel_rfl) (by simp) ?_
  simp only [wpA_region, wpA_seq, wpA_scope, seqQ_normal, goI_out, goI_ops, opsA_nil, opsA_cons, stepA_assign, eval_const, absV_int, absV_snil]
  refine SWp.scopeG (α := Unit) (l := 0) rfl (fun _ _ _ => False) (fun _ => 0) (fun _ _ _ hF => hF.elim) (fun _ _ _ hF => hF.elim) fun _ => ?_
  refine wpI_sound (by kernel_rfl) ?_
  simp only [wpA_region, wpA_seq, wpA_block, wpA_label, wpA_loop, seqQ_normal, goI_out, goI_ops, opsA_nil, opsA_cons, stepA_assign, eval_const, absV_int, absV_snil]
  refine SWp.loopG (α := Nat × List (List Nat) × Nat × V) (fun x f h' => f 0 = .imm b.length (bytesV b) ∧ f 4 = x.2.2.2 ∧ f 5 = .int .i64 (x.2.2.1 : Nat) ∧ x.2.2.1 ≤ b.length ∧ x.2.1.length ≤ x.2.2.1 ∧ b.length - x.2.2.1 ≤ x.1 ∧ Acc h h' 30 1 x.2.2.2 (rowV x.2.1) ∧
    x.2.1 ++ (scanF x.1 (b.drop x.2.2.1)).1 = (scanF b.length b).1 ∧ x.2.2.1 + (scanF x.1 (b.drop x.2.2.1)).2 = (scanF b.length b).2) (fun x => x.1) (b.length, [], 0, .snil)
    ⟨rfl, rfl, rfl, Nat.zero_le _, Nat.le_refl _, Nat.le_refl _, Acc.nil (Keep.refl _ _), by simp, by simp⟩ ?_
  rintro ⟨k, acc, at_, v⟩ f h1 ⟨f0, f4, f5, hat, hal, hk, a1, hS1, hS2⟩
  simp only at f0 f4 f5 hat hal hk a1 hS1 hS2
  refine wpI_sound (by kernel_rfl) ?_
  have fin : Acc h h1 30 1 v (rowV acc) → (scanF k (b.drop at_)) = ([], 0) → ∃ v2, V.tuple [v, .int .i64 (at_ : Nat)] = .tuple [v2, .int .i64 ((scanF b.length b).2 : Nat)] ∧ Acc h h1 30 1 v2 (rowV (scanF b.length b).1) := fun a1 hz => by
    rw [hz] at hS1 hS2
    simp only [List.append_nil, Nat.add_zero] at hS1 hS2
    rw [← hS1, ← hS2]
    exact ⟨v, rfl, a1⟩
  by_cases hlt : at_ < b.length
  · have d1 : decide ((at_ : Int) < ((b.length : Nat) : Int)) = true := by rw [decide_eq_true_iff]; omega
    have hsl := slice_from b at_ (by omega) (kk := .i64)
    obtain ⟨k', rfl⟩ : ∃ k', k = k' + 1 := ⟨k - 1, by omega⟩
    have hne : b.drop at_ ≠ [] := fun hh => by
      have := congrArg List.length hh
      rw [List.length_drop, List.length_nil] at this
      omega
    simp only [wpA_skip, wpA_region, wpA_seq, wpA_cond, wpA_block, condI_true, seqQ_normal, goI_out, goI_ops, opsA_nil, opsA_cons, stepA_move, stepA_binOp, stepA_slice, stepA_len, stepA_call, thenV_some, eval_tmp, put_some, aBin_lss, aLen_imm, Nat.reduceEqDiff, reduceCtorEq, List.map_cons, List.map_nil, Option.map_some, Option.map_none, if_true, if_false, kt_30, f0, f5, d1, hsl]
    refine callI_pure cal90 (Open (b.drop at_) h1 (fun x hx => hb x (List.mem_of_mem_drop hx)) (by rw [List.length_drop]; omega)) ?_
    have hok := openC_ok (b.drop at_)
    have hF : scanF (k' + 1) (b.drop at_) = if b.drop at_ = [] ∨ (openC (b.drop at_)).2.2 ≠ 0 then ([], 0) else ((openC (b.drop at_)).1 :: (scanF k' ((b.drop at_).drop (openC (b.drop at_)).2.1)).1, (openC (b.drop at_)).2.1 + (scanF k' ((b.drop at_).drop (openC (b.drop at_)).2.1)).2) := rfl
    rw [List.length_drop] at hok
    generalize openC (b.drop at_) = O at hok hF ⊢
    obtain ⟨pay, len, err⟩ := O
    simp only at hok hF
    by_cases herr : err = 0
    · obtain ⟨hlo, hhi⟩ := hok herr
      subst herr
      rw [if_neg (by simp [hne]), List.drop_drop] at hF
      have d2 : ((0 : Int) != 0) = false := rfl
      have hw : IntKind.i64.wrap ((at_ : Int) + (len : Int)) = ((at_ + len : Nat) : Int) := by rw [Go.IntWalk.i64_in _ (by omega)]; omega
      have hl1 := lit1r h1 pay.length (bytesV pay)
      obtain ⟨v2, h2, e2, a2⟩ := a1.elem (P := Try.prog) sl_54 (by decide) (xs := [.imm pay.length (bytesV pay)]) rfl rfl (by simp only [rowV_len, lim]; omega) (by simp only [rowV_len, lim]; omega)
      have hov : openV (pay, len, 0) = .tuple [.imm pay.length (bytesV pay), .int .i64 (len : Nat), .int .i64 0] := rfl
      simp only [hov, wpA_skip, wpA_region, wpA_seq, wpA_cond, condI_false, seqQ_normal, blkQ_normal, endI_mk, andThen_normal, goI_out, goI_ops, opsA_nil, opsA_cons, stepA_move, stepA_assign, stepA_buildSlice, stepA_binOp, stepA_extract, stepA_append, thenV_some, thenH_some, extV_zero, extV_succ, eval_tmp, eval_const, put_some, aBin_add, aBin_neq, absV_int, bne_self_eq_false, Nat.reduceEqDiff, List.map_cons, List.map_nil, if_true, if_false, f4, f5, hl1, e2, hw]
      rw [hF] at hS1 hS2
      refine hid_mk ⟨(k', acc ++ [pay], at_ + len, v2), ⟨f0, rfl, rfl, by simp only; omega, by simp only [List.length_append, List.length_cons, List.length_nil]; omega, by simp only; omega, ?_, ?_, ?_⟩, by simp only; omega⟩
      · rw [rowV_app]; exact a2
      · rw [← hS1]; simp [List.append_assoc]
      · rw [← hS2]; simp only; omega
    · have d2 : ((err : Int) != 0) = true := by simp; omega
      have hov : openV (pay, len, err) = .tuple [.snil, .int .i64 0, .int .i64 (err : Nat)] := by simp [openV, herr]
      rw [if_pos (.inr herr)] at hF
      simp only [hov, wpA_region, wpA_seq, wpA_cond, wpA_exit, wpA_ret, condI_true, seqQ_normal, seqQ_exit, blkQ_exit, endI_mk, goE, andThen_normal, andThen_exit, goI_out, goI_ops, opsA_nil, opsA_cons, stepA_move, stepA_assign, stepA_binOp, stepA_extract, thenV_some, extV_zero, extV_succ, eval_tmp, eval_const, put_some, aBin_neq, absV_int, Nat.reduceEqDiff, reduceCtorEq, if_true, if_false, f4, f5, d2]
      exact hid_mk (fin a1 hF)
  · have d1 : decide ((at_ : Int) < ((b.length : Nat) : Int)) = false := by rw [decide_eq_false_iff_not]; omega
    have hz : scanF k (b.drop at_) = ([], 0) := by
      rw [List.drop_of_length_le (by omega)]
      cases k with
      | zero => rfl
      | succ k => simp [scanF]
    simp only [wpA_region, wpA_seq, wpA_cond, wpA_exit, wpA_ret, condI_false, seqQ_normal, seqQ_exit, blkQ_exit, endI_mk, goE, andThen_exit, goI_out, goI_ops, opsA_nil, opsA_cons, stepA_move, stepA_assign, stepA_binOp, stepA_len, thenV_some, eval_tmp, put_some, aBin_lss, aLen_imm, Nat.reduceEqDiff, reduceCtorEq, if_true, if_false, kt_30, f0, f4, f5, d1]
    exact hid_mk (fin a1 hz)
end Go.Proofs.Ytlbekgogjlchjaa.Pk
