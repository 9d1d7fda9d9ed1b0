/-
  What functions of the program do, told of abstract states. Conditions: as each theorem says.
-/
import Derived.Test.YtpobgoeeljknpaaDoorPkK
import Derived.Test.YtpobgoeeljknpaaDoorAbD
namespace Go.Proofs.YtpobgoeeljknpaaDoor.Pk
open Go Go.Proofs Go.Proofs.YtpobgoeeljknpaaDoor.Ab
set_option linter.unusedVariables false
set_option linter.unusedSimpArgs false
theorem wrap_nat {n : Nat} (h : n < 2 ^ 63) : IntKind.i64.wrap (n : Int) = (n : Int) := Go.IntWalk.i64_in _ (by omega)
theorem wrap_natU {n : Nat} (h : n < 2 ^ 64) : IntKind.u64.wrap (n : Int) = (n : Int) := by rw [IntKind.wrap_u64]; omega
theorem app0b (h : AHeap) : aBuildSlice Tryd.prog 43 0 [] h = some (.sl h.n 0 0 0, h.push (.cells [] 5 none)) := by rw [buildSlice_go sl_43]; rfl
theorem acc0 (h : AHeap) (e : TypeId) : Acc h (h.push (.cells [] e none)) e 1 (.sl h.n 0 0 0) [] :=
  ⟨Own.fresh [] 0 0 rfl (Nat.le_refl _) (by decide), Keep.push _ _ _, fun k hk => by simp [idOf] at hk; omega⟩
set_option maxRecDepth 10000 in
theorem rUintA (s : V) (cs : List Nat) (n : Nat) (h : AHeap) (rd : Rd h s cs) (hc : cs.length ≤ 2 ^ 46) (hn : n < 2 ^ 64) :
    SCalls Tryd.prog 57 [s, .int .u64 n] h (fun r h' => Acc h h' 5 1 r (bytesV (cs ++ enc n))) := by
  refine SCalls.enterI (c := _) Tryd.func57 rfl (by kernel_rfl) (by simp) ?_
  obtain ⟨v, h1, e1, a1⟩ := (acc0 h 5).app (P := Tryd.prog) (tx := 43) sl_43 (by decide) (rd.src _ (Keep.push _ _ _)) (by rw [bytesV_length, Nat.mul_one]) (by simp only [bytesV_length, List.length_nil, lim]; omega) (by simp only [bytesV_length, List.length_nil, lim]; omega)
  rw [List.nil_append] at a1
  simp only [wpA_region, wpA_seq, wpA_block, wpA_loop, seqQ_normal, goI_out, goI_ops, opsA_nil, opsA_cons, stepA_move, stepA_assign, stepA_buildSlice, stepA_append, thenH_some, eval_tmp, eval_const, put_some, enterF_zero, enterF_succ, absV_snil, Nat.reduceEqDiff, reduceCtorEq, List.map_nil, if_true, if_false, app0b, e1]
  refine SWp.loopG (α := V × List Nat × Nat) (fun x f h' => f 5 = x.1 ∧ f 1 = .int .u64 (x.2.2 : Nat) ∧ Acc h h' 5 1 x.1 (bytesV x.2.1) ∧ x.2.1 ++ enc x.2.2 = cs ++ enc n ∧ x.2.2 < 2 ^ 64) (fun x => x.2.2) (v, cs, n)
    ⟨rfl, rfl, a1, rfl, hn⟩ ?_
  rintro ⟨s', cs', n'⟩ f h2 ⟨f5, f1, a2, hcs, hn'⟩
  simp only at f5 f1 a2 hcs hn'
  refine wpI_sound (by kernel_rfl) ?_
  have hlen : cs'.length + 1 ≤ cs.length + 10 := by
    have h1 := congrArg List.length hcs
    have h2 := enc_le n hn
    have h3 := enc_le n' hn'
    simp at h1
    omega
  by_cases hlt : 127 < n'
  · have c1 : decide ((127 : Int) < (n' : Int)) = true := by simp; omega
    have e2 : IntKind.u64.wrap (128 + (n' : Int).tmod 128) = ((128 + n' % 128 : Nat) : Int) := by
      rw [Int.tmod_eq_emod_of_nonneg (by omega), IntKind.wrap_u64]; omega
    have e3 : IntKind.u8.wrap ((128 + n' % 128 : Nat) : Int) = ((n' % 128 + 128 : Nat) : Int) := by rw [IntKind.wrap_u8]; omega
    have e4 : IntKind.u64.wrap ((n' : Int).tdiv 128) = ((n' / 128 : Nat) : Int) := by
      rw [Int.tdiv_eq_ediv_of_nonneg (by omega), IntKind.wrap_u64]; omega
    obtain ⟨v, h3, q1, a3⟩ := a2.elem (P := Tryd.prog) sl_43 (by decide) (xs := [.int .u8 ((n' % 128 + 128 : Nat) : Int)]) rfl rfl (by simp [bytesV_length, lim]; omega) (by simp [bytesV_length, lim]; omega)
    simp only [wpA_skip, wpA_region, wpA_seq, wpA_cond, wpA_block, condI_true, seqQ_normal, blkQ_normal, endI_mk, andThen_normal, goI_out, goI_ops, opsA_nil, opsA_cons, stepA_move, stepA_assign, stepA_buildSlice, stepA_binOp, stepA_convert, stepA_append, thenV_some, thenC_some, thenH_some, eval_tmp, eval_const, put_some, aBin_add, aBin_gtr, absV_int, Nat.reduceEqDiff, List.map_cons, List.map_nil, if_true, if_false, f5, f1, c1, aBin_rem (show (128 : Int) ≠ 0 by decide), aBin_quo (show (128 : Int) ≠ 0 by decide), e2, aConv_int it_93 it_5, e3, lit1b, q1, e4]
    refine hid_mk ⟨(v, cs' ++ [n' % 128 + 128], n' / 128), ⟨rfl, rfl, ?_, ?_, by simp only; omega⟩, by simp; omega⟩
    · exact a3.conv (by rw [bytesV_append]; rfl)
    · simp only
      rw [← hcs, enc_big (n := n') (by omega)]
      simp
  · have c1 : decide ((127 : Int) < (n' : Int)) = false := by simp; omega
    obtain ⟨v, h3, q1, a3⟩ := a2.elem (P := Tryd.prog) sl_43 (by decide) (xs := [.int .u8 (n' : Int)]) rfl rfl (by simp [bytesV_length, lim]; omega) (by simp [bytesV_length, lim]; omega)
    simp only [wpA_region, wpA_seq, wpA_cond, wpA_exit, wpA_ret, condI_false, seqQ_normal, seqQ_exit, blkQ_exit, endI_mk, goE, andThen_exit, goI_out, goI_ops, opsA_nil, opsA_cons, stepA_move, stepA_assign, stepA_buildSlice, stepA_binOp, stepA_convert, stepA_append, thenV_some, thenC_some, thenH_some, eval_tmp, eval_const, put_some, aBin_gtr, absV_int, Nat.reduceEqDiff, List.map_cons, List.map_nil, if_true, if_false, f5, f1, c1, aConv_int it_93 it_5, wrapu8 n' (by omega), lit1b, q1, retA_ret, Tryd.results57, resultsA_1]
    refine hid_mk (a3.conv ?_)
    rw [← hcs, enc_small (by omega), bytesV_append]
    rfl
theorem rUint (s : V) (cs : List Nat) (n : Nat) (h : AHeap) (rd : Rd h s cs) (hc : cs.length ≤ 2 ^ 46) (hn : n < 2 ^ 64) :
    Pure Tryd.prog 57 [s, .int .u64 n] h (.imm (cs ++ enc n).length (bytesV (cs ++ enc n))) :=
  Pure.acc (e := 5) (sz := 1) (bytesV_clo _) (by rw [bytesV_length, Nat.mul_one]) (by omega) (rUintA s cs n h rd hc hn)
theorem rInt (s : V) (cs : List Nat) (n : Int) (h : AHeap) (rd : Rd h s cs) (hc : cs.length ≤ 2 ^ 46) (h1 : -2 ^ 63 ≤ n) (h2 : n < 2 ^ 63) :
    Pure Tryd.prog 58 [s, .int .i64 n] h (.imm (cs ++ enc (zz n)).length (bytesV (cs ++ enc (zz n)))) := by
  have h1' : -9223372036854775808 ≤ n := by simpa using h1
  have h2' : n < 9223372036854775808 := by simpa using h2
  refine SCalls.enterI (c := _) Tryd.func58 rfl (by kernel_rfl) (by simp) ?_
  by_cases h0 : n < 0
  · have c1 : decide (n < (0 : Int)) = true := by simp; omega
    have e : IntKind.u64.wrap (IntKind.u64.wrap (2 * IntKind.u64.wrap (IntKind.i64.wrap (0 - IntKind.i64.wrap (n + 1)))) + 1) = ((zz n : Nat) : Int) := by
      unfold zz
      rw [if_neg (by omega), Go.IntWalk.i64_in (n + 1) (by omega), Go.IntWalk.i64_in _ (by omega), IntKind.wrap_u64, IntKind.wrap_u64, IntKind.wrap_u64]
      omega
    simp only [wpA_region, wpA_seq, wpA_cond, condI_true, seqQ_normal, goI_out, goI_ops, opsA_nil, opsA_cons, stepA_move, stepA_assign, stepA_binOp, stepA_unOp, stepA_convert, stepA_call, thenV_some, thenC_some, eval_tmp, eval_const, put_some, enterF_zero, enterF_succ, aBin_add, aBin_mul, aBin_lss, aUn_neg, absV_int, absV_snil, Nat.reduceEqDiff, reduceCtorEq, List.map_cons, List.map_nil, if_true, if_false, c1, aConv_int it_2 it_93, e]
    refine callI_pure cal57 (rUint s cs (zz n) h rd hc (zz_lt n h1 h2)) ?_
    simp only [wpA_ret, seqQ_normal, seqQ_ret, endI_mk, goI_out, goI_ops, opsA_nil, opsA_cons, stepA_assign, eval_tmp, put_some, enterF_succ, Nat.reduceEqDiff, if_true, if_false, retA_ret, Tryd.results58, resultsA_1]
    exact hid_mk ⟨rfl, rfl⟩
  · have c1 : decide (n < (0 : Int)) = false := by simp; omega
    have e : IntKind.u64.wrap (2 * IntKind.u64.wrap n) = ((zz n : Nat) : Int) := by
      unfold zz
      rw [if_pos (by omega), IntKind.wrap_u64, IntKind.wrap_u64]
      omega
    simp only [wpA_skip, wpA_region, wpA_seq, wpA_cond, condI_false, seqQ_normal, goI_out, goI_ops, opsA_nil, opsA_cons, stepA_move, stepA_assign, stepA_binOp, stepA_convert, stepA_call, thenV_some, thenC_some, eval_tmp, eval_const, put_some, enterF_zero, enterF_succ, aBin_mul, aBin_lss, absV_int, absV_snil, Nat.reduceEqDiff, reduceCtorEq, List.map_cons, List.map_nil, if_true, if_false, c1, aConv_int it_2 it_93, e]
    refine callI_pure cal57 (rUint s cs (zz n) h rd hc (zz_lt n h1 h2)) ?_
    simp only [wpA_ret, seqQ_normal, endI_mk, goI_out, goI_ops, opsA_nil, opsA_cons, stepA_assign, eval_tmp, put_some, enterF_succ, Nat.reduceEqDiff, if_true, if_false, retA_ret, Tryd.results58, resultsA_1]
    exact hid_mk ⟨rfl, rfl⟩
end Go.Proofs.YtpobgoeeljknpaaDoor.Pk
