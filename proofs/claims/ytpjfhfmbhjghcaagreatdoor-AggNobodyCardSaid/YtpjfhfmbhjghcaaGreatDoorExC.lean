/-
  What functions of the program do, told of abstract states. Conditions: as each theorem says.
-/
import Derived.Test.YtpjfhfmbhjghcaaGreatDoorExB
namespace Go.Proofs.YtpjfhfmbhjghcaaGreatDoor.Pk
open Go Go.Proofs Go.Proofs.YtpjfhfmbhjghcaaGreatDoor.Ab
set_option linter.unusedVariables false
set_option linter.unusedSimpArgs false

/-- A call that leaves the memory as it was, and answers or panics. -/
def PureE (P : Program) (f : FuncId) (args : List V) (h : AHeap) (o : Option V) : Prop := SCallsE P f args h (fun r h' => o = some r ∧ h' = h) (fun h' => h' = h ∧ o = none)
theorem PureE.pure {P : Program} {f : FuncId} {args : List V} {h : AHeap} {v : V} (hc : PureE P f args h (some v)) : Pure P f args h v :=
  SCallsE.mono hc (fun r h' ⟨e1, e2⟩ => ⟨(Option.some.inj e1).symm, e2⟩) fun h' ⟨_, e⟩ => by cases e
theorem Pure.e {P : Program} {f : FuncId} {args : List V} {h : AHeap} {v : V} (hc : Pure P f args h v) : PureE P f args h (some v) :=
  SCallsE.mono hc (fun r h' ⟨e1, e2⟩ => ⟨by rw [e1], e2⟩) fun h' e => e.elim
theorem PureE.of {P : Program} {f : FuncId} {args : List V} {h : AHeap} (o : Option V) (hv : ∀ v, o = some v → Clo v) (hc : SCallsE P f args h (fun r h' => o = some r ∧ Keep h h' none_) (fun h' => Keep h h' none_ ∧ o = none)) : PureE P f args h o := by
  intro ρ B w0 w args' hw ha
  refine (hc ρ B w0 w args' hw ha).mono fun e w' hh => ?_
  rcases hh with ⟨ρ', r, r', h', he, hr, hw', hle, e1, hk⟩ | ⟨ρ', ch, h', he, hch, hw', hle, hk, hE⟩
  · exact .inl ⟨⟨ρ.ren, ρ'.frz, ρ.dfr⟩, r, r', h, he, hv r e1 _ _ _ hr fun _ _ h => h, hw.forget hw' hle hk, ⟨fun _ _ h => h, hle.frz, rfl⟩, e1, rfl⟩
  · exact .inr ⟨⟨ρ.ren, ρ'.frz, ρ.dfr⟩, ch, h, he, hch, hw.forget hw' hle hk, ⟨fun _ _ h => h, hle.frz, rfl⟩, rfl, hE⟩
def iV (o : Option Int) : Option V := o.map (.int .i64)
theorem iV_clo (o : Option Int) : ∀ v, iV o = some v → Clo v := fun v h => by
  obtain ⟨n, _, rfl⟩ := Option.map_eq_some_iff.1 h
  exact Clo.int _ _

theorem pTruth (b : Bool) (h : AHeap) : Pure Tryz.prog 145 [.bool b] h (.int .i64 (if b then 1 else 0)) := by
  refine SCalls.enterI (c := _) Tryz.func145 rfl (by kernel_rfl) (by simp) ?_
  cases b <;>
  · simp only [wpA_skip, wpA_region, wpA_seq, wpA_cond, wpA_ret, condI_true, condI_false, seqQ_normal, seqQ_ret, endI_mk, goI_out, goI_ops, opsA_nil, opsA_cons, stepA_move, stepA_assign, eval_tmp, eval_const, put_some, enterF_zero, enterF_succ, absV_int, Nat.reduceEqDiff, reduceCtorEq, if_true, if_false, retA_ret, Tryz.results145, resultsA_1]
    exact hid_mk ⟨rfl, rfl⟩
theorem eDivisor (n : Int) (h : AHeap) : PureE Tryz.prog 144 [.int .i64 n] h (if n = 0 then none else some (.int .i64 n)) := by
  refine SCallsE.enterI (c := _) Tryz.func144 rfl (by kernel_rfl) (by simp) ?_
  by_cases h0 : n = 0
  · have c : (n == 0) = true := by simp [h0]
    simp only [wpA_region, wpA_seq, wpA_cond, condI_true, seqQ_normal, seqQ_panic, endI_mk, excE_out, excE_ops, goI_out, goI_ops, opsA_nil, opsA_cons, stepA_move, stepA_assign, stepA_binOp, stepA_makeInterface, stepA_panic, panI_iface, ifcV_false, thenV_some, eval_tmp, eval_const, put_some, enterF_zero, enterF_succ, aBin_eql, absV_int, Nat.reduceEqDiff, reduceCtorEq, if_true, if_false, if_32, c, panI_iface, retA_panic]
    exact hid_mk ⟨rfl, by rw [if_pos h0]⟩
  · have c : (n == 0) = false := by simp [h0]
    simp only [wpA_skip, wpA_region, wpA_seq, wpA_cond, wpA_ret, condI_false, seqQ_normal, endI_mk, goI_out, goI_ops, opsA_nil, opsA_cons, stepA_move, stepA_assign, stepA_binOp, thenV_some, eval_tmp, eval_const, put_some, enterF_zero, enterF_succ, aBin_eql, absV_int, Nat.reduceEqDiff, reduceCtorEq, if_true, if_false, c, retA_ret, Tryz.results144, resultsA_1]
    exact hid_mk ⟨by rw [if_neg h0], rfl⟩
def w64 (n : Int) : Int := IntKind.i64.wrap n
def combX (op a b : Int) : Option Int :=
  if op = 6 then some (w64 (a + b)) else if op = 7 then some (w64 (a - b)) else if op = 8 then some (w64 (a * b))
  else if op = 9 then (if b = 0 then none else some (w64 (a.tdiv b))) else if op = 10 then (if b = 0 then none else some (a.tmod b))
  else if op = 11 then some (if a < b then 1 else 0) else if op = 12 then some (if a = b then 1 else 0) else if op = 15 then some (min a b) else some (max a b)

set_option maxRecDepth 10000 in
theorem eCombine (op a b : Int) (h : AHeap) : PureE Tryz.prog 113 [.int .i64 op, .int .i64 a, .int .i64 b] h (iV (combX op a b)) := by
  refine SCallsE.enterI (c := _) Tryz.func113 rfl (by kernel_rfl) (by simp) ?_
  by_cases h6 : op = 6
  · have c : (op == 6) = true := by simp [h6]
    simp only [wpA_region, wpA_seq, wpA_cond, wpA_block, wpA_ret, condI_true, seqQ_normal, seqQ_ret, blkQ_ret, endI_mk, goI_out, goI_ops, opsA_nil, opsA_cons, stepA_move, stepA_assign, stepA_binOp, thenV_some, eval_tmp, eval_const, put_some, enterF_zero, enterF_succ, aBin_add, aBin_eql, absV_int, Nat.reduceEqDiff, reduceCtorEq, if_true, if_false, c, retA_ret, Tryz.results113, resultsA_1]
    exact hid_mk ⟨by simp [combX, h6, iV, w64], rfl⟩
  have c6 : (op == 6) = false := by simp [h6]
  by_cases h7 : op = 7
  · have c : (op == 7) = true := by simp [h7]
    simp only [wpA_region, wpA_seq, wpA_cond, wpA_block, wpA_ret, condI_true, condI_false, seqQ_normal, seqQ_ret, blkQ_ret, endI_mk, goI_out, goI_ops, opsA_nil, opsA_cons, stepA_move, stepA_assign, stepA_binOp, thenV_some, eval_tmp, eval_const, put_some, enterF_zero, enterF_succ, aBin_sub, aBin_eql, absV_int, Nat.reduceEqDiff, reduceCtorEq, if_true, if_false, c6, c, retA_ret, Tryz.results113, resultsA_1]
    exact hid_mk ⟨by simp [combX, h7, iV, w64], rfl⟩
  have c7 : (op == 7) = false := by simp [h7]
  by_cases h8 : op = 8
  · have c : (op == 8) = true := by simp [h8]
    simp only [wpA_region, wpA_seq, wpA_cond, wpA_block, wpA_ret, condI_true, condI_false, seqQ_normal, seqQ_ret, blkQ_ret, endI_mk, goI_out, goI_ops, opsA_nil, opsA_cons, stepA_move, stepA_assign, stepA_binOp, thenV_some, eval_tmp, eval_const, put_some, enterF_zero, enterF_succ, aBin_mul, aBin_eql, absV_int, Nat.reduceEqDiff, reduceCtorEq, if_true, if_false, c6, c7, c, retA_ret, Tryz.results113, resultsA_1]
    exact hid_mk ⟨by simp [combX, h8, iV, w64], rfl⟩
  have c8 : (op == 8) = false := by simp [h8]
  by_cases h9 : op = 9
  · have c : (op == 9) = true := by simp [h9]
    simp only [wpA_region, wpA_seq, wpA_cond, wpA_block, condI_true, condI_false, seqQ_normal, goI_out, goI_ops, opsA_nil, opsA_cons, stepA_move, stepA_assign, stepA_binOp, stepA_call, thenV_some, eval_tmp, eval_const, put_some, enterF_zero, enterF_succ, aBin_eql, absV_int, Nat.reduceEqDiff, reduceCtorEq, List.map_cons, List.map_nil, if_true, if_false, c6, c7, c8, c]
    refine callI_ofE cal144 (eDivisor b h) (fun r h' ⟨e1, e2⟩ => ?_) (fun h' ⟨e1, e2⟩ => ?_)
    · subst e2
      by_cases hb : b = 0
      · rw [if_pos hb] at e1; cases e1
      rw [if_neg hb] at e1
      cases e1
      simp only [wpA_ret, seqQ_normal, seqQ_ret, blkQ_ret, endI_mk, goI_out, goI_ops, opsA_nil, opsA_cons, stepA_assign, stepA_binOp, thenV_some, eval_tmp, put_some, enterF_succ, Nat.reduceEqDiff, if_true, if_false, aBin_quo hb, retA_ret, Tryz.results113, resultsA_1]
      exact hid_mk ⟨by simp [combX, h9, hb, iV, w64], rfl⟩
    · subst e1
      have hb : b = 0 := Classical.byContradiction fun hb => by rw [if_neg hb] at e2; cases e2
      simp only [seqQ_panic, blkQ_panic, endI_mk, excE_out, excE_ops, retA_panic]
      exact hid_mk ⟨rfl, by simp [combX, h9, hb, iV]⟩
  have c9 : (op == 9) = false := by simp [h9]
  by_cases h10 : op = 10
  · have c : (op == 10) = true := by simp [h10]
    simp only [wpA_region, wpA_seq, wpA_cond, wpA_block, condI_true, condI_false, seqQ_normal, goI_out, goI_ops, opsA_nil, opsA_cons, stepA_move, stepA_assign, stepA_binOp, stepA_call, thenV_some, eval_tmp, eval_const, put_some, enterF_zero, enterF_succ, aBin_eql, absV_int, Nat.reduceEqDiff, reduceCtorEq, List.map_cons, List.map_nil, if_true, if_false, c6, c7, c8, c9, c]
    refine callI_ofE cal144 (eDivisor b h) (fun r h' ⟨e1, e2⟩ => ?_) (fun h' ⟨e1, e2⟩ => ?_)
    · subst e2
      by_cases hb : b = 0
      · rw [if_pos hb] at e1; cases e1
      rw [if_neg hb] at e1
      cases e1
      simp only [wpA_ret, seqQ_normal, seqQ_ret, blkQ_ret, endI_mk, goI_out, goI_ops, opsA_nil, opsA_cons, stepA_assign, stepA_binOp, thenV_some, eval_tmp, put_some, enterF_succ, Nat.reduceEqDiff, if_true, if_false, aBin_rem hb, retA_ret, Tryz.results113, resultsA_1]
      exact hid_mk ⟨by simp [combX, h10, hb, iV], rfl⟩
    · subst e1
      have hb : b = 0 := Classical.byContradiction fun hb => by rw [if_neg hb] at e2; cases e2
      simp only [seqQ_panic, blkQ_panic, endI_mk, excE_out, excE_ops, retA_panic]
      exact hid_mk ⟨rfl, by simp [combX, h10, hb, iV]⟩
  have c10 : (op == 10) = false := by simp [h10]
  by_cases h11 : op = 11
  · have c : (op == 11) = true := by simp [h11]
    simp only [wpA_region, wpA_seq, wpA_cond, wpA_block, condI_true, condI_false, seqQ_normal, goI_out, goI_ops, opsA_nil, opsA_cons, stepA_move, stepA_assign, stepA_binOp, stepA_call, thenV_some, eval_tmp, eval_const, put_some, enterF_zero, enterF_succ, aBin_eql, aBin_lss, absV_int, Nat.reduceEqDiff, reduceCtorEq, List.map_cons, List.map_nil, if_true, if_false, c6, c7, c8, c9, c10, c]
    refine callI_pure cal145 (pTruth _ h) ?_
    simp only [wpA_ret, seqQ_normal, seqQ_ret, blkQ_ret, endI_mk, goI_out, goI_ops, opsA_nil, opsA_cons, stepA_assign, eval_tmp, put_some, enterF_succ, Nat.reduceEqDiff, if_true, if_false, retA_ret, Tryz.results113, resultsA_1]
    exact hid_mk ⟨by simp [combX, h11, iV], rfl⟩
  have c11 : (op == 11) = false := by simp [h11]
  by_cases h12 : op = 12
  · have c : (op == 12) = true := by simp [h12]
    simp only [wpA_region, wpA_seq, wpA_cond, wpA_block, condI_true, condI_false, seqQ_normal, goI_out, goI_ops, opsA_nil, opsA_cons, stepA_move, stepA_assign, stepA_binOp, stepA_call, thenV_some, eval_tmp, eval_const, put_some, enterF_zero, enterF_succ, aBin_eql, absV_int, Nat.reduceEqDiff, reduceCtorEq, List.map_cons, List.map_nil, if_true, if_false, c6, c7, c8, c9, c10, c11, c]
    refine callI_pure cal145 (pTruth _ h) ?_
    simp only [wpA_ret, seqQ_normal, seqQ_ret, blkQ_ret, endI_mk, goI_out, goI_ops, opsA_nil, opsA_cons, stepA_assign, eval_tmp, put_some, enterF_succ, Nat.reduceEqDiff, if_true, if_false, retA_ret, Tryz.results113, resultsA_1]
    exact hid_mk ⟨by simp [combX, h12, iV], rfl⟩
  have c12 : (op == 12) = false := by simp [h12]
  by_cases h15 : op = 15
  · have c : (op == 15) = true := by simp [h15]
    simp only [wpA_region, wpA_seq, wpA_cond, wpA_block, wpA_ret, condI_true, condI_false, seqQ_normal, seqQ_ret, blkQ_ret, endI_mk, goI_out, goI_ops, opsA_nil, opsA_cons, stepA_move, stepA_assign, stepA_binOp, stepA_min, thenV_some, eval_tmp, eval_const, put_some, enterF_zero, enterF_succ, aBin_eql, mmV_min, absV_int, Nat.reduceEqDiff, reduceCtorEq, if_true, if_false, c6, c7, c8, c9, c10, c11, c12, c, retA_ret, Tryz.results113, resultsA_1]
    exact hid_mk ⟨by simp [combX, h15, iV], rfl⟩
  have c15 : (op == 15) = false := by simp [h15]
  simp only [wpA_skip, wpA_region, wpA_seq, wpA_cond, wpA_block, wpA_ret, condI_false, seqQ_normal, blkQ_normal, endI_mk, goI_out, goI_ops, opsA_nil, opsA_cons, stepA_move, stepA_assign, stepA_binOp, stepA_max, thenV_some, eval_tmp, eval_const, put_some, enterF_zero, enterF_succ, aBin_eql, mmV_max, absV_int, Nat.reduceEqDiff, reduceCtorEq, if_true, if_false, c6, c7, c8, c9, c10, c11, c12, c15, retA_ret, Tryz.results113, resultsA_1]
  exact hid_mk ⟨by simp [combX, h6, h7, h8, h9, h10, h11, h12, h15, iV], rfl⟩
end Go.Proofs.YtpjfhfmbhjghcaaGreatDoor.Pk
