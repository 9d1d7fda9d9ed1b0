/-
  What functions of the program do, told of abstract states. Conditions: as each theorem says.
-/
import Derived.Test.YthnleejpeocaeaaDoorFlN
namespace Go.Proofs.YthnleejpeocaeaaDoor.Pk
open Go Go.Proofs Go.Proofs.YthnleejpeocaeaaDoor.Ab
set_option linter.unusedVariables false
set_option linter.unusedSimpArgs false
theorem takeV (m : List Vx) (k : Nat) (hk : k ≤ m.length) : aSlice Tryd.prog 22 (.imm m.length (m.flatMap encX)) none (some (.int .i64 (k : Int))) none = some (.imm (m.take k).length ((m.take k).flatMap encX)) := by
  rw [slice_imm_hi ss_22 (by omega) (by omega) (rows_len encX_len m)]
  have : (m.take k).length = k := by rw [List.length_take]; omega
  rw [this, ← rows_take encX_len]
  rfl
theorem dropV (m : List Vx) (k : Nat) (hk : k ≤ m.length) : aSlice Tryd.prog 22 (.imm m.length (m.flatMap encX)) (some (.int .i64 (k : Int))) none none = some (.imm (m.drop k).length ((m.drop k).flatMap encX)) := by
  rw [slice_imm_lo ss_22 (by omega) (by omega) (rows_len encX_len m)]
  rw [List.length_drop, ← rows_drop encX_len]
  rfl
set_option maxHeartbeats 2000000 in
set_option maxRecDepth 10000 in
/-- At most eight of them, and whether they are small. -/
theorem pFew (l : List Vx) (hok : ∀ v ∈ l, OkE v.e) (h : AHeap) : SCalls Tryd.prog 5 [.imm l.length (l.flatMap encX)] h (fun q h' => (∃ b, q = .tuple [.imm (l.take 8).length ((l.take 8).flatMap encX), .bool b]) ∧ h' = h) := by
  refine SCalls.enterI (c := _) Tryd.func5 rfl (by kernel_rfl) (by simp) ?_
  obtain ⟨m, hm⟩ : ∃ m, m = l.take 8 := ⟨_, rfl⟩
  have hmok : ∀ v ∈ m, OkE v.e := fun v hv => hok v (List.mem_of_mem_take (hm ▸ hv))
  have hml : m.length ≤ 8 := by rw [hm, List.length_take]; omega
  rw [← hm]
  simp only [wpA_region, wpA_seq, wpA_cond, seqQ_normal, goI_out, goI_ops, opsA_nil, opsA_cons, stepA_move, stepA_assign, stepA_binOp, stepA_len, thenV_some, eval_tmp, eval_const, put_some, enterF_zero, enterF_succ, aBin_gtr, absV_int, absV_bool, absV_snil, aLen_imm, Nat.reduceEqDiff, reduceCtorEq, if_true, if_false, kt_22]
  by_cases hlt : 8 < l.length
  have c : decide ((8 : Int) < ((l.length : Nat) : Int)) = true := decide_eq_true (by omega)
  have sl : aSlice Tryd.prog 22 (.imm l.length (l.flatMap encX)) none (some (.int .i64 8)) none = some (.imm m.length (m.flatMap encX)) := by
    rw [hm]; exact takeV l 8 (by omega)
  simp only [wpA_region, wpA_seq, wpA_block, wpA_loop, condI_true, seqQ_normal, goI_out, goI_ops, opsA_nil, opsA_cons, stepA_move, stepA_assign, stepA_slice, thenV_some, eval_tmp, eval_const, put_some, enterF_zero, enterF_succ, absV_int, Nat.reduceEqDiff, reduceCtorEq, Option.map_some, Option.map_none, if_true, if_false, c, sl]
  rotate_left
  have e : l = m := by rw [hm, List.take_of_length_le (by omega)]
  rw [e] at hlt ⊢
  have c : decide ((8 : Int) < ((m.length : Nat) : Int)) = false := decide_eq_false (by omega)
  simp only [wpA_skip, wpA_region, wpA_seq, wpA_block, wpA_loop, condI_false, seqQ_normal, goI_out, goI_ops, opsA_nil, opsA_cons, stepA_assign, eval_const, absV_int, c]
  all_goals
    refine SWp.loopG (α := Int × Nat) (fun x f h' => f 0 = .imm m.length (m.flatMap encX) ∧ f 4 = .int .i64 x.1 ∧ f 5 = .int .i64 (x.2 : Nat) ∧ x.2 ≤ m.length ∧ h' = h) (fun x => m.length - x.2) (0, 0) ⟨rfl, rfl, rfl, Nat.zero_le _, rfl⟩ ?_
    rintro ⟨n, i⟩ f h1 ⟨f0, f4, f5, hi, rfl⟩
    simp only at f4 f5 hi
    refine wpI_sound (by kernel_rfl) ?_
    by_cases hl : i < m.length
    · have c1 : decide ((i : Int) < ((m.length : Nat) : Int)) = true := decide_eq_true (by omega)
      by_cases hn : n ≤ 3000
      · have c2 : decide (n ≤ 3000) = true := decide_eq_true hn
        have w3 : IntKind.i64.wrap (((i : Nat) : Int) + 1) = ((i + 1 : Nat) : Int) := by rw [Go.IntWalk.i64_in _ (by omega)]; omega
        have ix : aIndexAddr Tryd.prog 22 (.imm m.length (m.flatMap encX)) (.int .i64 (i : Int)) = some (.at (encX m[i] ++ (m.drop (i + 1)).flatMap encX)) := rows_ix encX_len hl ss_22
        obtain ⟨R, hR⟩ : ∃ R, R = (m.drop (i + 1)).flatMap encX := ⟨_, rfl⟩
        obtain ⟨v, hv⟩ : ∃ v, v = m[i] := ⟨_, rfl⟩
        rw [← hR, ← hv] at ix
        have okv : OkE v.e := hmok v (by rw [hv]; exact List.getElem_mem hl)
        have fx : fieldGo (some 2) (.at (encX v ++ R)) = some (.at (encE v.e ++ (.int .i64 v.n :: R))) := by
          rw [field_row (by rw [encX_len]; omega)]
          simp [encX]
        have lx : loadGo (some (some 3)) (some (encE v.e ++ (.int .i64 v.n :: R))) = some (.agg (encE v.e)) := load_row (encE_len _)
        simp only [wpA_skip, wpA_region, wpA_seq, wpA_cond, wpA_block, condI_true, seqQ_normal, goI_out, goI_ops, opsA_nil, opsA_cons, opsA_guardS, gvI_same, slotAt_zero, slotAt_succ, stepA_move, stepA_pick, stepA_load, stepA_binOp, stepA_fieldAddr, stepA_indexAddr, stepA_len, stepA_call, thenV_some, pickV_true, eval_tmp, eval_const, put_some, aBin_lss, aBin_leq, absV_int, absV_bool, aField_eq, aLoad_eq, aPlace_at, aLen_imm, Nat.reduceEqDiff, reduceCtorEq, List.map_cons, List.map_nil, if_true, if_false, ft_44_2, kt_22, lt_40, f0, f4, f5, c1, c2, ix, fx, lx]
        refine callI_pure cal11 (pCountR _ v.e h1 rfl okv) ?_
        simp only [wpA_region, seqQ_normal, blkQ_normal, endI_mk, andThen_normal, goI_out, goI_ops, opsA_nil, opsA_cons, stepA_move, stepA_assign, stepA_binOp, thenV_some, eval_tmp, eval_const, put_some, aBin_add, absV_int, Nat.reduceEqDiff, if_true, if_false, f5, w3]
        exact hid_mk ⟨(_, i + 1), ⟨f0, rfl, rfl, by simp only; omega, rfl⟩, by simp only; omega⟩
      · have c2 : decide (n ≤ 3000) = false := decide_eq_false hn
        simp only [wpA_region, wpA_seq, wpA_cond, wpA_exit, wpA_ret, condI_false, seqQ_normal, seqQ_exit, blkQ_exit, endI_mk, goE, andThen_exit, goI_out, goI_ops, opsA_nil, opsA_cons, opsA_guardS, gvI_same, slotAt_zero, slotAt_succ, stepA_move, stepA_assign, stepA_pick, stepA_binOp, stepA_len, thenV_some, pickV_true, eval_tmp, eval_const, put_some, aBin_lss, aBin_leq, absV_int, absV_bool, aLen_imm, Nat.reduceEqDiff, reduceCtorEq, if_true, if_false, kt_22, f0, f4, f5, c1, c2, retA_ret, Tryd.results5, resultsA_2]
        exact hid_mk ⟨⟨_, rfl⟩, rfl⟩
    · have c1 : decide ((i : Int) < ((m.length : Nat) : Int)) = false := decide_eq_false (by omega)
      simp only [wpA_region, wpA_seq, wpA_cond, wpA_exit, wpA_ret, condI_false, seqQ_normal, seqQ_exit, blkQ_exit, endI_mk, goE, andThen_exit, goI_out, goI_ops, opsA_nil, opsA_cons, opsA_guardS, gvI_ft, slotAt_zero, slotAt_succ, stepA_move, stepA_assign, stepA_pick, stepA_binOp, stepA_len, thenV_some, pickV_false, eval_tmp, eval_const, put_some, aBin_lss, aBin_leq, absV_int, absV_bool, aLen_imm, Nat.reduceEqDiff, reduceCtorEq, if_true, if_false, kt_22, f0, f4, f5, c1, retA_ret, Tryd.results5, resultsA_2]
      exact hid_mk ⟨⟨_, rfl⟩, rfl⟩
end Go.Proofs.YthnleejpeocaeaaDoor.Pk
