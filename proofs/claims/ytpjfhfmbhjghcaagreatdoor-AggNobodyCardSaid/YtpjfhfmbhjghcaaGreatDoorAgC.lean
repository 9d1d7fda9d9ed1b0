/-
  What functions of the program do, told of abstract states. Conditions: as each theorem says.
-/
import Derived.Test.YtpjfhfmbhjghcaaGreatDoorAgB
namespace Go.Proofs.YtpjfhfmbhjghcaaGreatDoor.Pk
open Go Go.Proofs Go.Proofs.YtpjfhfmbhjghcaaGreatDoor.Ab
set_option linter.unusedVariables false
set_option linter.unusedSimpArgs false
/-! ### Apply -/
def mayT (t : Int) : Bool := decide (0 ≤ t ∧ t ≤ 1099511627776)
/-- What becomes of a record: an error, or the value. -/
def apO (e : Ex) (l : List Pr) (r : Rec) : Except Int Int :=
  if mayT r.t = false then .error 2 else
  match valF r.k r.v r.t ((look l r.k).getD 0) 16 e with
  | none => .error 10
  | some n => if full 1024 l r.k then .error 3 else .ok n
theorem IsAg.keep {h h' : AHeap} {a i : Nat} {v : V} {e : Ex} {n : Int} {l : List Pr} {own : Nat → Prop} (s : IsAg h a i v e n l) (hk : Keep h h' own) (h0 : ¬ own a) (h1 : ¬ own i) (h2 : ∀ j, idOf v = some j → ¬ own j) : IsAg h' a i v e n l :=
  ⟨Nat.lt_of_lt_of_le s.lt hk.n, (hk.get a s.lt h0).trans s.get, s.kv.keep hk h1 h2, s.ne, s.nev⟩
theorem IsAg.keepN {h h' : AHeap} {a i : Nat} {v : V} {e : Ex} {n : Int} {l : List Pr} (s : IsAg h a i v e n l) (hk : Keep h h' none_) : IsAg h' a i v e n l := s.keep hk (by simp [none_]) (by simp [none_]) (by simp [none_])
set_option maxRecDepth 10000 in
set_option maxHeartbeats 2000000 in
theorem agApply6 {h : AHeap} {a i : Nat} {v : V} {e : Ex} {n : Int} {l : List Pr} (s : IsAg h a i v e n l) (hm : mayX e = true) (hg : KG h) (r : Rec) :
    SCalls Tryz.prog 16 [.ptr a 0, .agg (recE r)] h (fun q h' => ∃ v', Keep h h' (kvO i v) ∧ NewOr h v v' ∧
      match apO e l r with
      | .error c => q = .tuple [.agg [.int .i64 0, .int .i64 0, .int .i64 0], .snil, .int .i64 c] ∧ IsAg h' a i v' e n l
      | .ok m => ∃ c, q = .tuple [.agg [.int .i64 r.k, .int .i64 m, .int .i64 r.t], .sl c 0 1 1, .int .i64 0] ∧ IsAg h' a i v' e n (put l r.k m) ∧
          Own h' 40 5 (.sl c 0 1 1) (chgE ⟨r.k, 0, 0, m, false⟩) ∧ h.n ≤ c ∧ c ≠ i ∧ idOf v' ≠ some c) := by
  obtain ⟨rk, rv, rt⟩ := r
  obtain ⟨o, m, ks⟩ := e
  have hE : encE (.mk o m ks) = [.int .i64 o, .int .i64 m, .imm ks.length (ks.flatMap encE)] := encE_eq _ _ _
  refine SCalls.enterI (c := _) Tryz.func16 rfl (by kernel_rfl) (by simp) ?_
  unfold recE
  obtain ⟨H, hH⟩ : ∃ y, y = (h.push (.cells [.int .i64 rk, .int .i64 rv, .int .i64 rt] 38 none)).push (.cells [.int .i64 0, .int .i64 0, .int .i64 0] 38 none) := ⟨_, rfl⟩
  have k0 : Keep h H none_ := by rw [hH]; exact (Keep.push _ _ _).then_push _
  have g0 : H.get h.n = .cells [.int .i64 rk, .int .i64 rv, .int .i64 rt] 38 none := by rw [hH]; exact get_push2'
  have g1 : H.get (h.n + 1) = .cells [.int .i64 0, .int .i64 0, .int .i64 0] 38 none := by rw [hH]; exact get_push2
  have n0 : H.n = h.n + 2 := by rw [hH]; rfl
  have s0 := s.keepN k0
  have ga := s0.get
  rw [hE] at ga
  simp only [List.cons_append, List.nil_append] at ga
  have halt := s.lt
  have hlt := s.kv.lt
  have hne := s.ne
  have kid : ∀ j, idOf v = some j → j < h.n := s.kv.own.lt
  have err : ∀ (c : Int) (H' : AHeap), apO (.mk o m ks) l ⟨rk, rv, rt⟩ = .error c → Keep H H' (fun q => q = h.n + 1) →
      ∃ v', Keep h H' (kvO i v) ∧ NewOr h v v' ∧ match apO (.mk o m ks) l ⟨rk, rv, rt⟩ with
        | .error c' => V.tuple [.agg [.int .i64 0, .int .i64 0, .int .i64 0], .snil, .int .i64 c] = .tuple [.agg [.int .i64 0, .int .i64 0, .int .i64 0], .snil, .int .i64 c'] ∧ IsAg H' a i v' (.mk o m ks) n l
        | .ok m' => ∃ cc, V.tuple [.agg [.int .i64 0, .int .i64 0, .int .i64 0], .snil, .int .i64 c] = .tuple [.agg [.int .i64 rk, .int .i64 m', .int .i64 rt], .sl cc 0 1 1, .int .i64 0] ∧ IsAg H' a i v' (.mk o m ks) n (put l rk m') ∧
          Own H' 40 5 (.sl cc 0 1 1) (chgE ⟨rk, 0, 0, m', false⟩) ∧ h.n ≤ cc ∧ cc ≠ i ∧ idOf v' ≠ some cc := fun c H' hc hk =>
    ⟨v, (k0.trans hk fun q hq hh => by omega).up, .inl rfl, by
      rw [hc]
      exact ⟨rfl, s0.keep hk (by omega) (by omega) fun j hj => by have := kid j hj; omega⟩⟩
  have pe : ∀ h', KG h' → Pure Tryz.prog 40 [.agg [.int .i64 o, .int .i64 m, .imm ks.length (ks.flatMap encE)], .agg [.int .i64 rk, .int .i64 rv, .int .i64 rt], .int .i64 ((look l rk).getD 0)] h' (evO (valF rk rv rt ((look l rk).getD 0) 16 (.mk o m ks))) := fun h' hg' => by
    have := pEvalM (.mk o m ks) rk rv rt ((look l rk).getD 0) _ hm rfl h' hg'
    rw [hE] at this
    exact this
  simp only [wpA_region, wpA_seq, seqQ_normal, goI_out, goI_ops, opsA_nil, opsA_cons, stepA_move, stepA_assign, stepA_alloc, stepA_box, stepA_call, thenH_some, eval_tmp, eval_const, put_some, enterF_zero, enterF_succ, absV_int, absV_snil, cells_agg, aAlloc_eq, aBox_eq, push_n, Nat.reduceEqDiff, reduceCtorEq, List.map_cons, List.map_nil, Option.map_some, if_true, if_false, zc_38]
  rw [← hH]
  clear hH
  refine callI_pure cal37 (ag_missing s0) ?_
  simp only [wpA_skip, wpA_region, wpA_seq, wpA_cond, condI_false, seqQ_normal, goI_out, goI_ops, opsA_nil, opsA_cons, stepA_load, stepA_fieldAddr, stepA_call, thenV_some, eval_tmp, put_some, enterF_succ, aField_eq, fieldGo_ptr, aLoad_eq, loadGo_one, aPlace_ptr, dropC_cells, Nat.reduceEqDiff, Nat.reduceAdd, Nat.reduceLeDiff, List.map_cons, List.map_nil, Nat.zero_add, List.length_cons, List.length_nil, List.drop_zero, List.drop_succ_cons, if_true, if_false, ft_38_2, lt_2, g0]
  refine callI_pure cal39 (pMayT rt H) ?_
  cases hT : mayT rt with
  | false =>
    rw [show decide (0 ≤ rt ∧ rt ≤ 1099511627776) = false from hT]
    simp only [wpA_region, wpA_seq, wpA_cond, wpA_ret, condI_true, seqQ_normal, seqQ_ret, endI_mk, goI_out, goI_ops, opsA_nil, opsA_cons, stepA_assign, stepA_build, stepA_store, stepA_unOp, thenV_some, thenS_some, eval_tmp, eval_const, put_some, put_none, enterF_succ, aUn_not, absV_int, absV_snil, cells_agg, one_int, all_nil, all_cons, aLoad_eq, loadGo_row, aPlace_ptr, dropC_cells, aStore_eq, storeGo_ptr, setC_row, setAll_nil, setAll_cons, aBuild_go, aFill_nil, buildGo_struct, get_set_same, Nat.reduceEqDiff, Nat.reduceAdd, List.map_nil, Option.map_some, Nat.zero_add, Nat.zero_le, List.length_cons, List.length_nil, List.drop_zero, List.take_succ_cons, List.take_nil, List.set_cons_zero, List.set_cons_succ, if_true, if_false, Bool.and_self, Bool.not_false, Nat.le_refl, lt_38, pl_38, zc_38, zt_38, g1, retA_ret, Tryz.results16, resultsC_3, resultA_tmp, resultA_cell, res3_some]
    exact hid_mk (err 2 _ (by unfold apO; rw [if_pos hT]) (Keep.set _ _ _))
  | true =>
    rw [show decide (0 ≤ rt ∧ rt ≤ 1099511627776) = true from hT]
    simp only [wpA_skip, wpA_seq, wpA_cond, wpA_draw, condI_false, seqQ_normal, goI_out, goI_ops, opsA_nil, opsA_cons, stepA_unOp, thenV_some, eval_tmp, put_some, enterF_succ, aUn_not, Nat.reduceEqDiff, if_true, if_false, Bool.not_true]
    refine SWp.drawnS none_ [] (.q 0 (.q 1 (.q 2 (.q 3 (.q 4 (.q 5 (.q 6 (.q 7 (.q 8 (.q 9 (.c 10 (.c 11 (.q 12 (.q 13 (.q 14 (.q 15 (.q 16 .done))))))))))))))))) (by kernel_rfl) (by kernel_rfl) (by kernel_rfl) ?_
    simp only [siI_q, sqI_some, mOk_none', implies_true, qI_nil, qI_cons, thenQ_some, q_move, q_load, q_nilCheck, q_fieldAddr, goI_mk, nilV_ptr, eval_tmp, put_some, enterF_zero, enterF_succ, aField_eq, fieldGo_ptr, aLoad_eq, loadGo_one, loadGo_row, aPlace_ptr, dropC_cells, List.getElem?_cons_zero, List.getElem?_cons_succ, Nat.reduceEqDiff, Nat.reduceAdd, Nat.reduceLeDiff, reduceCtorEq, Nat.add_zero, Nat.zero_add, Nat.zero_le, List.length_cons, List.length_nil, List.drop_zero, List.drop_succ_cons, List.take_succ_cons, List.take_zero, List.take_nil, true_and, if_true, if_false, Nat.le_refl, ft_99_0, ft_99_2, lt_27, lt_38, lt_93, ga, g0]
    refine siI_c rfl rfl rfl (fun h' hk => pGath6 (by rcases hk with hk | rfl; exact s0.kv.keepN hk; exact s0.kv) ⟨rk, rv, rt⟩) ?_
    simp only [false_implies]
    refine siI_c rfl rfl rfl (fun h' hk => pe h' ((hg.keep k0).or (hg.keep k0) hk)) ?_
    have hap : apO (.mk o m ks) l ⟨rk, rv, rt⟩ = match valF rk rv rt ((look l rk).getD 0) 16 (.mk o m ks) with
        | none => .error 10
        | some n => if full 1024 l rk then .error 3 else .ok n := by
      unfold apO
      rw [if_neg (by rw [hT]; decide)]
    cases hv : valF rk rv rt ((look l rk).getD 0) 16 (.mk o m ks) with
    | none =>
      rw [hv] at hap
      simp only [siI_done, siI_q, sqI_some, mOk_none', implies_true, qI_nil, qI_cons, thenQ_some, q_move, q_assign, q_extract, wpA_region, wpA_seq, wpA_cond, wpA_ret, condI_true, seqQ_normal, seqQ_ret, endI_mk, goI_out, goI_ops, goI_mk, opsA_nil, opsA_cons, stepA_move, stepA_assign, stepA_build, stepA_store, stepA_binOp, thenV_some, thenS_some, extV_zero, extV_succ, eval_tmp, eval_const, put_some, put_none, enterF_succ, aBin_neq, absV_int, absV_snil, cells_agg, one_int, all_nil, all_cons, aLoad_eq, loadGo_row, aPlace_ptr, dropC_cells, aStore_eq, storeGo_ptr, setC_row, setAll_nil, setAll_cons, aBuild_go, aFill_nil, buildGo_struct, get_set_same, List.getElem?_cons_zero, List.getElem?_cons_succ, Int.reduceBNe, Nat.reduceEqDiff, Nat.reduceAdd, List.map_nil, Option.map_some, Nat.zero_add, Nat.zero_le, List.length_cons, List.length_nil, List.drop_zero, List.take_succ_cons, List.take_nil, List.set_cons_zero, List.set_cons_succ, true_and, if_true, if_false, Bool.and_self, Nat.le_refl, lt_38, pl_38, zc_38, zt_38, evO, g1, retA_ret, Tryz.results16, resultsC_3, resultA_tmp, resultA_cell, res3_some]
      exact hid_mk (err 10 _ hap (Keep.set _ _ _))
    | some N =>
      rw [hv] at hap
      simp only [siI_done, siI_q, sqI_some, mOk_none', implies_true, qI_nil, qI_cons, thenQ_some, q_move, q_assign, q_extract, wpA_skip, wpA_region, wpA_seq, wpA_cond, wpA_draw, condI_false, seqQ_normal, goI_out, goI_ops, goI_mk, opsA_nil, opsA_cons, stepA_move, stepA_binOp, thenV_some, extV_zero, extV_succ, eval_tmp, eval_const, put_some, enterF_succ, aBin_neq, absV_int, List.getElem?_cons_zero, List.getElem?_cons_succ, bne_self_eq_false, Nat.reduceEqDiff, true_and, if_true, if_false, evO]
      refine SWp.drawnS (fun x => kvO i v x) [6] (.q 0 (.q 1 (.q 2 (.q 3 (.q 4 (.q 5 (.a 6 (.q 7 (.q 8 (.q 9 (.q 10 (.q 11 (.q 12 (.q 13 .done)))))))))))))) (by kernel_rfl) (by kernel_rfl) (by kernel_rfl) ?_
      have f1 : kvO i v a = False := eq_false fun hh => by
        rcases hh with hh | hh
        · exact hne hh
        · exact s.nev hh
      have f2 : kvO i v h.n = False := eq_false fun hh => by
        rcases hh with hh | hh
        · omega
        · have := kid _ hh; omega
      simp only [mOk_move, mOk_nilCheck, mOk_fieldAddr, mOk_load, mOkV_ptr, nne2, nne3, nne4, nne1', nne2', nne3', not_false_eq_true, siI_q, siI_a, sqI_some, saI_some, implies_true, qI_nil, qI_cons, thenQ_some, q_move, q_load, q_nilCheck, q_fieldAddr, goI_mk, opsA_cons, stepA_call, nilV_ptr, eval_tmp, put_some, enterF_zero, enterF_succ, aField_eq, fieldGo_ptr, aLoad_eq, loadGo_one, loadGo_row, aPlace_ptr, dropC_cells, List.getElem?_cons_zero, List.getElem?_cons_succ, Nat.reduceEqDiff, Nat.reduceAdd, Nat.reduceLeDiff, reduceCtorEq, List.map_cons, List.map_nil, Nat.zero_add, Nat.zero_le, List.length_cons, List.length_nil, List.drop_zero, List.drop_succ_cons, List.take_succ_cons, List.take_nil, true_and, if_true, if_false, Nat.le_refl, ft_99_2, lt_38, lt_93, ga, g0, f1, f2]
      refine callI_of cal42 (pPut6 s0.kv ⟨rk, rv, rt⟩ N) fun q h2 ⟨v', c, e2, k2, kp, d2, oc, ic1, ic2, ic3⟩ => ?_
      subst e2
      have nk := kp.n
      have gc := kp.get (h.n + 1) (by omega) (by
        rintro (hh | hh)
        · omega
        · have := kid _ hh; omega)
      have gb := kp.get h.n (by omega) (by rw [f2]; exact id)
      rw [g0] at gb
      rw [g1] at gc
      have gA := kp.get a (by omega) (by rw [f1]; exact id)
      have nv : idOf v' ≠ some a := fun hh => by
        rcases d2 with d2 | d2
        · rw [d2] at hh; exact s.nev hh
        · have := d2 a hh; omega
      have s2 : IsAg h2 a i v' (.mk o m ks) n (putL 1024 l rk N) := ⟨by omega, gA.trans s0.get, k2, hne, nv⟩
      have vlt : ∀ j, idOf v' = some j → j ≠ h.n ∧ j ≠ h.n + 1 := fun j hj => by
        rcases d2 with d2 | d2
        · rw [d2] at hj; have := kid j hj; omega
        · have := d2 j hj; omega
      cases hf : full 1024 l rk with
      | true =>
        rw [hf] at hap
        have hq : (putE 1024 l rk != 0) = true := by simp [putE, hf]
        have hq3 : putE 1024 l rk = 3 := by simp [putE, hf]
        have hL : putL 1024 l rk N = l := by simp [putL, hf]
        rw [hL] at s2
        rw [hq3]
        simp only [mOk_move, mOk_assign, mOk_extract, nne2, nne3, nne4, nne1', nne2', nne3', siI_done, siI_q, sqI_some, implies_true, qI_nil, qI_cons, thenQ_some, q_move, q_assign, q_extract, wpA_region, wpA_seq, wpA_cond, wpA_ret, condI_true, seqQ_normal, seqQ_ret, endI_mk, goI_out, goI_ops, goI_mk, opsA_nil, opsA_cons, stepA_move, stepA_assign, stepA_build, stepA_store, stepA_binOp, thenV_some, thenS_some, extV_zero, extV_succ, eval_tmp, eval_const, put_some, put_none, enterF_succ, aBin_neq, absV_int, absV_snil, cells_agg, one_int, all_nil, all_cons, aLoad_eq, loadGo_row, aPlace_ptr, dropC_cells, aStore_eq, storeGo_ptr, setC_row, setAll_nil, setAll_cons, aBuild_go, aFill_nil, buildGo_struct, get_set_same, List.getElem?_cons_zero, List.getElem?_cons_succ, Int.reduceBNe, Bool.false_eq_true, Nat.reduceEqDiff, Nat.reduceAdd, List.map_nil, Option.map_some, Nat.zero_add, Nat.zero_le, List.length_cons, List.length_nil, List.drop_zero, List.take_succ_cons, List.take_nil, List.set_cons_zero, List.set_cons_succ, true_and, if_true, if_false, Bool.and_self, Nat.le_refl, lt_38, pl_38, zc_38, zt_38, gc, retA_ret, Tryz.results16, resultsC_3, resultA_tmp, resultA_cell, res3_some]
        refine hid_mk ⟨v', ((k0.up).trans' kp).trans (Keep.set _ _ _) fun q hq hh => by omega, NewOr.later d2 (by omega), ?_⟩
        rw [hap]
        exact ⟨rfl, s2.keep (Keep.set _ _ _) (by omega) (by omega) fun j hj => (vlt j hj).2⟩
      | false =>
        rw [hf] at hap
        have hq0 : putE 1024 l rk = 0 := by simp [putE, hf]
        have hL : putL 1024 l rk N = put l rk N := by simp [putL, hf]
        have hX : putX 1024 l rk N = ⟨rk, 0, 0, N, false⟩ := by simp [putX, hf]
        rw [hL] at s2
        rw [hX] at oc
        rw [hq0]
        simp only [mOk_move, mOk_assign, mOk_extract, nne2, nne3, nne4, nne1', nne2', nne3', siI_done, siI_q, sqI_some, implies_true, qI_nil, qI_cons, thenQ_some, q_move, q_assign, q_extract, wpA_skip, wpA_region, wpA_seq, wpA_cond, wpA_ret, condI_false, seqQ_normal, endI_mk, goI_out, goI_ops, goI_mk, opsA_nil, opsA_cons, stepA_move, stepA_assign, stepA_build, stepA_load, stepA_store, stepA_binOp, stepA_fieldAddr, thenV_some, thenS_some, extV_zero, extV_succ, eval_tmp, eval_const, put_some, put_none, enterF_succ, aBin_neq, absV_int, cells_int, cells_agg, one_int, all_nil, all_cons, aField_eq, fieldGo_ptr, aLoad_eq, loadGo_one, loadGo_row, aPlace_ptr, dropC_cells, aStore_eq, storeGo_ptr, setC_row, setAll_nil, setAll_cons, aBuild_go, aFill_nil, aFill_cons, fillGo_some, buildGo_struct, get_set_same, List.getElem?_cons_zero, List.getElem?_cons_succ, bne_self_eq_false, Bool.false_eq_true, Nat.reduceEqDiff, Nat.reduceAdd, Nat.reduceLeDiff, List.map_cons, List.map_nil, Option.map_some, Nat.add_zero, Nat.zero_add, Nat.zero_le, List.length_cons, List.length_nil, List.drop_zero, List.take_succ_cons, List.take_nil, List.set_cons_zero, List.set_cons_succ, true_and, and_self, if_true, if_false, Bool.and_self, Nat.le_refl, ft_38_0, lt_2, lt_38, pl_38, zc_38, zt_38, gc, gb, retA_ret, Tryz.results16, resultsC_3, resultA_tmp, resultA_cell, res3_some]
        refine hid_mk ⟨v', ((k0.up).trans' kp).trans (Keep.set _ _ _) fun q hq hh => by omega, NewOr.later d2 (by omega), ?_⟩
        rw [hap]
        exact ⟨c, rfl, s2.keep (Keep.set _ _ _) (by omega) (by omega) fun j hj => (vlt j hj).2, oc.keep (Keep.set _ _ _) fun j hj => by cases hj; omega, by omega, ic2, ic3⟩
set_option maxRecDepth 10000 in
theorem agValue6 {h : AHeap} {a i : Nat} {v : V} {e : Ex} {n : Int} {l : List Pr} (s : IsAg h a i v e n l) (key : Int) : Pure Tryz.prog 21 [.ptr a 0, .int .i64 key] h (.int .i64 ((look l key).getD 0)) := by
  have ga := s.get
  obtain ⟨o, m, ks⟩ := e
  rw [encE_eq] at ga
  simp only [List.cons_append, List.nil_append] at ga
  refine SCalls.enterI (c := _) Tryz.func21 rfl (by kernel_rfl) (by simp) ?_
  simp only [wpA_region, wpA_seq, seqQ_normal, goI_out, goI_ops, opsA_nil, opsA_cons, stepA_move, stepA_assign, stepA_call, eval_tmp, eval_const, put_some, enterF_zero, enterF_succ, absV_int, Nat.reduceEqDiff, reduceCtorEq, List.map_cons, List.map_nil, if_true, if_false]
  refine callI_pure cal37 (ag_missing s) ?_
  simp only [wpA_skip, wpA_region, wpA_seq, wpA_cond, condI_false, seqQ_normal, goI_out, goI_ops, opsA_nil, opsA_cons, stepA_move, stepA_load, stepA_nilCheck, stepA_fieldAddr, stepA_call, thenV_some, nilV_ptr, eval_tmp, put_some, enterF_zero, enterF_succ, aField_eq, fieldGo_ptr, aLoad_eq, loadGo_one, aPlace_ptr, dropC_cells, Nat.reduceEqDiff, Nat.reduceAdd, Nat.reduceLeDiff, reduceCtorEq, List.map_cons, List.map_nil, Nat.zero_add, List.length_cons, List.length_nil, List.drop_zero, List.drop_succ_cons, if_true, if_false, ft_99_2, lt_93, ga]
  refine callI_pure cal44 (pTable6 s.kv key) ?_
  simp only [wpA_ret, seqQ_normal, endI_mk, goI_out, goI_ops, opsA_nil, opsA_cons, stepA_assign, eval_tmp, put_some, enterF_succ, Nat.reduceEqDiff, if_true, if_false, retA_ret, Tryz.results21, resultsA_1]
  exact hid_mk ⟨rfl, rfl⟩
end Go.Proofs.YtpjfhfmbhjghcaaGreatDoor.Pk
