/-
  What functions of the program do, told of abstract states. Conditions: as each theorem says.
-/
import Derived.Test.YtjphnabogfiahaaDoorReL
import Derived.Test.YtjphnabogfiahaaDoorAbD
namespace Go.Proofs.YtjphnabogfiahaaDoor.Pk
open Go Go.Proofs Go.Proofs.YtjphnabogfiahaaDoor.Ab
set_option linter.unusedVariables false
set_option linter.unusedSimpArgs false

theorem Rd.own {h : AHeap} {s : V} {cs : List Nat} (ho : Own h 5 1 s (bytesV cs)) : Rd h s cs :=
  have hlo : aLenOf s = some cs.length := by
    obtain ⟨n, a, b, _⟩ := own_lenOf ho (by decide)
    rw [bytesV_length, Nat.mul_one] at b
    rw [b]; exact a
  ⟨fun h' k => by
    have := (ho.keepN k).length (by decide) Tryd.prog kt_24
    rw [bytesV_length, Nat.div_one] at this
    exact this, hlo, fun h' k => by
    obtain ⟨n, a, b, c⟩ := own_lenOf (ho.keepN k) (by decide)
    rw [bytesV_length, Nat.mul_one] at b
    rw [b]; exact c, fun h' k => own_src kt_24 (ho.keepN k) (by rw [bytesV_length, Nat.mul_one]) (by decide) (bytesV_one cs)⟩
set_option maxRecDepth 10000 in
theorem sInts (s : V) (cs : List Nat) (l : List Int) (h : AHeap) (rd : Rd h s cs) (hl : ∀ n ∈ l, -2 ^ 63 ≤ n ∧ n < 2 ^ 63) (hc : cs.length + 10 * l.length ≤ 2 ^ 45) :
    SCalls Tryd.prog 31 [s, .imm l.length (i64V l)] h (fun r h' => Acc h h' 5 1 r (bytesV (cs ++ encInts l))) := by
  refine SCalls.enterI (c := _) Tryd.func31 rfl (by kernel_rfl) (by simp) ?_
  have hw : IntKind.i64.wrap (10 + (l.length : Int)) = ((10 + l.length : Nat) : Int) := by rw [Go.IntWalk.i64_in _ (by omega)]; omega
  have hu := wrap_natU (n := l.length) (by omega)
  simp only [wpA_region, wpA_seq, seqQ_normal, goI_out, goI_ops, opsA_nil, opsA_cons, stepA_move, stepA_assign, stepA_binOp, stepA_len, stepA_call, thenV_some, eval_tmp, eval_const, put_some, enterF_zero, enterF_succ, aBin_add, absV_int, absV_snil, aLen_imm, Nat.reduceEqDiff, reduceCtorEq, List.map_cons, List.map_nil, if_true, if_false, kt_33, hw]
  refine callI_of cal42 (freshA s cs (10 + l.length) h rd (by omega)) fun r1 h1 a1 => ?_
  simp only [goI_ops, opsA_cons, stepA_move, stepA_convert, stepA_len, stepA_call, thenV_some, eval_tmp, put_some, enterF_zero, enterF_succ, aLen_imm, Nat.reduceEqDiff, List.map_cons, List.map_nil, if_true, if_false, kt_33, aConv_int it_3 it_63, hu]
  refine callI_of cal47 (addUintA r1 cs l.length h1 a1 (by omega) (by omega)) fun r2 h2 a2 => ?_
  simp only [wpA_region, wpA_seq, wpA_block, wpA_loop, seqQ_normal, goI_out, goI_ops, opsA_nil, opsA_cons, stepA_move, stepA_assign, stepA_len, thenV_some, eval_tmp, eval_const, put_some, enterF_zero, enterF_succ, absV_int, aLen_imm, Nat.reduceEqDiff, if_true, if_false, kt_33]
  refine SWp.loopG (α := V × Nat) (fun x f h' => f 5 = x.1 ∧ f 17 = .imm l.length (i64V l) ∧ f 18 = .int .i64 (l.length : Nat) ∧ f 19 = .int .i64 (x.2 : Nat) ∧ Acc h h' 5 1 x.1 (bytesV (cs ++ enc l.length ++ (l.take x.2).flatMap fun n => enc (zz n))) ∧ x.2 ≤ l.length) (fun x => l.length - x.2) (r2, 0)
    ⟨rfl, rfl, rfl, rfl, by simpa using a2, Nat.zero_le _⟩ ?_
  rintro ⟨v, i⟩ f h3 ⟨f5, f17, f18, f19, a3, hi⟩
  simp only at f5 f19 a3 hi
  refine wpI_sound (by kernel_rfl) ?_
  by_cases hlt : i < l.length
  · have c1 : decide ((i : Int) < (l.length : Int)) = true := by simp; omega
    have hm := hl _ (List.getElem_mem hlt)
    have hw1 : IntKind.i64.wrap ((i : Int) + 1) = ((i + 1 : Nat) : Int) := by rw [Go.IntWalk.i64_in _ (by omega)]; rfl
    have hlen : (cs ++ enc l.length ++ (l.take i).flatMap fun n => enc (zz n)).length ≤ 2 ^ 46 := by
      have h1 := enc_flat (l := l.take i) fun n hn => hl n (List.mem_of_mem_take hn)
      have h2 := (enc_le l.length (by omega)).2
      rw [List.length_take] at h1
      simp only [List.length_append]
      omega
    simp only [wpA_skip, wpA_region, wpA_seq, wpA_cond, wpA_block, condI_true, seqQ_normal, goI_out, goI_ops, opsA_nil, opsA_cons, stepA_move, stepA_assign, stepA_load, stepA_binOp, stepA_indexAddr, stepA_call, thenV_some, eval_tmp, put_some, aBin_lss, aLoad_eq, loadGo_one, aPlace_at, Nat.reduceEqDiff, List.map_cons, List.map_nil, if_true, if_false, lt_3, f5, f17, f18, f19, c1, i64V_ix hlt ss_33]
    refine callI_pure cal48 (zigzag _ h3 hm.1 hm.2) ?_
    simp only [goI_ops, opsA_cons, stepA_call, eval_tmp, put_some, Nat.reduceEqDiff, List.map_cons, List.map_nil, if_true, if_false]
    refine callI_of cal47 (addUintA v _ _ h3 a3 hlen (zz_lt _ hm.1 hm.2)) fun r4 h4 a4 => ?_
    simp only [wpA_region, seqQ_normal, blkQ_normal, endI_mk, andThen_normal, goI_out, goI_ops, opsA_nil, opsA_cons, stepA_move, stepA_assign, stepA_binOp, thenV_some, eval_tmp, eval_const, put_some, aBin_add, absV_int, Nat.reduceEqDiff, if_true, if_false, f19, hw1]
    refine hid_mk ⟨(r4, i + 1), ⟨rfl, f17, f18, rfl, ?_, by simp only; omega⟩, by simp only; omega⟩
    refine a4.conv ?_
    rw [flat_take l _ hlt, List.append_assoc]
  · have c1 : decide ((i : Int) < (l.length : Int)) = false := by simp; omega
    simp only [wpA_region, wpA_seq, wpA_cond, wpA_exit, wpA_ret, condI_false, seqQ_normal, seqQ_exit, blkQ_exit, endI_mk, goE, andThen_exit, goI_out, goI_ops, opsA_nil, opsA_cons, stepA_move, stepA_assign, stepA_binOp, thenV_some, eval_tmp, put_some, aBin_lss, Nat.reduceEqDiff, if_true, if_false, f5, f18, f19, c1, retA_ret, Tryd.results31, resultsA_1]
    refine hid_mk (a3.conv ?_)
    rw [List.take_of_length_le (by omega), List.append_assoc]
    rfl
theorem sInt (s : V) (cs : List Nat) (n : Int) (h : AHeap) (rd : Rd h s cs) (hc : cs.length ≤ 2 ^ 46) (h1 : -2 ^ 63 ≤ n) (h2 : n < 2 ^ 63) :
    SCalls Tryd.prog 46 [s, .int .i64 n] h (fun r h' => Own h' 5 1 r (bytesV (cs ++ enc (zz n))) ∧ Keep h h' none_ ∧ ∀ k, idOf r = some k → h.n ≤ k) := by
  refine SCalls.enterI (c := _) Tryd.func46 rfl (by kernel_rfl) (by simp) ?_
  simp only [wpA_region, wpA_seq, seqQ_normal, goI_out, goI_ops, opsA_nil, opsA_cons, stepA_move, stepA_assign, stepA_call, eval_tmp, eval_const, put_some, enterF_zero, enterF_succ, absV_int, absV_snil, Nat.reduceEqDiff, reduceCtorEq, List.map_cons, List.map_nil, if_true, if_false]
  refine callI_of cal42 (fresh s cs 10 h rd (by omega)) fun r1 h1' ⟨e1, o1, k1⟩ => ?_
  have d1 : ∀ k, idOf r1 = some k → h.n ≤ k := fun k hk => by subst e1; simp [idOf] at hk; omega
  simp only [goI_ops, opsA_cons, stepA_move, stepA_call, eval_tmp, put_some, enterF_zero, enterF_succ, Nat.reduceEqDiff, List.map_cons, List.map_nil, if_true, if_false]
  refine callI_pure cal48 (zigzag n h1' h1 h2) ?_
  simp only [goI_ops, opsA_cons, stepA_call, eval_tmp, put_some, enterF_succ, Nat.reduceEqDiff, List.map_cons, List.map_nil, if_true, if_false]
  refine callI_of cal47 (addUint r1 cs (zz n) h1' o1 hc (zz_lt n h1 h2)) fun r2 h2' ⟨o2, k2, d2⟩ => ?_
  simp only [wpA_ret, seqQ_normal, endI_mk, goI_out, goI_ops, opsA_nil, opsA_cons, stepA_assign, eval_tmp, put_some, enterF_succ, Nat.reduceEqDiff, if_true, if_false, retA_ret, Tryd.results46, resultsA_1]
  refine hid_mk ⟨o2, k1.trans k2 fun k hk hi => ?_, fun k hk => ?_⟩
  · have := d1 k hi; omega
  · rcases d2 with d2 | d2
    · exact d1 k (d2 ▸ hk)
    · exact Nat.le_trans k1.n (d2 k hk)

theorem sAddRec (s : V) (cs : List Nat) (r : Rcd) (h : AHeap) (rd : Rd h s cs) (hr : rIn r) (hc : cs.length ≤ 2 ^ 45) :
    SCalls Tryd.prog 27 [s, .agg (rcdE r)] h (fun v h' => Acc h h' 5 1 v (bytesV (cs ++ encR r))) := by
  refine SCalls.enterI (c := _) Tryd.func27 rfl (by kernel_rfl) (by simp) ?_
  have hcl : (V.agg (rcdE r)).cells = some [.int .i64 r.k, .int .i64 r.v, .int .i64 r.t] := rfl
  simp only [wpA_region, wpA_seq, wpA_draw, seqQ_normal, goI_out, goI_ops, opsA_nil, opsA_cons, stepA_assign, stepA_box, thenH_some, eval_tmp, eval_const, enterF_zero, enterF_succ, absV_snil, aBox_eq, Option.map_some, hcl]
  obtain ⟨H, hH⟩ : ∃ y, y = h.push (.cells [.int .i64 r.k, .int .i64 r.v, .int .i64 r.t] 23 none) := ⟨_, rfl⟩
  have hg : H.get h.n = .cells [.int .i64 r.k, .int .i64 r.v, .int .i64 r.t] 23 none := by rw [hH]; exact get_push_new
  have kH : Keep h H none_ := by rw [hH]; exact Keep.push _ _ _
  rw [← hH]
  have l1 := zz_le hr.1
  have l2 := zz_le hr.2.1
  refine SWp.drawnS none_ [9] (.q 0 (.q 1 (.q 2 (.c 3 (.q 4 (.q 5 (.c 6 (.q 7 (.q 8 (.a 9 (.q 10 .done))))))))))) (by kernel_rfl) (by kernel_rfl) (by kernel_rfl) ?_
  simp only [siI_q, sqI_some, mOk_none', implies_true, qI_nil, qI_cons, thenQ_some, q_move, q_load, q_fieldAddr, goI_mk, eval_tmp, put_some, enterF_zero, enterF_succ, aField_eq, fieldGo_ptr, aLoad_eq, loadGo_one, aPlace_ptr, dropC_cells, List.getElem?_cons_zero, List.getElem?_cons_succ, Nat.reduceEqDiff, Nat.reduceAdd, reduceCtorEq, Nat.add_zero, Nat.zero_add, Nat.zero_le, List.length_cons, List.length_nil, List.drop_zero, true_and, if_true, if_false, ft_23_0, lt_2, hg]
  refine siI_c rfl rfl rfl (fun h' hk => pInt s cs r.k h' (rd.keep (by rcases hk with hk | rfl; exact kH.trans' hk; exact kH)) (by omega) hr.1.1 hr.1.2) ?_
  simp only [siI_q, sqI_some, mOk_none', implies_true, qI_nil, qI_cons, thenQ_some, q_load, q_fieldAddr, goI_mk, eval_tmp, put_some, enterF_succ, aField_eq, fieldGo_ptr, aLoad_eq, loadGo_one, aPlace_ptr, dropC_cells, List.getElem?_cons_zero, List.getElem?_cons_succ, Nat.reduceEqDiff, Nat.reduceAdd, Nat.reduceLeDiff, Nat.zero_add, List.length_cons, List.length_nil, List.drop_zero, List.drop_succ_cons, true_and, if_true, if_false, ft_23_1, lt_2, hg]
  refine siI_c rfl rfl rfl (fun h' hk => pInt _ _ r.v h' (Rd.imm h' _) (by rw [List.length_append]; omega) hr.2.1.1 hr.2.1.2) ?_
  simp only [siI_q, siI_a, sqI_some, saI_some, mOk_none', implies_true, qI_nil, qI_cons, thenQ_some, q_load, q_fieldAddr, goI_mk, opsA_cons, stepA_call, eval_tmp, put_some, enterF_succ, aField_eq, fieldGo_ptr, aLoad_eq, loadGo_one, aPlace_ptr, dropC_cells, List.getElem?_cons_zero, List.getElem?_cons_succ, Nat.reduceEqDiff, Nat.reduceAdd, Nat.reduceLeDiff, List.map_cons, List.map_nil, Nat.zero_add, List.length_cons, List.length_nil, List.drop_zero, List.drop_succ_cons, true_and, if_true, if_false, ft_23_2, lt_2, hg]
  refine callI_of cal46 (sInt _ _ r.t H (Rd.imm H _) (by simp only [List.length_append]; omega) hr.2.2.1 hr.2.2.2) fun v h2 ⟨o2, k2, d2⟩ => ?_
  simp only [siI_done, siI_q, sqI_some, mOk_none', implies_true, qI_nil, qI_cons, q_assign, wpA_ret, seqQ_normal, endI_mk, goI_out, goI_ops, goI_mk, opsA_nil, eval_tmp, put_some, enterF_succ, List.getElem?_cons_zero, List.getElem?_cons_succ, Bool.false_eq_true, Nat.reduceEqDiff, true_and, if_true, if_false, retA_ret, Tryd.results27, resultsA_1]
  refine hid_mk (Acc.conv (cs := bytesV (cs ++ enc (zz r.k) ++ enc (zz r.v) ++ enc (zz r.t))) ⟨o2, kH.trans' k2, fun k hk => Nat.le_trans kH.n (d2 k hk)⟩ ?_)
  rw [encR_eq]
  simp only [List.append_assoc]
theorem sRecord (r : Rcd) (h : AHeap) (hr : rIn r) : SCalls Tryd.prog 12 [.agg (rcdE r)] h (fun v h' => Acc h h' 5 1 v (bytesV (encR r))) := by
  refine SCalls.enterI (c := _) Tryd.func12 rfl (by kernel_rfl) (by simp) ?_
  have hcl : (V.agg (rcdE r)).cells = some (rcdE r) := rfl
  have hld : (if 3 ≤ (rcdE r).length then some (V.agg (List.take 3 (rcdE r))) else none) = some (.agg (rcdE r)) := rfl
  simp only [wpA_region, wpA_seq, seqQ_normal, goI_out, goI_ops, opsA_nil, opsA_cons, stepA_assign, stepA_box, stepA_load, stepA_call, thenV_some, thenH_some, eval_tmp, eval_const, put_some, enterF_zero, enterF_succ, absV_snil, aLoad_eq, loadGo_row, aPlace_ptr, dropC_cells, aBox_eq, get_push_new, Nat.reduceEqDiff, List.map_cons, List.map_nil, Option.map_some, Nat.zero_le, List.drop_zero, if_true, if_false, lt_23, hcl, hld]
  refine callI_of cal27 (sAddRec .snil [] r _ (Rd.snil _) hr (by simp)) fun v h2 a2 => ?_
  simp only [wpA_ret, seqQ_normal, endI_mk, goI_out, goI_ops, opsA_nil, opsA_cons, stepA_assign, eval_tmp, put_some, enterF_succ, Nat.reduceEqDiff, if_true, if_false, retA_ret, Tryd.results12, resultsA_1]
  exact hid_mk ⟨a2.own, (Keep.push _ _ _).trans' a2.keep, fun k hk => by have := a2.new k hk; rw [push_n] at this; omega⟩
set_option maxHeartbeats 2000000 in
set_option maxRecDepth 10000 in
theorem sEntry (x : Ent) (h : AHeap) (hu : KU h) (hx : eIn x) (hlen : eLen x) : SCalls Tryd.prog 14 [.agg (entE x)] h (fun r h' => ∃ v, r = .tuple [v, .int .i64 (codeV x)] ∧ Acc h h' 5 1 v (bytesV (encV x))) := by
  refine SCalls.enterI (c := _) Tryd.func14 rfl (by kernel_rfl) (by simp) ?_
  have hcl : (V.agg (entE x)).cells = some (entE x) := rfl
  have hld : (if 11 ≤ (entE x).length then some (V.agg (List.take 11 (entE x))) else none) = some (.agg (entE x)) := rfl
  simp only [wpA_region, wpA_seq, seqQ_normal, goI_out, goI_ops, opsA_nil, opsA_cons, stepA_assign, stepA_box, stepA_load, stepA_call, thenV_some, thenH_some, eval_tmp, eval_const, put_some, enterF_zero, enterF_succ, absV_int, absV_snil, aLoad_eq, loadGo_row, aPlace_ptr, dropC_cells, aBox_eq, get_push_new, Nat.reduceEqDiff, List.map_cons, List.map_nil, Option.map_some, Nat.zero_le, List.drop_zero, if_true, if_false, lt_35, hcl, hld]
  obtain ⟨H, hH⟩ : ∃ y, y = h.push (.cells (entE x) 35 none) := ⟨_, rfl⟩
  have hg : H.get h.n = .cells [.int .i64 x.kind, .int .i64 x.task, .int .i64 x.epoch, .int .i64 x.txn, .int .i64 x.log, .int .i64 x.r.k, .int .i64 x.r.v, .int .i64 x.r.t, .bool x.del, .imm x.offs.length (i64V x.offs), .imm x.order.length (i64V x.order)] 35 none := by rw [hH]; exact get_push_new
  have kH : Keep h H none_ := by rw [hH]; exact Keep.push _ _ _
  have uH : KU H := by unfold KU; rw [kH.glob]; exact hu
  rw [← hH]
  clear hH
  refine callI_pure cal19 (pMay x H uH hlen) ?_
  cases hm : mayB x
  · simp only [wpA_region, wpA_seq, wpA_cond, wpA_ret, condI_true, seqQ_normal, seqQ_ret, endI_mk, goI_out, goI_ops, opsA_nil, opsA_cons, stepA_assign, stepA_unOp, thenV_some, eval_tmp, eval_const, put_some, enterF_succ, aUn_not, absV_int, absV_snil, Nat.reduceEqDiff, if_true, if_false, Bool.not_false, retA_ret, Tryd.results14, resultsA_2]
    have e1 : encV x = [] := by simp [encV, hm]
    have e2 : codeV x = 1 := by simp [codeV, hm]
    rw [e1, e2]
    exact hid_mk ⟨.snil, rfl, Acc.nil kH⟩
  have e1 : encV x = encT x := by simp [encV, hm]
  have e2 : codeV x = 0 := by simp [codeV, hm]
  rw [e1, e2]
  obtain ⟨hk, m1, m2, m3, m4, mt, o1, o2, r1, r2, _⟩ := (may_iff x).1 hm
  rw [fit_iff] at m1 m2 m3 m4
  simp only [wpA_skip, wpA_region, wpA_seq, wpA_cond, wpA_block, wpA_loop, condI_false, seqQ_normal, goI_out, goI_ops, opsA_nil, opsA_cons, stepA_move, stepA_assign, stepA_build, stepA_load, stepA_unOp, stepA_fieldAddr, thenV_some, eval_tmp, eval_const, put_some, enterF_succ, aUn_not, absV_int, absV_snil, cells_int, aField_eq, fieldGo_ptr, aLoad_eq, loadGo_one, aPlace_ptr, dropC_cells, setAll_nil, setAll_cons, aBuild_go, aFill_nil, aFill_cons, fillGo_some, buildGo_array, Nat.reduceEqDiff, Nat.reduceAdd, Nat.reduceLeDiff, Nat.reduceMul, List.map_cons, List.map_nil, Option.map_some, Nat.add_zero, Nat.zero_add, Nat.zero_le, List.length_cons, List.length_nil, List.drop_zero, List.drop_succ_cons, List.set_cons_zero, List.set_cons_succ, and_self, if_true, if_false, Bool.not_true, Nat.le_refl, ft_35_0, ft_35_1, ft_35_2, ft_35_3, ft_35_4, lt_3, pl_61, zc_61, hg]
  have hF : ∀ n ∈ fiveN x, n < 2 ^ 63 := by
    intro n hn
    simp only [fiveN, List.mem_cons, List.not_mem_nil, or_false] at hn
    rcases hn with rfl | rfl | rfl | rfl | rfl <;> omega
  have hFC : fiveC x = (fiveN x).map fun n : Nat => V.int .i64 (n : Int) := by
    simp only [fiveC, fiveN, List.map_cons, List.map_nil, List.cons.injEq, V.int.injEq, true_and, and_true]
    omega
  refine SWp.loopG (α := Nat × V) (fun y f h' => h' = H ∧ f 1 = .ptr h.n 0 ∧ f 4 = y.2 ∧ f 20 = .agg (fiveC x) ∧ f 21 = .int .i64 (y.1 : Nat) ∧ y.1 ≤ 5 ∧ Rd H y.2 (((fiveN x).take y.1).flatMap enc)) (fun y => 5 - y.1) (0, .snil)
    ⟨rfl, rfl, rfl, rfl, rfl, Nat.zero_le _, Rd.snil _⟩ ?_
  rintro ⟨i, v⟩ f h' ⟨rfl, f1, f4, f20, f21, hi, hrd⟩
  simp only at f4 f21 hi hrd
  refine wpI_sound (by kernel_rfl) ?_
  have hln : (fiveN x).length = 5 := rfl
  have hfl : (((fiveN x).take i).flatMap enc).length ≤ 50 := by
    have := flat_le ((fiveN x).take i) fun n hn => by have := hF n (List.mem_of_mem_take hn); omega
    rw [List.length_take] at this; omega
  by_cases hlast : i < 5
  · have d1 : decide ((i : Int) < 5) = true := decide_eq_true (by omega)
    have hw := inc64 hlast (by omega)
    have hi2 : i < (fiveN x).length := hlast
    have hFi := hF _ (List.getElem_mem hi2)
    have hix : aIndex Tryd.prog 61 (.agg (fiveC x)) (.int .i64 (i : Int)) = some (.int .i64 ((fiveN x)[i] : Nat)) := by
      rw [aIndex_one ax_five hlast, hFC, List.getElem?_map, List.getElem?_eq_getElem hi2]
      rfl
    have hs : ((fiveN x).take (i + 1)).flatMap enc = ((fiveN x).take i).flatMap enc ++ enc (fiveN x)[i] := by
      rw [List.take_succ_eq_append_getElem hi2, List.flatMap_append]
      simp
    generalize (fiveN x)[i] = n at hFi hix hs
    have hwu := nat_u64 (n := n) (by omega)
    simp only [wpA_skip, wpA_region, wpA_seq, wpA_cond, wpA_block, condI_true, seqQ_normal, goI_out, goI_ops, opsA_nil, opsA_cons, stepA_move, stepA_assign, stepA_binOp, stepA_convert, stepA_index, stepA_call, thenV_some, eval_tmp, eval_const, put_some, aBin_lss, absV_int, Nat.reduceEqDiff, List.map_cons, List.map_nil, if_true, if_false, f4, f20, f21, d1, hix, aConv_int it_3 it_63, hwu]
    refine callI_pure cal29 (pUint v _ n _ hrd (by omega) (by omega)) ?_
    simp only [wpA_region, seqQ_normal, blkQ_normal, endI_mk, andThen_normal, goI_out, goI_ops, opsA_nil, opsA_cons, stepA_move, stepA_assign, stepA_binOp, thenV_some, eval_tmp, eval_const, put_some, aBin_add, absV_int, Nat.reduceEqDiff, if_true, if_false, f21, hw]
    refine hid_mk ⟨(i + 1, _), ⟨rfl, f1, rfl, f20, rfl, hlast, ?_⟩, by simp only; omega⟩
    simp only [hs]
    exact Rd.imm _ _
  · have d1 : decide ((i : Int) < 5) = false := decide_eq_false (by omega)
    rw [List.take_of_length_le (by omega)] at hrd hfl
    simp only [wpA_region, wpA_seq, wpA_cond, wpA_exit, condI_false, seqQ_normal, seqQ_exit, blkQ_exit, endI_mk, goE, andThen_exit, goI_out, goI_ops, opsA_nil, opsA_cons, stepA_move, stepA_load, stepA_binOp, stepA_fieldAddr, stepA_call, thenV_some, eval_tmp, eval_const, put_some, aBin_lss, absV_int, aField_eq, fieldGo_ptr, aLoad_eq, loadGo_row, aPlace_ptr, dropC_cells, Nat.reduceEqDiff, Nat.reduceAdd, Nat.reduceLeDiff, List.map_cons, List.map_nil, Nat.zero_add, List.length_cons, List.length_nil, List.drop_zero, List.drop_succ_cons, List.take_succ_cons, List.take_zero, if_true, if_false, ft_35_5, lt_23, f1, f4, f21, d1, hg]
    have l3 := encR_le hx.2.2.2.2.2.1
    refine callI_pure cal27 (pAddRec v _ x.r _ hrd hx.2.2.2.2.2.1 (by omega)) ?_
    simp only [wpA_region, wpA_seq, seqQ_normal, goI_out, goI_ops, opsA_nil, opsA_cons, stepA_move, stepA_assign, stepA_load, stepA_fieldAddr, stepA_call, thenV_some, eval_tmp, put_some, aField_eq, fieldGo_ptr, aLoad_eq, loadGo_one, aPlace_ptr, dropC_cells, Nat.reduceEqDiff, Nat.reduceAdd, Nat.reduceLeDiff, List.map_cons, List.map_nil, Nat.zero_add, List.length_cons, List.length_nil, List.drop_zero, List.drop_succ_cons, if_true, if_false, ft_35_6, lt_4, f1, f4, hg]
    refine callI_pure cal30 (pFlag x.del _) ?_
    simp only [goI_ops, opsA_cons, stepA_call, eval_tmp, put_some, Nat.reduceEqDiff, List.map_cons, List.map_nil, if_true, if_false]
    have hfe : (if x.del = true then (1 : Int) else 0) = (((if x.del = true then 1 else 0) : Nat) : Int) := by split <;> rfl
    rw [hfe]
    refine callI_pure cal29 (pUint _ _ _ _ (Rd.imm _ _) (by simp only [List.length_append]; omega) (by split <;> omega)) ?_
    simp only [wpA_seq, wpA_draw, seqQ_normal, goI_out, goI_ops, opsA_nil, opsA_cons, stepA_assign, eval_tmp, put_some, Nat.reduceEqDiff, if_true, if_false]
    have l4 := (enc_le (if x.del = true then 1 else 0) (by split <;> omega)).2
    refine SWp.drawnS none_ [6] (.q 0 (.q 1 (.q 2 (.c 3 (.q 4 (.q 5 (.a 6 (.q 7 (.q 8 .done))))))))) (by kernel_rfl) (by kernel_rfl) (by kernel_rfl) ?_
    simp only [siI_q, sqI_some, mOk_none', implies_true, qI_nil, qI_cons, thenQ_some, q_move, q_load, q_fieldAddr, goI_mk, eval_tmp, put_some, aField_eq, fieldGo_ptr, aLoad_eq, loadGo_one, aPlace_ptr, dropC_cells, List.getElem?_cons_zero, List.getElem?_cons_succ, Nat.reduceEqDiff, Nat.reduceAdd, Nat.reduceLeDiff, Nat.zero_add, List.length_cons, List.length_nil, List.drop_zero, List.drop_succ_cons, true_and, if_true, if_false, ft_35_7, lt_33, f1, f4, hg]
    refine siI_c rfl rfl rfl (fun h' hk => pInts _ _ x.offs h' (Rd.imm h' _) hx.2.2.2.2.2.2.1 (by simp only [List.length_append]; omega)) ?_
    simp only [siI_q, siI_a, sqI_some, saI_some, mOk_none', implies_true, qI_nil, qI_cons, thenQ_some, q_load, q_fieldAddr, goI_mk, opsA_cons, stepA_call, eval_tmp, put_some, aField_eq, fieldGo_ptr, aLoad_eq, loadGo_one, aPlace_ptr, dropC_cells, List.getElem?_cons_zero, List.getElem?_cons_succ, Nat.reduceEqDiff, Nat.reduceAdd, Nat.reduceLeDiff, List.map_cons, List.map_nil, Nat.zero_add, List.length_cons, List.length_nil, List.drop_zero, List.drop_succ_cons, true_and, if_true, if_false, ft_35_8, lt_33, f1, hg]
    have l5 := encInts_len x.offs (by omega) (fit32 o2)
    refine callI_of cal31 (sInts _ _ x.order _ (Rd.imm _ _) hx.2.2.2.2.2.2.2 (by simp only [List.length_append]; omega)) fun v2 h2 a2 => ?_
    simp only [siI_done, siI_q, sqI_some, mOk_none', implies_true, qI_nil, qI_cons, q_assign, wpA_ret, seqQ_normal, endI_mk, goI_out, goI_ops, goI_mk, opsA_nil, eval_tmp, eval_const, put_some, absV_int, List.getElem?_cons_zero, List.getElem?_cons_succ, Bool.false_eq_true, Nat.reduceEqDiff, true_and, if_true, if_false, retA_ret, Tryd.results14, resultsA_2]
    have hE : (fiveN x).flatMap enc ++ encR x.r ++ enc (if x.del = true then 1 else 0) ++ encInts x.offs ++ encInts x.order = encT x := by
      simp [fiveN, encR, nums3, encT, nums9]
    rw [hE] at a2
    exact hid_mk ⟨v2, rfl, a2.own, kH.trans' a2.keep, fun k hk => Nat.le_trans kH.n (a2.new k hk)⟩
end Go.Proofs.YtjphnabogfiahaaDoor.Pk
