/-
  What functions of the program do, told of abstract states. Conditions: as each theorem says.
-/
import Derived.Test.YtjphnabogfiahaaDoorReS
import Derived.Test.YtjphnabogfiahaaDoorReO
namespace Go.Proofs.YtjphnabogfiahaaDoor.Pk
open Go Go.Proofs Go.Proofs.YtjphnabogfiahaaDoor.Ab
set_option linter.unusedVariables false
set_option linter.unusedSimpArgs false

theorem lit5i (h : AHeap) (a b c d e : Int) : aBuildSlice Tryd.prog 33 5 [(0, .int .i64 a), (1, .int .i64 b), (2, .int .i64 c), (3, .int .i64 d), (4, .int .i64 e)] h = some (.sl h.n 0 5 5, h.push (.cells (i64V [a, b, c, d, e]) 3 none)) := by rw [buildSlice_go sl_33]; rfl
set_option maxHeartbeats 2000000 in
set_option maxRecDepth 10000 in
theorem rEntry (x : Ent) (h : AHeap) (hx : eIn x) (hlen : eLen x) : Pure Tryd.prog 15 [.agg (entE x)] h (.tuple [.imm (encV x).length (bytesV (encV x)), .int .i64 (codeV x)]) := by
  refine Pure.of (Clo.tuple (CloL.cons (Clo.imm (bytesV_clo _)) (CloL.cons (Clo.int _ _) CloL.nil))) ?_
  refine SCalls.enterI (c := _) Tryd.func15 rfl (by kernel_rfl) (by simp) ?_
  have hcl : (V.agg (entE x)).cells = some (entE x) := rfl
  have hld : (if 11 ≤ (entE x).length then some (V.agg (List.take 11 (entE x))) else none) = some (.agg (entE x)) := rfl
  simp only [wpA_region, wpA_seq, seqQ_normal, goI_out, goI_ops, opsA_nil, opsA_cons, stepA_assign, stepA_box, stepA_load, stepA_call, thenV_some, thenH_some, eval_tmp, eval_const, put_some, enterF_zero, enterF_succ, absV_int, absV_snil, aLoad_eq, loadGo_row, aPlace_ptr, dropC_cells, aBox_eq, get_push_new, Nat.reduceEqDiff, List.map_cons, List.map_nil, Option.map_some, Nat.zero_le, List.drop_zero, if_true, if_false, lt_35, hcl, hld]
  obtain ⟨H, hH⟩ : ∃ y, y = h.push (.cells (entE x) 35 none) := ⟨_, rfl⟩
  have hg : H.get h.n = .cells [.int .i64 x.kind, .int .i64 x.task, .int .i64 x.epoch, .int .i64 x.txn, .int .i64 x.log, .int .i64 x.r.k, .int .i64 x.r.v, .int .i64 x.r.t, .bool x.del, .imm x.offs.length (i64V x.offs), .imm x.order.length (i64V x.order)] 35 none := by rw [hH]; exact get_push_new
  have kH : Keep h H none_ := by rw [hH]; exact Keep.push _ _ _
  have nH : H.n = h.n + 1 := by rw [hH]; rfl
  rw [← hH]
  clear hH
  refine callI_pure cal20 (rMay x H hlen) ?_
  cases hm : mayB x
  · simp only [wpA_region, wpA_seq, wpA_cond, wpA_ret, condI_true, seqQ_normal, seqQ_ret, endI_mk, goI_out, goI_ops, opsA_nil, opsA_cons, stepA_assign, stepA_unOp, thenV_some, eval_tmp, eval_const, put_some, enterF_succ, aUn_not, absV_int, absV_snil, Nat.reduceEqDiff, if_true, if_false, Bool.not_false, retA_ret, Tryd.results15, resultsA_2]
    have e1 : encV x = [] := by simp [encV, hm]
    have e2 : codeV x = 1 := by simp [codeV, hm]
    rw [e1, e2]
    exact hid_mk ⟨H, nil_cast _ _, kH⟩
  have e1 : encV x = encT x := by simp [encV, hm]
  have e2 : codeV x = 0 := by simp [codeV, hm]
  rw [e1, e2]
  obtain ⟨hk, m1, m2, m3, m4, mt, o1, o2, r1, r2, _⟩ := (may_iff x).1 hm
  rw [fit_iff] at m1 m2 m3 m4
  simp only [wpA_skip, wpA_region, wpA_seq, wpA_cond, wpA_block, wpA_loop, condI_false, seqQ_normal, goI_out, goI_ops, opsA_nil, opsA_cons, stepA_assign, stepA_buildSlice, stepA_load, stepA_unOp, stepA_fieldAddr, thenV_some, thenH_some, eval_tmp, eval_const, put_some, enterF_succ, aUn_not, absV_int, absV_snil, aField_eq, fieldGo_ptr, aLoad_eq, loadGo_one, aPlace_ptr, dropC_cells, Nat.reduceEqDiff, Nat.reduceAdd, Nat.reduceLeDiff, List.map_cons, List.map_nil, Nat.add_zero, Nat.zero_add, Nat.zero_le, List.length_cons, List.length_nil, List.drop_zero, List.drop_succ_cons, if_true, if_false, Bool.not_true, ft_35_0, ft_35_1, ft_35_2, ft_35_3, ft_35_4, lt_3, hg, lit5i]
  have hF : ∀ n ∈ fiveN x, n < 2 ^ 63 := by
    intro n hn
    simp only [fiveN, List.mem_cons, List.not_mem_nil, or_false] at hn
    rcases hn with rfl | rfl | rfl | rfl | rfl <;> omega
  obtain ⟨H2, hH2⟩ : ∃ y, y = H.push (.cells (i64V [x.kind, x.task, x.epoch, x.txn, x.log]) 3 none) := ⟨_, rfl⟩
  have g1 : H2.get h.n = .cells [.int .i64 x.kind, .int .i64 x.task, .int .i64 x.epoch, .int .i64 x.txn, .int .i64 x.log, .int .i64 x.r.k, .int .i64 x.r.v, .int .i64 x.r.t, .bool x.del, .imm x.offs.length (i64V x.offs), .imm x.order.length (i64V x.order)] 35 none := by rw [hH2, get_push_lt (by omega)]; exact hg
  have g2 : H2.get H.n = .cells (i64V [x.kind, x.task, x.epoch, x.txn, x.log]) 3 none := by rw [hH2]; exact get_push_new
  have k2 : Keep H H2 none_ := by rw [hH2]; exact Keep.push _ _ _
  have n2 : H2.n = h.n + 2 := by rw [hH2, push_n, nH]
  rw [← hH2]
  clear hH2
  have hFC : [x.kind, x.task, x.epoch, x.txn, x.log] = (fiveN x).map fun n : Nat => (n : Int) := by
    simp only [fiveN, List.map_cons, List.map_nil, List.cons.injEq, and_true]
    omega
  rw [hFC] at g2
  refine SWp.loopG (α := Nat × V) (fun y f h' => f 1 = .ptr h.n 0 ∧ f 4 = .sl H.n 0 5 5 ∧ f 5 = y.2 ∧ f 6 = .int .i64 (y.1 : Nat) ∧ y.1 ≤ 5 ∧ Acc H2 h' 5 1 y.2 (bytesV (((fiveN x).take y.1).flatMap enc))) (fun y => 5 - y.1) (0, .snil)
    ⟨rfl, rfl, rfl, rfl, Nat.zero_le _, Acc.nil (Keep.refl _ _)⟩ ?_
  rintro ⟨i, v⟩ f h' ⟨f1, f4, f5, f6, hi, acc⟩
  simp only at f5 f6 hi acc
  have q1 := (acc.keep.get h.n (by omega) (by simp [none_])).trans g1
  have q2 := (acc.keep.get H.n (by omega) (by simp [none_])).trans g2
  refine wpI_sound (by kernel_rfl) ?_
  have hln : (fiveN x).length = 5 := rfl
  have hfl : (((fiveN x).take i).flatMap enc).length ≤ 50 := by
    have := flat_le ((fiveN x).take i) fun n hn => by have := hF n (List.mem_of_mem_take hn); omega
    rw [List.length_take] at this; omega
  by_cases hlast : i < 5
  · have d1 : decide ((i : Int) < 5) = true := decide_eq_true (by omega)
    have hw := inc64 hlast (by omega)
    have hi2 : i < (fiveN x).length := hlast
    have hFi := hF _ (List.getElem_mem hi2)
    have hix : (if (0 : Int) ≤ (i : Int) ∧ (i : Int) < ((5 : Nat) : Int) then some (V.ptr H.n (0 + (i : Int).toNat * 1)) else none) = some (.ptr H.n i) := by
      rw [if_pos ⟨by omega, by omega⟩]; simp
    have hix2 : (if (0 : Int) ≤ (i : Int) ∧ (i : Int) < ((5 : Nat) : Int) then some (V.ptr H.n ((i : Int).toNat * 1)) else none) = some (.ptr H.n i) := by
      rw [if_pos ⟨by omega, by omega⟩]; simp
    have hdr : dropC (AObj.cells (i64V ((fiveN x).map fun n : Nat => (n : Int))) 3 none) i = some (.int .i64 ((fiveN x)[i] : Nat) :: (i64V ((fiveN x).map fun n : Nat => (n : Int))).drop (i + 1)) := by
      rw [dropC_cells, if_pos (by simp [i64V]; omega), List.drop_eq_getElem_cons (by simp [i64V]; omega)]
      simp [i64V]
    have hs : ((fiveN x).take (i + 1)).flatMap enc = ((fiveN x).take i).flatMap enc ++ enc (fiveN x)[i] := by
      rw [List.take_succ_eq_append_getElem hi2, List.flatMap_append]
      simp
    generalize (fiveN x)[i] = n at hFi hdr hs
    have hwu := nat_u64 (n := n) (by omega)
    simp only [wpA_skip, wpA_region, wpA_seq, wpA_cond, wpA_block, condI_true, seqQ_normal, goI_out, goI_ops, opsA_nil, opsA_cons, stepA_move, stepA_load, stepA_binOp, stepA_convert, stepA_indexAddr, stepA_call, thenV_some, eval_tmp, eval_const, put_some, aBin_lss, absV_int, aLoad_eq, loadGo_one, aPlace_ptr, aIndexAddr_eq, ixGo_sl, Nat.reduceEqDiff, List.map_cons, List.map_nil, Nat.zero_add, if_true, if_false, as_33, lt_3, ss_33, f4, f5, f6, d1, hix2, q2, hdr, aConv_int it_3 it_63, hwu]
    refine callI_of cal32 (rUintA v _ n h' (Rd.own acc.own) (by omega) (by omega)) fun r h2 a2 => ?_
    simp only [wpA_region, seqQ_normal, blkQ_normal, endI_mk, andThen_normal, goI_out, goI_ops, opsA_nil, opsA_cons, stepA_move, stepA_assign, stepA_binOp, thenV_some, eval_tmp, eval_const, put_some, aBin_add, absV_int, Nat.reduceEqDiff, if_true, if_false, f6, hw]
    refine hid_mk ⟨(i + 1, _), ⟨f1, f4, rfl, rfl, hlast, ?_⟩, by simp only; omega⟩
    simp only [hs]
    exact ⟨a2.own, acc.keep.trans' a2.keep, fun k hk => Nat.le_trans acc.keep.n (a2.new k hk)⟩
  · have d1 : decide ((i : Int) < 5) = false := decide_eq_false (by omega)
    rw [List.take_of_length_le (by omega)] at acc hfl
    have hcl3 : (if 3 ≤ [V.int .i64 x.r.k, V.int .i64 x.r.v, V.int .i64 x.r.t, V.bool x.del, V.imm x.offs.length (i64V x.offs), V.imm x.order.length (i64V x.order)].length then some (V.agg (List.take 3 [V.int .i64 x.r.k, V.int .i64 x.r.v, V.int .i64 x.r.t, V.bool x.del, V.imm x.offs.length (i64V x.offs), V.imm x.order.length (i64V x.order)])) else none) = some (.agg (rcdE x.r)) := rfl
    simp only [wpA_region, wpA_seq, wpA_cond, wpA_exit, condI_false, seqQ_normal, seqQ_exit, blkQ_exit, endI_mk, goE, andThen_exit, goI_out, goI_ops, opsA_nil, opsA_cons, stepA_move, stepA_load, stepA_binOp, stepA_fieldAddr, stepA_call, thenV_some, eval_tmp, eval_const, put_some, aBin_lss, absV_int, aField_eq, fieldGo_ptr, aLoad_eq, loadGo_row, aPlace_ptr, dropC_cells, Nat.reduceEqDiff, Nat.reduceAdd, Nat.reduceLeDiff, List.map_cons, List.map_nil, Nat.zero_add, List.length_cons, List.length_nil, List.drop_zero, List.drop_succ_cons, List.take_succ_cons, List.take_zero, if_true, if_false, ft_35_5, lt_23, f1, f5, f6, d1, q1]
    have l3 := encR_le hx.2.2.2.2.2.1
    refine callI_pure cal13 (rRecord x.r _ hx.2.2.2.2.2.1) ?_
    obtain ⟨v2, h2, ap, a2⟩ := acc.appM sl_24 (by decide) (tx := 24) (imm_src kt_24 (by rw [bytesV_length, Nat.mul_one]) (bytesV_one (encR x.r))) (by rw [bytesV_length]; exact (Nat.mul_one _).symm) (fun m hm => by
      change m * 1 = _ at hm
      rw [Nat.mul_one, bytesV_length, bytesV_length] at hm
      exact ⟨by simp only [lim]; omega, by simp only [lim]; omega⟩)
    simp only [wpA_region, wpA_seq, seqQ_normal, goI_out, goI_ops, opsA_nil, opsA_cons, stepA_assign, stepA_load, stepA_fieldAddr, stepA_append, thenV_some, thenH_some, eval_tmp, put_some, aField_eq, fieldGo_ptr, aLoad_eq, aPlace_ptr, Nat.reduceEqDiff, Nat.zero_add, if_true, if_false, ft_35_6, lt_4, f1, ap]
    have p1 := (a2.keep.get h.n (by omega) (by simp [none_])).trans g1
    have hb2 : ∀ b : Bool, ∃ v3 h3, aAppend Tryd.prog 24 24 v2 (.sl h2.n 0 1 1) (h2.push (.cells [.int .u8 (if b then 1 else 0)] 5 none)) = some (v3, h3) ∧ Acc H2 h3 5 1 v3 (bytesV ((fiveN x).flatMap enc ++ encR x.r ++ enc (if b then 1 else 0))) := fun b => by
      obtain ⟨v3, h3, e3, a3⟩ := a2.elemM sl_24 (by decide) (xs := [.int .u8 (if b then 1 else 0)]) rfl rfl (fun m hm => by
        change m * 1 = _ + 1 at hm
        rw [Nat.mul_one, List.length_append, bytesV_length, bytesV_length] at hm
        exact ⟨by simp only [lim]; omega, by simp only [lim]; omega⟩)
      refine ⟨v3, h3, e3, a3.conv ?_⟩
      rw [enc_small (by split <;> omega), bytesV_append, bytesV_append]
      cases b <;> rfl
    have fin : ∀ (v3 : V) (h3 : AHeap) (f : AFrame), Acc H2 h3 5 1 v3 (bytesV ((fiveN x).flatMap enc ++ encR x.r ++ enc (if x.del then 1 else 0))) → f 1 = .ptr h.n 0 → f 5 = v3 → True := fun _ _ _ _ _ _ => trivial
    have hE : (fiveN x).flatMap enc ++ encR x.r ++ enc (if x.del = true then 1 else 0) ++ encInts x.offs ++ encInts x.order = encT x := by
      simp [fiveN, encR, nums3, encT, nums9]
    have l4 := (enc_le (if x.del = true then 1 else 0) (by split <;> omega)).2
    have l5 := encInts_len x.offs (by omega) (fit32 o2)
    have kHH : Keep h H2 none_ := kH.trans' k2
    generalize hdel : x.del = del at g1 q1 p1 hE l4
    cases del
    · obtain ⟨v3, h3, e3, a3⟩ := hb2 false
      have r1' := (a3.keep.get h.n (by omega) (by simp [none_])).trans g1
      simp only [Bool.false_eq_true, if_false] at e3 a3 hE l4
      simp only [wpA_region, wpA_seq, wpA_cond, wpA_draw, condI_false, seqQ_normal, goI_out, goI_ops, opsA_nil, opsA_cons, stepA_move, stepA_assign, stepA_buildSlice, stepA_append, thenV_some, thenH_some, eval_tmp, eval_const, put_some, absV_int, loadGo_one, dropC_cells, Nat.reduceEqDiff, Nat.reduceAdd, Nat.reduceLeDiff, List.map_cons, List.map_nil, Nat.zero_add, List.length_cons, List.length_nil, List.drop_zero, List.drop_succ_cons, if_true, if_false, f5, p1, lit1b, e3]
      refine SWp.drawnS none_ [] (.q 0 (.q 1 (.q 2 (.c 3 (.q 4 (.q 5 (.c 6 (.q 7 (.q 8 .done))))))))) (by kernel_rfl) (by kernel_rfl) (by kernel_rfl) ?_
      simp only [siI_q, sqI_some, mOk_none', implies_true, qI_nil, qI_cons, thenQ_some, q_move, q_load, q_fieldAddr, goI_mk, eval_tmp, put_some, aField_eq, fieldGo_ptr, aLoad_eq, loadGo_one, aPlace_ptr, dropC_cells, List.getElem?_cons_zero, List.getElem?_cons_succ, Nat.reduceEqDiff, Nat.reduceAdd, Nat.reduceLeDiff, Nat.zero_add, List.length_cons, List.length_nil, List.drop_zero, List.drop_succ_cons, true_and, if_true, if_false, ft_35_7, lt_33, f1, r1']
      refine siI_c rfl rfl rfl (fun h' hk => rInts _ _ x.offs h' (Rd.own (by rcases hk with hk | rfl; exact a3.own.keepN hk; exact a3.own)) hx.2.2.2.2.2.2.1 (by simp only [List.length_append]; omega)) ?_
      simp only [siI_q, sqI_some, mOk_none', implies_true, qI_nil, qI_cons, thenQ_some, q_load, q_fieldAddr, goI_mk, eval_tmp, put_some, aField_eq, fieldGo_ptr, aLoad_eq, loadGo_one, aPlace_ptr, dropC_cells, List.getElem?_cons_zero, List.getElem?_cons_succ, Nat.reduceEqDiff, Nat.reduceAdd, Nat.reduceLeDiff, Nat.zero_add, List.length_cons, List.length_nil, List.drop_zero, List.drop_succ_cons, true_and, if_true, if_false, ft_35_8, lt_33, f1, r1']
      refine siI_c rfl rfl rfl (fun h' hk => rInts _ _ x.order h' (Rd.imm h' _) hx.2.2.2.2.2.2.2 (by simp only [List.length_append]; omega)) ?_
      simp only [siI_done, siI_q, sqI_some, mOk_none', implies_true, qI_nil, qI_cons, q_assign, wpA_ret, seqQ_normal, endI_mk, goI_out, goI_mk, eval_tmp, eval_const, put_some, absV_int, List.getElem?_cons_zero, List.getElem?_cons_succ, Nat.reduceEqDiff, true_and, if_true, if_false, retA_ret, Tryd.results15, resultsA_2]
      rw [hE]
      exact hid_mk ⟨_, Cast.refl _ _, kHH.trans' a3.keep⟩
    · obtain ⟨v3, h3, e3, a3⟩ := hb2 true
      have r1' := (a3.keep.get h.n (by omega) (by simp [none_])).trans g1
      simp only [if_true] at e3 a3 hE l4
      simp only [wpA_region, wpA_seq, wpA_cond, wpA_draw, condI_true, seqQ_normal, goI_out, goI_ops, opsA_nil, opsA_cons, stepA_move, stepA_assign, stepA_buildSlice, stepA_append, thenV_some, thenH_some, eval_tmp, eval_const, put_some, absV_int, loadGo_one, dropC_cells, Nat.reduceEqDiff, Nat.reduceAdd, Nat.reduceLeDiff, List.map_cons, List.map_nil, Nat.zero_add, List.length_cons, List.length_nil, List.drop_zero, List.drop_succ_cons, if_true, if_false, f5, p1, lit1b, e3]
      refine SWp.drawnS none_ [] (.q 0 (.q 1 (.q 2 (.c 3 (.q 4 (.q 5 (.c 6 (.q 7 (.q 8 .done))))))))) (by kernel_rfl) (by kernel_rfl) (by kernel_rfl) ?_
      simp only [siI_q, sqI_some, mOk_none', implies_true, qI_nil, qI_cons, thenQ_some, q_move, q_load, q_fieldAddr, goI_mk, eval_tmp, put_some, aField_eq, fieldGo_ptr, aLoad_eq, loadGo_one, aPlace_ptr, dropC_cells, List.getElem?_cons_zero, List.getElem?_cons_succ, Nat.reduceEqDiff, Nat.reduceAdd, Nat.reduceLeDiff, Nat.zero_add, List.length_cons, List.length_nil, List.drop_zero, List.drop_succ_cons, true_and, if_true, if_false, ft_35_7, lt_33, f1, r1']
      refine siI_c rfl rfl rfl (fun h' hk => rInts _ _ x.offs h' (Rd.own (by rcases hk with hk | rfl; exact a3.own.keepN hk; exact a3.own)) hx.2.2.2.2.2.2.1 (by simp only [List.length_append]; omega)) ?_
      simp only [siI_q, sqI_some, mOk_none', implies_true, qI_nil, qI_cons, thenQ_some, q_load, q_fieldAddr, goI_mk, eval_tmp, put_some, aField_eq, fieldGo_ptr, aLoad_eq, loadGo_one, aPlace_ptr, dropC_cells, List.getElem?_cons_zero, List.getElem?_cons_succ, Nat.reduceEqDiff, Nat.reduceAdd, Nat.reduceLeDiff, Nat.zero_add, List.length_cons, List.length_nil, List.drop_zero, List.drop_succ_cons, true_and, if_true, if_false, ft_35_8, lt_33, f1, r1']
      refine siI_c rfl rfl rfl (fun h' hk => rInts _ _ x.order h' (Rd.imm h' _) hx.2.2.2.2.2.2.2 (by simp only [List.length_append]; omega)) ?_
      simp only [siI_done, siI_q, sqI_some, mOk_none', implies_true, qI_nil, qI_cons, q_assign, wpA_ret, seqQ_normal, endI_mk, goI_out, goI_mk, eval_tmp, eval_const, put_some, absV_int, List.getElem?_cons_zero, List.getElem?_cons_succ, Nat.reduceEqDiff, true_and, if_true, if_false, retA_ret, Tryd.results15, resultsA_2]
      rw [hE]
      exact hid_mk ⟨_, Cast.refl _ _, kHH.trans' a3.keep⟩
end Go.Proofs.YtjphnabogfiahaaDoor.Pk
