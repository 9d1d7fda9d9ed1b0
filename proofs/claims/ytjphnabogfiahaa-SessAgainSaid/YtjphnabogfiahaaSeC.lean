/-
  What functions of the program do, told of abstract states. Conditions: as each theorem says.
-/
import Derived.Test.YtjphnabogfiahaaSeB
import Derived.Test.YtjphnabogfiahaaAbD
namespace Go.Proofs.Ytjphnabogfiahaa.Pk
open Go Go.Proofs Go.Proofs.Ytjphnabogfiahaa.Ab
set_option linter.unusedVariables false
set_option linter.unusedSimpArgs false
theorem lit1cS (h : AHeap) (c : Chg) : aBuildSlice Try.prog 28 1 [(0, .agg (chgE c))] h = some (.sl h.n 0 1 1, h.push (.cells (chgE c) 30 none)) := slice1 sl_28 rfl rfl (by decide)
theorem lit1s (h : AHeap) (c : Chg) : aBuildSlice Try.prog 47 1 [(0, .agg (sesE c))] h = some (.sl h.n 0 1 1, h.push (.cells (sesE c) 52 none)) := slice1 sl_47 rfl rfl (by decide)
/-- A store. -/
structure IsSes (h : AHeap) (i : Nat) (v : V) (room g : Int) (l : List Chg) : Prop where
  lt : i < h.n
  get : h.get i = .cells [.int .i64 room, .int .i64 g, v] 49 none
  own : Own h 52 3 v (l.flatMap sesE)
  ne : idOf v ≠ some i
  ss : SS l
  ok : ∀ x ∈ l, okS x
  len : l.length ≤ 1024
  g1 : 1 ≤ g
  g2 : g ≤ 2 ^ 20
section
variable {h h' : AHeap} {i : Nat} {v : V} {room g : Int} {l : List Chg}
theorem IsSes.rows (k : IsSes h i v room g l) : (l.flatMap sesE).length = l.length * 3 := rows_len sesE_len l
theorem IsSes.keep {own : Nat → Prop} (k : IsSes h i v room g l) (hk : Keep h h' own) (h1 : ¬ own i) (h2 : ∀ j, idOf v = some j → ¬ own j) : IsSes h' i v room g l :=
  ⟨Nat.lt_of_lt_of_le k.lt hk.n, (hk.get i k.lt h1).trans k.get, k.own.keep hk h2, k.ne, k.ss, k.ok, k.len, k.g1, k.g2⟩
theorem IsSes.keepN (k : IsSes h i v room g l) (hk : Keep h h' none_) : IsSes h' i v room g l := k.keep hk (by simp [none_]) (by simp [none_])
theorem IsSes.alen (k : IsSes h i v room g l) (H : AHeap) : aLen Try.prog 47 v H = some (.int .i64 (l.length : Nat)) := salen k.own
end
/-- What a store's call touches. -/
def sesO (i : Nat) (v : V) : Nat → Prop := fun q => q = i ∨ isId v q
set_option maxRecDepth 10000 in
theorem pFindS (h : AHeap) (i : Nat) (v : V) (room g : Int) (l : List Chg) (x : Chg) (hx : okS x) (k : IsSes h i v room g l) :
    Pure Try.prog 23 [.ptr i 0, .agg (sesE x)] h (.tuple [.int .i64 (pos3 l x : Nat), .bool (has3 l x)]) := by
  refine Pure.val (Clo.tuple (CloL.cons (Clo.int _ _) (CloL.cons (Clo.bool _) CloL.nil))) ?_
  refine SCalls.enterI (c := _) Try.func23 rfl (by kernel_rfl) (by simp) ?_
  obtain ⟨H, hH⟩ : ∃ y, y = h.push (.cells (sesE x) 52 none) := ⟨_, rfl⟩
  have gH : H.get h.n = .cells (sesE x) 52 none := by rw [hH]; exact get_push_new
  have kH : Keep h H none_ := by rw [hH]; exact Keep.push _ _ _
  have kk := k.keepN kH
  have hg := kk.get
  have cx := ses_cells x
  have ldx : loadGo (some (some 3)) (some (sesE x)) = some (.agg (sesE x)) := rfl
  have dx : dropC (AObj.cells (sesE x) 52 none) 0 = some (sesE x) := rfl
  unfold sesE at hH
  simp only [wpA_region, wpA_seq, wpA_draw, seqQ_normal, goI_out, goI_ops, opsA_nil, opsA_cons, stepA_assign, stepA_box, thenH_some, eval_tmp, eval_const, enterF_zero, enterF_succ, absV_int, absV_bool, aBox_eq, Option.map_some, cx]
  rw [← hH]
  clear hH
  refine SWp.drawnS none_ [] (.q 0 (.q 1 (.q 2 (.q 3 (.q 4 (.c 5 (.q 6 (.q 7 (.q 8 (.q 9 .done)))))))))) (by kernel_rfl) (by kernel_rfl) (by kernel_rfl) ?_
  simp only [siI_q, sqI_some, mOk_none', implies_true, qI_nil, qI_cons, thenQ_some, q_move, q_load, q_nilCheck, q_fieldAddr, goI_mk, nilV_ptr, eval_tmp, put_some, enterF_zero, enterF_succ, aField_eq, fieldGo_ptr, aLoad_eq, loadGo_one, aPlace_ptr, dropC_cells, List.getElem?_cons_zero, List.getElem?_cons_succ, Nat.reduceEqDiff, Nat.reduceAdd, Nat.reduceLeDiff, reduceCtorEq, Nat.zero_add, List.length_cons, List.length_nil, List.drop_zero, List.drop_succ_cons, true_and, if_true, if_false, ft_49_2, lt_47, lt_52, gH, hg, dx, ldx]
  refine siI_c rfl rfl rfl (fun h' hk => pBSF v l x h' (by rcases hk with hk | hk; exact kk.own.keepN hk; subst hk; exact kk.own) k.ss k.ok hx (by have := k.len; omega)) ?_
  simp only [siI_done, siI_q, sqI_some, mOk_none', implies_true, qI_nil, qI_cons, thenQ_some, q_assign, q_extract, wpA_ret, seqQ_normal, endI_mk, goI_out, goI_mk, extV_zero, extV_succ, eval_tmp, put_some, enterF_succ, List.getElem?_cons_zero, List.getElem?_cons_succ, Nat.reduceEqDiff, true_and, if_true, if_false, retA_ret, Try.results23, resultsA_2]
  exact hid_mk ⟨rfl, kH⟩
set_option maxHeartbeats 1000000 in
set_option maxRecDepth 10000 in
theorem sesRemove (h : AHeap) (i : Nat) (v : V) (room g : Int) (l : List Chg) (x : Chg) (hx : okS x) (hh : has3 l x = true) (k : IsSes h i v room g l) :
    SCalls Try.prog 21 [.ptr i 0, .agg (sesE x)] h (fun r h' => ∃ v', IsSes h' i v' room g (rm3 l x) ∧ Keep h h' (sesO i v) ∧ NewOr h v v') := by
  refine SCalls.enterI (c := _) Try.func21 rfl (by kernel_rfl) (by simp) ?_
  obtain ⟨H, hH⟩ : ∃ y, y = h.push (.cells (sesE x) 52 none) := ⟨_, rfl⟩
  have gH : H.get h.n = .cells (sesE x) 52 none := by rw [hH]; exact get_push_new
  have kH : Keep h H none_ := by rw [hH]; exact Keep.push _ _ _
  have nH : H.n = h.n + 1 := by rw [hH]; rfl
  have kk := k.keepN kH
  have hg := kk.get
  have cx := ses_cells x
  have ldx : loadGo (some (some 3)) (some (sesE x)) = some (.agg (sesE x)) := rfl
  have dx : dropC (AObj.cells (sesE x) 52 none) 0 = some (sesE x) := rfl
  have hin := k.lt
  unfold sesE at hH
  simp only [wpA_region, wpA_seq, seqQ_normal, goI_out, goI_ops, opsA_nil, opsA_cons, stepA_move, stepA_box, stepA_load, stepA_call, thenV_some, thenH_some, eval_tmp, put_some, enterF_zero, enterF_succ, aLoad_eq, loadGo_row, aPlace_ptr, dropC_cells, aBox_eq, get_push_new, Nat.reduceEqDiff, Nat.reduceAdd, reduceCtorEq, List.map_cons, List.map_nil, Option.map_some, Nat.zero_add, Nat.zero_le, List.length_cons, List.length_nil, List.drop_zero, List.take_succ_cons, List.take_nil, if_true, if_false, Nat.le_refl, lt_52, cx]
  rw [← hH]
  clear hH
  refine callI_pure cal23 (pFindS H i v room g l x hx kk) ?_
  rcases k.ss.at_pos x with ⟨e1, p, e2, e3, e4⟩ | ⟨e1, e2⟩
  rotate_left
  · rw [hh] at e1; cases e1
  have hlt := (List.getElem?_eq_some_iff.1 e2).1
  have hw := inc64 hlt (by have := k.len; omega)
  simp only [wpA_region, seqQ_normal, goI_out, goI_ops, opsA_nil, opsA_cons, stepA_move, stepA_assign, stepA_load, stepA_nilCheck, stepA_binOp, stepA_fieldAddr, stepA_extract, stepA_call, thenV_some, nilV_ptr, extV_zero, extV_succ, eval_tmp, eval_const, put_some, enterF_zero, enterF_succ, aBin_add, absV_int, aField_eq, fieldGo_ptr, aLoad_eq, loadGo_one, aPlace_ptr, dropC_cells, Nat.reduceEqDiff, Nat.reduceAdd, Nat.reduceLeDiff, reduceCtorEq, List.map_cons, List.map_nil, Nat.zero_add, List.length_cons, List.length_nil, List.drop_zero, List.drop_succ_cons, if_true, if_false, ft_49_2, lt_47, hg, hw]
  refine callI_of cal26 (deleteC v (pos3 l x) (l.flatMap sesE) H kk.own (by rw [k.rows]; have := k.len; omega) (by rw [k.rows]; omega) (rows_one sesE_one l)) fun r h3 ⟨o3, k3, d3⟩ => ?_
  have hrow : (l.flatMap sesE).take (pos3 l x * 3) ++ (l.flatMap sesE).drop ((pos3 l x + 1) * 3) = (rm3 l x).flatMap sesE := by
    rw [rows_take sesE_len, rows_drop sesE_len, k.ss.rm hh]; simp
  rw [hrow] at o3
  have gi3 := (k3.get i (by omega) (fun hh => k.ne hh)).trans hg
  have one_r : r.one = true := by
    rcases o3 with ⟨rfl | rfl, _⟩ | ⟨_, _, _, _, _, rfl, _⟩ <;> rfl
  have cell_r : r.cells = some [r] := by
    rcases o3 with ⟨rfl | rfl, _⟩ | ⟨_, _, _, _, _, rfl, _⟩ <;> rfl
  have hset : setC (some 1) (AObj.cells [V.int .i64 room, V.int .i64 g, v] 49 none) 2 [r] = some (.cells [.int .i64 room, .int .i64 g, r] 49 none) := by rw [setC_one one_r]; rfl
  have n3 := k3.n
  simp only [endI_mk, goI_out, goI_ops, opsA_nil, opsA_cons, stepA_store, stepA_nilCheck, stepA_fieldAddr, thenV_some, thenS_some, nilV_ptr, eval_tmp, put_some, enterF_succ, aField_eq, fieldGo_ptr, aStore_eq, storeGo_ptr, Nat.reduceEqDiff, Option.map_some, Nat.zero_add, if_true, if_false, ft_49_2, zt_47, gi3, cell_r, hset, retA_normal, Try.results21, resultsA_0]
  have hri : idOf r ≠ some i := fun hh => by
    rcases d3 with d3 | d3
    · rw [d3] at hh; exact k.ne hh
    · have := d3 i hh; omega
  have k4 : Keep h3 (h3.set i (.cells [V.int .i64 room, V.int .i64 g, r] 49 none)) (fun q => q = i) := Keep.set _ _ _
  refine hid_mk ⟨r, ⟨by rw [set_n]; omega, get_set_same, o3.keep k4 fun q hq hh => hri (by rw [hq, hh]), hri, k.ss.filter _, fun y hy => k.ok y (List.mem_filter.1 hy).1, ?_, k.g1, k.g2⟩, ?_, ?_⟩
  · have := len_rm3 k.ss hh; have := k.len; omega
  · exact ((kH.up (o := sesO i v)).trans k3 fun q hq hh => .inr hh).trans k4 fun q hq hh => .inl hh
  · rcases d3 with d3 | d3
    · exact .inl d3
    · exact .inr fun q hq => by have := d3 q hq; omega
set_option maxHeartbeats 1000000 in
set_option maxRecDepth 10000 in
theorem sesInsert (h : AHeap) (i : Nat) (v : V) (room g : Int) (l : List Chg) (x : Chg) (hx : okS x) (hh : has3 l x = false) (hlen : l.length < 1024) (k : IsSes h i v room g l) :
    SCalls Try.prog 22 [.ptr i 0, .agg (sesE x)] h (fun r h' => ∃ v', IsSes h' i v' room g (ins3 l x) ∧ Keep h h' (sesO i v) ∧ NewOr h v v') := by
  refine SCalls.enterI (c := _) Try.func22 rfl (by kernel_rfl) (by simp) ?_
  obtain ⟨H, hH⟩ : ∃ y, y = h.push (.cells (sesE x) 52 none) := ⟨_, rfl⟩
  have gH : H.get h.n = .cells (sesE x) 52 none := by rw [hH]; exact get_push_new
  have kH : Keep h H none_ := by rw [hH]; exact Keep.push _ _ _
  have nH : H.n = h.n + 1 := by rw [hH]; rfl
  have kk := k.keepN kH
  have hg := kk.get
  have cx := ses_cells x
  have ldx : loadGo (some (some 3)) (some (sesE x)) = some (.agg (sesE x)) := rfl
  have dx : dropC (AObj.cells (sesE x) 52 none) 0 = some (sesE x) := rfl
  have hin := k.lt
  unfold sesE at hH
  simp only [wpA_region, wpA_seq, seqQ_normal, goI_out, goI_ops, opsA_nil, opsA_cons, stepA_move, stepA_box, stepA_load, stepA_call, thenV_some, thenH_some, eval_tmp, put_some, enterF_zero, enterF_succ, aLoad_eq, loadGo_row, aPlace_ptr, dropC_cells, aBox_eq, get_push_new, Nat.reduceEqDiff, Nat.reduceAdd, reduceCtorEq, List.map_cons, List.map_nil, Option.map_some, Nat.zero_add, Nat.zero_le, List.length_cons, List.length_nil, List.drop_zero, List.take_succ_cons, List.take_nil, if_true, if_false, Nat.le_refl, lt_52, cx]
  rw [← hH]
  clear hH
  refine callI_pure cal23 (pFindS H i v room g l x hx kk) ?_
  simp only [wpA_draw, seqQ_normal, goI_out, goI_ops, opsA_nil, opsA_cons, stepA_move, stepA_assign, stepA_extract, thenV_some, extV_zero, extV_succ, eval_tmp, put_some, enterF_succ, Nat.reduceEqDiff, if_true, if_false]
  have f1 : isId v i = False := eq_false fun hh => k.ne hh
  have f2 : isId v h.n = False := eq_false fun hh => by have := k.own.lt _ hh; omega
  obtain ⟨H2, hH2⟩ : ∃ y, y = H.push (.cells (sesE x) 52 none) := ⟨_, rfl⟩
  have k2 : Keep H H2 none_ := by rw [hH2]; exact Keep.push _ _ _
  have n2 : H2.n = H.n + 1 := by rw [hH2]; rfl
  have q2 : H2.get H.n = .cells (sesE x) 52 none := by rw [hH2]; exact get_push_new
  have kk2 := kk.keepN k2
  have hlit := lit1s H x
  rw [← hH2] at hlit
  refine SWp.drawnS (fun x => isId v x) [7, 8, 11] (.q 0 (.q 1 (.q 2 (.q 3 (.q 4 (.q 5 (.q 6 (.e 7 (.e 8 (.q 9 (.q 10 (.a 11 .done))) .stop) .stop)))))))) (by kernel_rfl) (by kernel_rfl) (by kernel_rfl) ?_
  simp only [mOk_move, mOk_nilCheck, mOk_fieldAddr, mOk_load, mOkV_ptr, nne2, nne3, nne4, nne1', nne2', nne3', not_false_eq_true, siI_stop, siI_q, siI_e, sqI_some, seI_some, implies_true, qI_nil, qI_cons, thenQ_some, q_move, q_load, q_nilCheck, q_fieldAddr, goI_ops, goI_mk, opsA_nil, opsA_cons, stepA_buildSlice, stepA_call, thenH_some, nilV_ptr, eval_tmp, put_some, enterF_zero, enterF_succ, aField_eq, fieldGo_ptr, aLoad_eq, loadGo_one, aPlace_ptr, dropC_cells, List.getElem?_cons_zero, List.getElem?_cons_succ, Nat.reduceEqDiff, Nat.reduceAdd, Nat.reduceLeDiff, reduceCtorEq, List.map_cons, List.map_nil, Nat.zero_add, List.length_cons, List.length_nil, List.drop_zero, List.drop_succ_cons, and_true, true_and, if_true, if_false, ft_49_2, lt_47, lt_52, gH, hg, dx, ldx, f1, f2, hlit]
  refine ⟨k2.up, ?_⟩
  refine callI_of cal27 (insertC v (pos3 l x) H.n (l.flatMap sesE) (sesE x) H2 kk2.own (by rw [k.rows]; have := k.len; omega) (by rw [k.rows]; have := pos3_le l x; omega) q2 (by omega) (fun hh => by have := k.own.lt _ hh; omega) rfl rfl (rows_one sesE_one l)) fun r h3 ⟨o3, k3, d3⟩ => ?_
  have hrow : (l.flatMap sesE).take (pos3 l x * 3) ++ sesE x ++ (l.flatMap sesE).drop (pos3 l x * 3) = (ins3 l x).flatMap sesE := by
    rw [rows_take sesE_len, rows_drop sesE_len, k.ss.ins]; simp
  rw [hrow] at o3
  have gi3 := (k3.get i (by omega) (by rw [f1]; exact id)).trans kk2.get
  have one_r : r.one = true := by
    rcases o3 with ⟨rfl | rfl, _⟩ | ⟨_, _, _, _, _, rfl, _⟩ <;> rfl
  have cell_r : r.cells = some [r] := by
    rcases o3 with ⟨rfl | rfl, _⟩ | ⟨_, _, _, _, _, rfl, _⟩ <;> rfl
  have hset : setC (some 1) (AObj.cells [V.int .i64 room, V.int .i64 g, v] 49 none) 2 [r] = some (.cells [.int .i64 room, .int .i64 g, r] 49 none) := by rw [setC_one one_r]; rfl
  have kH3 : Keep H h3 (fun x => isId v x) := (k2.up).trans' k3
  have n3 := k3.n
  simp only [mOk_nilCheck, mOk_fieldAddr, nne2, nne3, nne4, nne1', nne2', nne3', siI_done, siI_q, siI_a, sqI_some, saI_some, implies_true, qI_nil, qI_cons, thenQ_some, q_nilCheck, q_fieldAddr, endI_mk, goI_out, goI_ops, goI_mk, opsA_nil, opsA_cons, stepA_store, thenS_some, nilV_ptr, eval_tmp, put_some, enterF_succ, aField_eq, fieldGo_ptr, aStore_eq, storeGo_ptr, List.getElem?_cons_zero, List.getElem?_cons_succ, Bool.false_eq_true, Nat.reduceEqDiff, Option.map_some, Nat.zero_add, true_and, if_true, if_false, ft_49_2, zt_47, gi3, cell_r, hset, kH3, retA_normal, Try.results22, resultsA_0]
  have hri : idOf r ≠ some i := fun hh => by
    rcases d3 with d3 | d3
    · rw [d3] at hh; exact k.ne hh
    · have := d3 i hh; omega
  have k4 : Keep h3 (h3.set i (.cells [V.int .i64 room, V.int .i64 g, r] 49 none)) (fun q => q = i) := Keep.set _ _ _
  refine hid_mk ⟨r, ⟨by rw [set_n]; omega, get_set_same, o3.keep k4 fun q hq hh => hri (by rw [hq, hh]), hri, k.ss.insS hh, fun y hy => ?_, ?_, k.g1, k.g2⟩, ?_, ?_⟩
  · rcases mem_ins3.1 hy with rfl | hy
    · exact hx
    · exact k.ok y hy
  · rw [k.ss.len_ins]; omega
  · exact ((kH.up (o := sesO i v)).trans kH3 fun q hq hh => .inr hh).trans k4 fun q hq hh => .inl hh
  · rcases d3 with d3 | d3
    · exact .inl d3
    · exact .inr fun q hq => by have := d3 q hq; omega
end Go.Proofs.Ytjphnabogfiahaa.Pk
