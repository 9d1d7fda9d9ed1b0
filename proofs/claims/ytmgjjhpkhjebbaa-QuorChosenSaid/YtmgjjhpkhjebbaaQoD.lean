/-
  What functions of the program do, told of abstract states. Conditions: as each theorem says.
-/
import Derived.Test.YtmgjjhpkhjebbaaQoC
namespace Go.Proofs.Ytmgjjhpkhjebbaa.Pk
open Go Go.Proofs Go.Proofs.Ytmgjjhpkhjebbaa.Ab Go.Sort
set_option linter.unusedVariables false
set_option linter.unusedSimpArgs false
theorem key_injK {κ α : Type} [DecidableEq κ] : ∀ {q : List (Nat × κ × α)}, KNodup q → ∀ {x y}, x ∈ q → y ∈ q → x.2.1 = y.2.1 → x = y
  | [], _, x, y, hx, _, _ => by cases hx
  | z :: q, hq, x, y, hx, hy, e => by
    have hq' := List.nodup_cons.1 hq
    rcases List.mem_cons.1 hx with h1 | h1
    · rcases List.mem_cons.1 hy with h2 | h2
      · rw [h1, h2]
      · exact absurd (List.mem_map.2 ⟨y, h2, by rw [← e, h1]⟩) hq'.1
    · rcases List.mem_cons.1 hy with h2 | h2
      · exact absurd (List.mem_map.2 ⟨x, h1, by rw [e, h2]⟩) hq'.1
      · exact key_injK hq'.2 h1 h2 e
def rowE (l : List Cel) : List V := [.imm l.length (l.flatMap celE)]
theorem rowE_len (l : List Cel) : (rowE l).length = 1 := rfl
theorem rws_ix {rows : List (List Cel)} {k : Nat} (hk : k < rows.length) {kk : IntKind} : aIndexAddr Try.prog 37 (.imm rows.length (rows.flatMap rowE)) (.int kk (k : Int)) = some (.at (rowE rows[k] ++ (rows.drop (k + 1)).flatMap rowE)) := rows_ix (enc := rowE) (sz := 1) rowE_len hk ss_37
theorem row_ld (l : List Cel) (r : List V) : loadGo (some none) (some (rowE l ++ r)) = some (.imm l.length (l.flatMap celE)) := rfl
def smallC (cs : List Cel) : Prop := cs.length ≤ 2 ^ 30 ∧ ∀ c ∈ cs, c.by_.length ≤ 140737488355328
theorem sortAt (h : AHeap) (x : V) (l : List Cel) (ho : Own h 36 3 x (l.flatMap celE)) (hl : l.length ≤ 2 ^ 40) :
    SCalls Try.prog 35 [x, .func (.func 36) [] []] h fun r h' => r = .tuple [] ∧ Keep h h' (isId x) ∧ ∃ l' : List Cel, l'.Perm l ∧ (l'.Pairwise fun a b => ¬ b.at_ < a.at_) ∧ Own h' 36 3 x (l'.flatMap celE) := by
  have e : ∀ a b : Cel, ltOf (fun a b : Cel => cmpI a.at_ b.at_) a b = decide (a.at_ < b.at_) := fun a b => by
    unfold ltOf cmpI
    rw [Bool.eq_iff_iff]
    simp only [decide_eq_true_eq]
    split <;> (try split) <;> omega
  refine (sortOfE (cf := fun a b => cmpI a.at_ b.at_) ⟨fun a => by rw [e]; simp, fun a b c h1 h2 => by rw [e] at *; simp at *; omega, fun a b c h1 h2 => by rw [e] at *; simp at *; omega⟩
    (fun a b => (byAt a b noHeap).mono fun r h' hh => hh.1) (enters_of Try.func36 (by kernel_rfl) rfl) h x l ho hl).mono fun r h' ⟨h1, h2, l', hp, hs, ho⟩ => ⟨h1, h2, l', hp, hs.imp fun {a b} hab => by rw [e] at hab; simpa using hab, ho⟩
/-- best of an own slice. -/
theorem bestOwn {h : AHeap} {v : V} {l : List Cel} (o : Own h 36 3 v (l.flatMap celE)) (hl : l.length ≤ 2 ^ 40) :
    SCalls Try.prog 32 [v, .func (.func 33) [] []] h fun r h' => r = .tuple [.agg (celE ((bestOf l).getD cel0)), .bool (decide (0 < l.length))] ∧ Keep h h' (isId v) := by
  obtain ⟨h2, c, k⟩ := Cast.own o (n := l.length) (rows_len celE_len l) (by decide)
  exact (SCalls.args (CastL.cons c (CastL.refl _ _)) (pBest l hl h2)).mono fun r h' ⟨e, e2⟩ => ⟨e, e2 ▸ k⟩
set_option maxHeartbeats 4000000 in
set_option maxRecDepth 20000 in
theorem merge (rows : List (List Cel)) (hs : smallC rows.flatten) (hr : rows.length ≤ 2 ^ 30) (h : AHeap) : SCalls Try.prog 17 [.imm rows.length (rows.flatMap rowE)] h (fun r h' => ∃ out, IsMerge rows.flatten out ∧ Acc h h' 36 3 r (out.flatMap celE)) := by
  refine SCalls.enterI (c := _) Try.func17 rfl (by kernel_rfl) (by simp) ?_
  simp only [wpA_region, wpA_seq, wpA_block, wpA_loop, seqQ_normal, goI_out, goI_ops, opsA_nil, opsA_cons, stepA_move, stepA_assign, stepA_makeMap, stepA_len, thenV_some, thenH_some, eval_tmp, eval_const, put_some, enterF_zero, enterF_succ, absV_int, absV_snil, aLen_imm, makeMap_nil, Nat.reduceEqDiff, reduceCtorEq, Option.map_none, if_true, if_false, kt_37]
  refine SWp.loopG (α := Nat × EntQ × Nat) (fun x f h' => f 3 = .map h.n ∧ f 14 = .imm rows.length (rows.flatMap rowE) ∧ f 15 = .int .i64 (rows.length : Nat) ∧ f 16 = .int .i64 (x.1 : Nat) ∧ x.1 ≤ rows.length ∧ Bag h h' h.n (rows.take x.1).flatten x.2.1 x.2.2) (fun x => rows.length - x.1) (0, [], 0)
    ⟨rfl, rfl, rfl, rfl, Nat.zero_le _, Bag.start (Keep.refl _ _)⟩ ?_
  rintro ⟨i, m, cl⟩ f h1 ⟨f3, f14, f15, f16, hi, w⟩
  simp only at f16 hi w
  refine wpI_sound (by kernel_rfl) ?_
  by_cases hlt : i < rows.length
  · have d1 : decide ((i : Int) < ((rows.length : Nat) : Int)) = true := decide_eq_true (by omega)
    have hw : IntKind.i64.wrap ((i : Int) + 1) = ((i + 1 : Nat) : Int) := by rw [Go.IntWalk.i64_in _ (by omega)]; omega
    have x1 := rws_ix (kk := .i64) hlt
    have ht : (rows.take (i + 1)).flatten = (rows.take i).flatten ++ rows[i] := by rw [List.take_succ_eq_append_getElem hlt, List.flatten_append]; simp
    have hsub : ∀ c ∈ rows[i], c ∈ rows.flatten := fun c hc => List.mem_flatten.2 ⟨_, List.getElem_mem _, hc⟩
    have hlen : (rows.take i).flatten.length + rows[i].length ≤ 2 ^ 30 := by
      have : (rows.take (i + 1)).flatten.length ≤ rows.flatten.length := by
        conv => rhs; rw [← List.take_append_drop (i + 1) rows, List.flatten_append, List.length_append]
        omega
      rw [ht, List.length_append] at this
      have := hs.1
      omega
    generalize rows[i] = l at x1 ht hsub hlen
    generalize (rows.take i).flatten = cs at w ht hlen
    have ld := row_ld
    simp only [wpA_skip, wpA_region, wpA_seq, wpA_cond, wpA_block, wpA_loop, condI_true, seqQ_normal, goI_out, goI_ops, opsA_nil, opsA_cons, stepA_move, stepA_assign, stepA_load, stepA_binOp, stepA_indexAddr, stepA_len, thenV_some, eval_tmp, eval_const, put_some, aBin_lss, absV_int, aLoad_eq, aPlace_at, aLen_imm, Nat.reduceEqDiff, if_true, if_false, kt_39, lt_39, f14, f15, f16, d1, x1, ld]
    refine SWp.loopG (α := Nat × EntQ × Nat) (fun x f h' => f 3 = .map h.n ∧ f 14 = .imm rows.length (rows.flatMap rowE) ∧ f 15 = .int .i64 (rows.length : Nat) ∧ f 16 = .int .i64 (i : Nat) ∧ f 20 = .imm l.length (l.flatMap celE) ∧ f 21 = .int .i64 (l.length : Nat) ∧ f 22 = .int .i64 (x.1 : Nat) ∧ x.1 ≤ l.length ∧ Bag h h' h.n (cs ++ l.take x.1) x.2.1 x.2.2) (fun x => l.length - x.1) (0, m, cl)
      ⟨f3, f14, f15, f16, rfl, rfl, rfl, Nat.zero_le _, by rw [List.take_zero, List.append_nil]; exact w⟩ ?_
    clear f3 f14 f15 f16 w
    rintro ⟨j, m, cl⟩ f h1 ⟨f3, f14, f15, f16, f20, f21, f22, hj, w⟩
    simp only at f22 hj w
    refine wpI_sound (by kernel_rfl) ?_
    by_cases hlj : j < l.length
    · have d2 : decide ((j : Int) < ((l.length : Nat) : Int)) = true := decide_eq_true (by omega)
      have hw2 : IntKind.i64.wrap ((j : Int) + 1) = ((j + 1 : Nat) : Int) := by rw [Go.IntWalk.i64_in _ (by omega)]; omega
      have x2 := cel_ix (l := l) (kk := .i64) hlj
      have ht2 : cs ++ l.take (j + 1) = cs ++ l.take j ++ [l[j]] := by rw [List.take_succ_eq_append_getElem hlj, List.append_assoc]
      have hlen2 : (cs ++ l.take j).length ≤ 2 ^ 30 := by rw [List.length_append, List.length_take]; omega
      generalize l[j] = c at x2 ht2
      generalize cs ++ l.take j = cs2 at w hlen2 ht2
      have cc := cel_cells
      have st := cel_store
      have ldc := cel_ldc
      have ld0 := cel_ld0'
      have ldl := cel_ld
      have wP := w.on (Keep.push h1 (.cells (celE c) 36 none) none_)
      have gP : (h1.push (.cells (celE c) 36 none)).get h1.n = .cells (celE c) 36 none := get_push_new
      simp only [wpA_skip, wpA_region, wpA_seq, wpA_cond, wpA_block, wpA_draw, condI_true, seqQ_normal, goI_out, goI_ops, opsA_nil, opsA_cons, stepA_alloc, stepA_load, stepA_store, stepA_binOp, stepA_indexAddr, thenV_some, thenH_some, thenS_some, eval_tmp, put_some, aBin_lss, aLoad_eq, loadGo_row, aPlace_at, aStore_eq, storeGo_ptr, aAlloc_eq, get_push_new, set_push, Nat.reduceEqDiff, Option.map_some, if_true, if_false, lt_36, zc_36, zt_36, f20, f21, f22, d2, x2, ldl, cc, st]
      obtain ⟨o0, e0, i0⟩ := w.cur_own c.at_
      have hcur : (cur m c.at_).2.length ≤ 2 ^ 30 := by
        rw [e0]; unfold atOf
        exact Nat.le_trans (List.length_filter_le _ _) hlen2
      obtain ⟨o1, _, _⟩ := wP.cur_own c.at_
      have hlk := lookQ m c.at_ wP.get
      have m1 : ¬ idOf (cur m c.at_).1 = some h.n := fun e => (i0 _ e).2 rfl
      have m2 : ¬ idOf (cur m c.at_).1 = some h1.n := fun e => by have := o0.lt _ e; omega
      generalize hQ : h1.push (.cells (celE c) 36 none) = hP at wP gP hlk o1 ⊢
      obtain ⟨v, h2, ea, o2, kp2, nw2⟩ := append_elemM (P := Try.prog) sl_39 (by decide) o1 (xs := celE c) rfl rfl (fun m hm => by
        change m * 3 = _ + 3 at hm
        rw [rows_len celE_len] at hm
        exact ⟨by simp only [lim]; omega, by simp only [lim]; omega⟩)
      have lit := lit1q hP c
      refine SWp.drawnS (fun x => idOf (cur m c.at_).1 = some x) [8, 9, 10] (.q 0 (.q 1 (.q 2 (.q 3 (.q 4 (.q 5 (.q 6 (.q 7 (.e 8 (.e 9 (.a 10 .done) .stop) .stop))))))))) (by kernel_rfl) (by kernel_rfl) (by kernel_rfl) ?_
      simp only [mOk_lookup, mOk_move, mOk_fieldAddr, mOk_load, mOkV_ptr, mOkV_map, nne2, nne3, nne4, nne1', nne2', nne3', not_false_eq_true, siI_stop, siI_q, siI_a, siI_e, sqI_some, saI_some, seI_some, keepT1, implies_true, qI_nil, qI_cons, thenQ_some, q_move, q_load, q_fieldAddr, q_lookup, goI_ops, goI_mk, opsA_nil, opsA_cons, stepA_buildSlice, stepA_mapUpdate, stepA_append, thenH_some, eval_tmp, put_some, put_none, aField_eq, fieldGo_ptr, aLoad_eq, loadGo_row, aPlace_ptr, dropC_cells, List.getElem?_cons_zero, List.getElem?_cons_succ, Nat.reduceEqDiff, List.map_cons, List.map_nil, Nat.add_zero, Nat.zero_le, List.drop_zero, and_true, true_and, if_true, if_false, ft_36_0, lt_3, lt_36, f3, gP, ld0, ldc, hlk, lit, ea, m1, m2]
      refine ⟨kp2, ?_⟩
      have gm2 : h2.get h.n = .map (qE m) cl := (kp2.get h.n wP.lt (fun hh => m1 hh)).trans wP.get
      have hu := updQ m c.at_ v ((cur m c.at_).2 ++ [c]) gm2
      have wA := wP.add c kp2 (by rw [List.flatMap_append]; simpa using o2) nw2
      simp only [nne2, nne3, nne4, nne1', nne2', nne3', siI_done, wpA_region, seqQ_normal, blkQ_normal, endI_mk, andThen_normal, goI_out, goI_ops, goI_mk, opsA_nil, opsA_cons, stepA_move, stepA_binOp, thenV_some, thenS_some, eval_tmp, eval_const, put_some, put_none, aBin_add, absV_int, Nat.reduceEqDiff, if_true, if_false, hu, f22, hw2]
      exact hid_mk ⟨(j + 1, kset cl m c.at_ (v, (cur m c.at_).2 ++ [c]), kclk cl m c.at_), ⟨f3, f14, f15, f16, f20, f21, rfl, hlj, by rw [ht2]; exact wA⟩, by simp only; omega⟩
    · have d2 : decide ((j : Int) < ((l.length : Nat) : Int)) = false := decide_eq_false (by omega)
      rw [List.take_of_length_le (by omega), ← ht] at w
      simp only [wpA_region, wpA_seq, wpA_cond, wpA_exit, condI_false, seqQ_normal, seqQ_exit, blkQ_normal, blkQ_exit, endI_mk, goE, andThen_normal, andThen_exit, goI_out, goI_ops, opsA_nil, opsA_cons, stepA_move, stepA_assign, stepA_binOp, stepA_range, thenV_some, eval_tmp, eval_const, put_some, aBin_add, aBin_lss, absV_int, absV_snil, Nat.reduceEqDiff, reduceCtorEq, if_true, if_false, f16, f21, f22, d2, hw]
      exact hid_mk ⟨(i + 1, m, cl), ⟨f3, f14, f15, rfl, hlt, w⟩, by simp only; omega⟩
  · have d1 : decide ((i : Int) < ((rows.length : Nat) : Int)) = false := decide_eq_false (by omega)
    rw [List.take_of_length_le (by omega)] at w
    obtain ⟨q, hq⟩ : ∃ q, mapT Try.prog 64 = some q := by
      obtain ⟨et, hm, _⟩ := mpq
      exact ⟨_, hm⟩
    have hrg := range_map hq w.get
    have hsn : (m.map (·.1)).Nodup := by
      have := w.st.2
      rwa [show (qE m).map (·.1) = m.map (·.1) from mapK_stamps m] at this
    have hml : m.length ≤ 2 ^ 30 := Nat.le_trans w.len hs.1
    have hcell : ∀ e ∈ m, ∀ c ∈ e.2.2.2, c.by_.length ≤ 140737488355328 := fun e he c hc => by
      rw [(w.has e.2.1 e.2.2 (kmem w.nd he)).1] at hc
      exact hs.2 c (atOf_mem.1 hc).1
    have hlens : ∀ e ∈ m, e.2.2.2.length ≤ 2 ^ 30 := fun e he => by
      rw [(w.has e.2.1 e.2.2 (kmem w.nd he)).1]
      unfold atOf
      exact Nat.le_trans (List.length_filter_le _ _) hs.1
    have hlt1 := w.lt
    simp only [wpA_region, wpA_seq, wpA_cond, wpA_block, wpA_exit, wpA_loop, condI_false, seqQ_normal, seqQ_exit, blkQ_exit, endI_mk, goE, andThen_exit, goI_out, goI_ops, opsA_nil, opsA_cons, stepA_move, stepA_assign, stepA_binOp, stepA_range, thenV_some, thenH_some, eval_tmp, eval_const, put_some, aBin_lss, absV_snil, Nat.reduceEqDiff, if_true, if_false, f3, f15, f16, d1, hrg]
    refine SWp.loopG (α := EntQ) (fun vis f h' => f 39 = .ptr h1.n 0 ∧ h1.n < h'.n ∧ h'.get h1.n = .iter h.n cl (vis.map (·.1)) cl ∧ h'.get h.n = .map (qE m) cl ∧ Acc h h' 36 3 (f 8) ((vis.map fun e => (bestOf e.2.2.2).getD cel0).flatMap celE) ∧
      idOf (f 8) ≠ some h1.n ∧ idOf (f 8) ≠ some h.n ∧ (∀ e ∈ vis, e ∈ m) ∧ (vis.map (·.1)).Nodup ∧ (∀ e ∈ m, e.1 ∉ vis.map (·.1) → Own h' 36 3 e.2.2.1 (e.2.2.2.flatMap celE) ∧ ∀ i, idOf e.2.2.1 = some i → idOf (f 8) ≠ some i)) (fun vis => (remOf (qE m) (vis.map (·.1))).length) []
      ⟨rfl, by simp only [push_n]; omega, get_push_new, (get_push_lt w.lt).trans w.get, Acc.nil (w.keep.then_push _), (show idOf V.snil ≠ some h1.n by simp [idOf]), (show idOf V.snil ≠ some h.n by simp [idOf]), by simp, by simp,
        fun e he _ => ⟨((w.own e.2.1 e.2.2 (kmem w.nd he)).1).keepN (Keep.push _ _ _), fun i _ => (show idOf V.snil ≠ some i by simp [idOf])⟩⟩ ?_
    rintro vis f h2 ⟨f39, n2, gi, gm, acc, hd1, hd2, hvl, hvn, hown⟩
    refine wpI_sound (by kernel_rfl) ?_
    simp only [wpA_region, wpA_seq, opsA_cons, stepA_next, eval_tmp, f39]
    refine alts_ro gi gm w.st (fun hleft => ?_) fun e he => ?_
    · have hp := kvis_perm hsn hvn hvl (kvis_all hleft)
      have hpl := hp.length_eq
      simp only [wpA_region, wpA_seq, wpA_cond, wpA_exit, condI_false, seqQ_normal, seqQ_exit, blkQ_exit, endI_mk, goE, andThen_exit, goI_out, goI_ops, opsA_nil, opsA_cons, stepA_move, stepA_extract, stepA_call, thenV_some, extV_zero, eval_tmp, eval_func, put_some, Nat.reduceEqDiff, List.map_cons, List.map_nil, if_true, if_false]
      refine callI_of cal35 (sortAt h2 (f 8) _ acc.own (by rw [List.length_map]; omega)) fun r h3 ⟨e1, k3, out, pl, sl, o2⟩ => ?_
      subst e1
      simp only [wpA_region, wpA_seq, wpA_ret, seqQ_normal, endI_mk, goI_out, goI_ops, opsA_nil, opsA_cons, stepA_move, stepA_assign, eval_tmp, put_some, Nat.reduceEqDiff, if_true, if_false, retA_ret, Try.results17, resultsA_1]
      exact hid_mk ⟨out, bag_told w.nd w.has w.non hp pl sl, o2, acc.keep.trans k3 fun q hq e => by have := acc.new q e; omega, acc.new⟩
    · obtain ⟨x, hx, rfl, hxn⟩ := kvis_next he
      have less := remOf_snoc he
      obtain ⟨n3, hvl2, hvlen⟩ := kvis_snoc hvn hvl hx hxn
      obtain ⟨ownx, idx⟩ := hown x hx hxn
      obtain ⟨hx1, hx2⟩ := w.has x.2.1 x.2.2 (kmem w.nd hx)
      have hlx := hlens x hx
      have hcx := hcell x hx
      have hap : ∀ e ∈ m, e.1 ∉ (vis ++ [x]).map (·.1) → ∀ i, idOf e.2.2.1 = some i → idOf x.2.2.1 ≠ some i := fun e he hn i hi => by
        refine w.apart e.2.1 x.2.1 e.2.2 x.2.2 i (kmem w.nd he) (kmem w.nd hx) (fun hk => ?_) hi
        have h1 := kmem w.nd he
        have : e = x := key_injK w.nd he hx hk
        subst this
        exact hn (by simp)
      obtain ⟨xs, xk, xv, xl⟩ := x
      simp only at less he hxn ownx idx hx1 hx2 hlx hcx hap
      generalize hH : h2.set h1.n (.iter h.n cl (vis.map (·.1) ++ [xs]) cl) = H
      have hge : h.n ≤ h1.n := by omega
      have kSet : Keep h2 H (fun q => q = h1.n) := by rw [← hH]; exact Keep.set _ _ _
      have idn : ∀ i, idOf xv = some i → i ≠ h1.n ∧ i ≠ h.n := fun i hi => by
        have h5 := (w.own xk (xv, xl) (kmem w.nd hx)).1.lt i hi
        have h6 := (w.own xk (xv, xl) (kmem w.nd hx)).2 i hi
        omega
      have aS : Acc h H 36 3 (f 8) ((vis.map fun e => (bestOf e.2.2.2).getD cel0).flatMap celE) := by rw [← hH]; exact acc.set hge hd1 _
      have nH : H.n = h2.n := by rw [← hH]; rfl
      have gr : H.get h1.n = .iter h.n cl (vis.map (·.1) ++ [xs]) cl := by rw [← hH]; exact get_set_same
      have gmH : H.get h.n = .map (qE m) cl := by rw [← hH]; exact (get_set_ne (by omega)).trans gm
      have hen := entry_ro gr gmH w.st (List.mem_filter.1 he).1
      simp only at hen
      have ownH := ownx.keep kSet fun i hi e => (idn i hi).1 e
      simp only [wpA_skip, wpA_region, wpA_seq, wpA_cond, wpA_block, condI_true, seqQ_normal, goI_out, goI_ops, opsA_nil, opsA_cons, stepA_move, stepA_assign, stepA_entry, stepA_extract, stepA_call, thenV_some, extV_zero, extV_succ, eval_tmp, eval_func, put_some, Nat.reduceEqDiff, List.map_cons, List.map_nil, if_true, if_false, f39, hen]
      refine callI_of cal32 (bestOwn ownH (by omega)) fun r h3 ⟨er, k3⟩ => ?_
      subst er
      obtain ⟨b, hb⟩ := bestOf_ne hx2
      have hbl : b.by_.length ≤ 140737488355328 := hcx b (bestOf_mem hb)
      have hbg : (bestOf xl).getD cel0 = b := by rw [hb]; rfl
      rw [hbg]
      have cc := cel_cells
      have st := cel_store
      have ldc := cel_ldc
      have keepId : ∀ q, isId xv q → q ≠ h1.n ∧ q ≠ h.n := fun q hq => idn q hq
      have a3 : Acc h h3 36 3 (f 8) ((vis.map fun e => (bestOf e.2.2.2).getD cel0).flatMap celE) :=
        ⟨aS.own.keep k3 fun i hi e => idx i e hi, aS.keep.trans k3 fun q hq e => by have := (w.own xk (xv, xl) (kmem w.nd hx)).2 q e; omega, aS.new⟩
      have n3' := k3.n
      have aP := a3.on (Keep.push h3 (.cells (celE b) 36 none) none_)
      have g3 := (k3.get h1.n (by omega) (fun hh => (idn _ hh).1 rfl)).trans gr
      have g3m := (k3.get h.n (by omega) (fun hh => (idn _ hh).2 rfl)).trans gmH
      have gP : (h3.push (.cells (celE b) 36 none)).get h1.n = .iter h.n cl (vis.map (·.1) ++ [xs]) cl := (get_push_lt (by omega)).trans g3
      have gPm : (h3.push (.cells (celE b) 36 none)).get h.n = .map (qE m) cl := (get_push_lt (by omega)).trans g3m
      have gB : (h3.push (.cells (celE b) 36 none)).get h3.n = .cells (celE b) 36 none := get_push_new
      have nP : (h3.push (.cells (celE b) 36 none)).n = h3.n + 1 := rfl
      have kP : Keep H (h3.push (.cells (celE b) 36 none)) (isId xv) := k3.then_push _
      simp only [wpA_region, seqQ_normal, goI_out, goI_ops, opsA_nil, opsA_cons, stepA_move, stepA_assign, stepA_alloc, stepA_load, stepA_store, stepA_extract, stepA_call, thenV_some, thenH_some, thenS_some, extV_zero, extV_succ, eval_tmp, put_some, put_none, aLoad_eq, loadGo_row, aPlace_ptr, dropC_cells, aStore_eq, storeGo_ptr, aAlloc_eq, get_push_new, set_push, Nat.reduceEqDiff, List.map_cons, List.map_nil, Option.map_some, Nat.zero_le, List.drop_zero, if_true, if_false, lt_36, zc_36, zt_36, cc, st, ldc]
      generalize h3.push (.cells (celE b) 36 none) = hP at aP gP gPm gB nP kP ⊢
      refine callI_pure cal34 (pOwn b hbl hP) ?_
      have lit := lit1q hP b
      obtain ⟨s', h4, ea, o4, kp4, d4⟩ := append_elemM (P := Try.prog) sl_39 (by decide) aP.own (xs := celE b) rfl rfl (fun m hm => by
        change m * 3 = _ + 3 at hm
        rw [rows_len celE_len, List.length_map] at hm
        exact ⟨by simp only [lim]; omega, by simp only [lim]; omega⟩)
      have a4 := aP.step o4 kp4 d4
      have n4' := kp4.n
      have hne : ∀ k, k < hP.n → idOf (f 8) ≠ some k → idOf s' ≠ some k := fun k hk hh e => by
        rcases d4 with d | d
        · exact hh (d ▸ e)
        · have := d _ e; omega
      simp only [blkQ_normal, endI_mk, andThen_normal, goI_out, goI_ops, opsA_nil, opsA_cons, stepA_assign, stepA_buildSlice, stepA_append, thenH_some, eval_tmp, put_some, put_none, Nat.reduceEqDiff, List.map_cons, List.map_nil, if_true, if_false, lit, ea]
      refine hid_mk ⟨vis ++ [(xs, xk, xv, xl)], ⟨f39, by omega, ?_, (kp4.get h.n (by omega) (fun hh => hd2 hh)).trans gPm, ?_, hne h1.n (by omega) hd1, hne h.n (by omega) hd2, hvl2, n3, fun e hem hen2 => ?_⟩, ?_⟩
      · rw [kp4.get h1.n (by omega) (fun hh => hd1 hh), gP]; simp
      · refine a4.conv ?_
        rw [List.map_append, List.flatMap_append, List.map_cons, List.map_nil, hbg]
        simp
      · obtain ⟨oe, ie⟩ := hown e hem (fun hh => hen2 (by rw [List.map_append]; exact List.mem_append_left _ hh))
        have lte : ∀ i, idOf e.2.2.1 = some i → i < h1.n ∧ i ≠ h.n := fun i hi => by
          have h5 := (w.own e.2.1 e.2.2 (kmem w.nd hem)).1.lt i hi
          have h6 := (w.own e.2.1 e.2.2 (kmem w.nd hem)).2 i hi
          omega
        refine ⟨((oe.keep kSet fun i hi e2 => by have := (lte i hi).1; omega).keep kP fun i hi e2 => hap e hem hen2 i hi e2).keep kp4 fun i hi e2 => ie i hi e2, fun i hi => hne i (by have := (lte i hi).1; omega) (ie i hi)⟩
      · rw [List.map_append]; exact less
end Go.Proofs.Ytmgjjhpkhjebbaa.Pk
