/-
  What functions of the program do, told of abstract states. Conditions: as each theorem says.
-/
import Derived.Test.YtcdpepdjeneelaaDoorVsH
namespace Go.Proofs.YtcdpepdjeneelaaDoor.Pk
open Go Go.Proofs Go.Proofs.YtcdpepdjeneelaaDoor.Ab Go.Proofs.Vw
set_option linter.unusedVariables false
set_option linter.unusedSimpArgs false
theorem putB_snoc (logs : Int → List LR) (l : List (Ent × Nat)) (p : Ent × Nat) : putB logs (l ++ [p]) = addS (putB logs l) p.1 := by unfold putB; rw [List.foldl_append]; rfl
theorem putB_len (n : Int) : ∀ (l : List (Ent × Nat)) (logs : Int → List LR) (N : Nat), (logs n).length ≤ N → (putB logs l n).length ≤ N + l.length
  | [], logs, N, h => h
  | p :: l, logs, N, h => by
    have h1 : (addS logs p.1 n).length ≤ N + 1 := by
      unfold addS
      split
      · rename_i hh; subst hh; simp; omega
      · omega
    have := putB_len n l (addS logs p.1) (N + 1) h1
    show (putB (addS logs p.1) l n).length ≤ _
    rw [List.length_cons]
    omega
theorem appO {h : AHeap} {s : V} {l : List Int} (o : Own h 3 1 s (i64V l)) (r : List Int) (hl : l.length ≤ 2 ^ 40) (hr : r.length ≤ 2 ^ 40) :
    ∃ s' h', aAppend Tryd.prog 39 39 s (.imm r.length (i64V r)) h = some (s', h') ∧ Own h' 3 1 s' (i64V (l ++ r)) ∧ Keep h h' (isId s) ∧ NewOr h s s' := by
  obtain ⟨s', h', ea, oa, ka, na⟩ := append_ownM (P := Tryd.prog) (t := 39) (tx := 39) sl_39 (by decide) o (imm_src kt_39 (by rw [i64V_length, Nat.mul_one]) (i64V_one r)) (by rw [i64V_length]; exact (Nat.mul_one _).symm) (fun m hm => by
    change m * 1 = _ at hm
    rw [i64V_length, i64V_length] at hm
    exact ⟨by simp only [lim]; omega, by simp only [lim]; omega⟩)
  exact ⟨s', h', ea, by rw [i64V_append]; exact oa, ka, na⟩
set_option maxHeartbeats 4000000 in
set_option maxRecDepth 10000 in
theorem pCommit {h0 h : AHeap} {lm tm lc tc : Nat} {logs : Int → List LR} {tasks : Int → Option Jb} {L T : PM} {ow : Ow} (x : Ent) (at_ : Nat) (w : VS h0 h lm tm logs tasks L lc T tc ow) {t : Int} {b : Nat} {j : Jb} (hb : kget T t = some b) (hj : tasks t = some j) (hop : j.opn.length ≤ 2 ^ 30) (hlg : ∀ n, (logs n).length ≤ 2 ^ 30) (htx : -2 ^ 62 ≤ j.tx ∧ j.tx < 2 ^ 62) (hk3 : x.kind = 3) (ho8 : x.offs.length ≤ 8) (ho2 : x.order.length ≤ 2 ^ 30) (hord : j.ord.length ≤ 2 ^ 40) (he : x.epoch = j.ep) (hx : x.txn = j.tx) :
    SCalls Tryd.prog 40 [.agg [.map lm, .map tm], .ptr b 0, .agg (entE x), .int .i64 (at_ : Nat)] h (fun r h' => r = .tuple [] ∧ ∃ L' lc' ow', VS h0 h' lm tm (stepL logs j x) (fun n => if n = t then some (stepB j x at_) else tasks n) L' lc' T tc ow' ∧ Keep h h' (fun q => q = lm ∨ ∃ tg, ow q = some tg) ∧ (∀ q tg, ow' q = some tg → ow q = some tg ∨ h.n ≤ q)) := by
  refine SCalls.enterI (c := _) Tryd.func40 rfl (by kernel_rfl) (by simp) ?_
  obtain ⟨H0, hH0⟩ : ∃ y, y = h.push (.cells [.map lm, .map tm] 58 none) := ⟨_, rfl⟩
  have kH0 : Keep h H0 none_ := by rw [hH0]; exact Keep.push _ _ _
  have nH0 : H0.n = h.n + 1 := by rw [hH0]; rfl
  have gS0 : H0.get h.n = .cells [.map lm, .map tm] 58 none := by rw [hH0]; exact get_push_new
  obtain ⟨H, hH⟩ : ∃ y, y = H0.push (.cells (entE x) 47 none) := ⟨_, rfl⟩
  have kH1 : Keep H0 H none_ := by rw [hH]; exact Keep.push _ _ _
  have kH := kH0.trans' kH1
  have gE : H.get (h.n + 1) = .cells (entE x) 47 none := by rw [← nH0, hH]; exact get_push_new
  have gS := (kH1.get h.n (by omega) (by simp [none_])).trans gS0
  have nH : H.n = h.n + 2 := by rw [hH, push_n]; omega
  have wH := w.on kH
  have hc : (V.agg [.map lm, .map tm]).cells = some [.map lm, .map tm] := rfl
  have hce : (V.agg (entE x)).cells = some (entE x) := rfl
  obtain ⟨j2, h1, fv, ov, pv, g, hf, o1, o2, t0, t1, t2⟩ := wH.job t b hb
  rw [hj] at h1
  injection h1 with h1
  subst h1
  have c1 : (x.epoch != j.ep) = false := by simpa using he
  have c2 : (x.txn != j.tx) = false := by simpa using hx
  have c3 : (x.kind == 2) = false := by rw [hk3]; rfl
  have c4 : (x.kind == 3) = true := by rw [hk3]; rfl
  have hlp : aLen Tryd.prog 69 pv H = some (.int .i64 (j.opn.length : Nat)) := by
    have hz : (j.opn.flatMap pndE).length = j.opn.length * 12 := rows_len pndE_len _
    rcases o2 with ⟨rfl | rfl, hcc⟩ | ⟨i0, len, cap, c0, ex, rfl, _, _, hlen2, _, _⟩
    · rw [hcc] at hz
      have : j.opn.length = 0 := by simp at hz; omega
      rw [this]
      exact aLen_snil kt_69
    · rw [hcc] at hz
      have : j.opn.length = 0 := by simp at hz; omega
      rw [this]
      exact aLen_z0 kt_69
    · rw [hz] at hlen2
      obtain rfl : len = j.opn.length := by omega
      exact aLen_sl kt_69
  have hfr : ∀ q, h.n ≤ q → ∀ tg, ow q ≠ some tg := fun q hq tg hh => by have := (w.old _ _ hh).2; omega
  simp only [wpA_region, wpA_seq, wpA_draw, seqQ_normal, goI_out, goI_ops, opsA_nil, opsA_cons, stepA_box, thenH_some, eval_tmp, put_some, enterF_zero, enterF_succ, aBox_eq, push_n, Nat.reduceEqDiff, Option.map_some, if_false, hc, hce]
  rw [← hH0, ← hH]
  clear hH0 hH
  refine SWp.drawnS none_ [] (.q 0 (.q 1 (.q 2 (.q 3 (.q 4 (.q 5 (.q 6 (.q 7 (.q 8 (.q 9 (.q 10 (.q 11 (.q 12 (.q 13 (.q 14 (.q 15 (.q 16 (.q 17 .done)))))))))))))))))) (by kernel_rfl) (by kernel_rfl) (by kernel_rfl) ?_
  simp only [siI_done, siI_q, sqI_some, mOk_none', implies_true, qI_nil, qI_cons, qI_guard, qgI_same, thenQ_some, q_move, q_pick, q_load, q_nilCheck, q_binOp, q_fieldAddr, wpA_skip, wpA_region, wpA_seq, wpA_cond, wpA_block, wpA_loop, condI_true, condI_false, seqQ_normal, goI_out, goI_ops, goI_mk, opsA_nil, opsA_cons, slotAt_zero, slotAt_succ, stepA_move, stepA_load, stepA_nilCheck, stepA_binOp, stepA_fieldAddr, stepA_len, thenV_some, pickV_false, nilV_ptr, eval_tmp, eval_const, put_some, enterF_zero, enterF_succ, aBin_eql, aBin_neq, absV_int, absV_bool, aField_eq, fieldGo_ptr, aLoad_eq, loadGo_one, aPlace_ptr, dropC_cells, List.getElem?_cons_zero, List.getElem?_cons_succ, Nat.reduceEqDiff, Nat.reduceAdd, Nat.reduceLeDiff, Nat.add_zero, Nat.zero_add, Nat.zero_le, List.length_cons, List.length_nil, List.drop_zero, List.drop_succ_cons, true_and, if_true, if_false, ft_41_1, ft_41_2, ft_47_0, ft_47_2, ft_47_3, ft_71_0, ft_71_1, lt_3, lt_69, gE, g, entE, c1, c2, c3, c4, hlp]
  refine SWp.loopG (α := Nat × (PM × Nat × Ow)) (fun y f h' => f 1 = .ptr b 0 ∧ f 4 = .ptr h.n 0 ∧ f 6 = .ptr (h.n + 1) 0 ∧ f 49 = pv ∧ f 50 = .int .i64 (j.opn.length : Nat) ∧ f 51 = .int .i64 (y.1 : Nat) ∧ y.1 ≤ j.opn.length ∧
      VS h0 h' lm tm (putB logs (j.opn.take y.1)) tasks y.2.1 y.2.2.1 T tc y.2.2.2 ∧ (∀ q tg, ow q = some tg → y.2.2.2 q = some tg) ∧ (∀ q tg, y.2.2.2 q = some tg → ow q = some tg ∨ H.n ≤ q) ∧
      Own h' 73 12 pv (j.opn.flatMap pndE) ∧ Own h' 3 1 ov (i64V j.ord) ∧ h'.get b = .cells [.int .i64 t, .int .i64 j.ep, .int .i64 j.tx, fv, ov, .int .i64 0, pv] 71 none ∧ h'.get h.n = .cells [.map lm, .map tm] 58 none ∧ h'.get (h.n + 1) = .cells (entE x) 47 none ∧ H.n ≤ h'.n ∧ Keep H h' (fun q => q = lm ∨ ∃ tg, ow q = some tg))
      (fun y => j.opn.length - y.1) (0, L, lc, ow)
    ⟨rfl, rfl, rfl, rfl, rfl, rfl, Nat.zero_le _, wH, fun _ _ hh => hh, fun _ _ hh => .inl hh, o2, o1, g, gS, gE, Nat.le_refl _, Keep.refl _ _⟩ ?_
  rintro ⟨i, L2, lc2, ow2⟩ f h1 ⟨f1, f4, f6, f49, f50, f51, hi, w1, hi2, ho2b, op, oo, gb, gs, ge, hn1, kHo⟩
  simp only at f51 hi w1 hi2 ho2b
  refine wpI_sound (by kernel_rfl) ?_
  by_cases hlt : i < j.opn.length
  · have d1 : decide ((i : Int) < ((j.opn.length : Nat) : Int)) = true := decide_eq_true (by omega)
    have wi : IntKind.i64.wrap (((i : Nat) : Int) + 1) = ((i + 1 : Nat) : Int) := by rw [Go.IntWalk.i64_in _ (by omega)]; omega
    obtain ⟨iv, qq, ix, _, dr⟩ := own_row_ix (kk := .i64) pndE_len (by decide) ss_69 op hlt
    rw [aIndexAddr_eq, ss_69] at ix
    rw [Nat.zero_add] at ix dr
    have ix : ixGo (some 12) none pv (i : Int) = some (.ptr iv (i * 12)) := ix
    have hsn : j.opn.take (i + 1) = j.opn.take i ++ [j.opn[i]] := List.take_succ_eq_append_getElem hlt
    generalize j.opn[i] = P at *
    obtain ⟨px, pat⟩ := P
    have lr : loadGo (some (some 12)) (some (pndE (px, pat) ++ qq)) = some (.agg (pndE (px, pat))) := load_row (pndE_len _)
    have hcP : (V.agg (pndE (px, pat))).cells = some (pndE (px, pat)) := rfl
    have hsP : setC (some 12) (AObj.cells [V.int .i64 0, .int .i64 0, .int .i64 0, .int .i64 0, .int .i64 0, .int .i64 0, .int .i64 0, .int .i64 0, .bool false, .snil, .snil, .int .i64 0] 73 none) 0 (pndE (px, pat)) = some (.cells (pndE (px, pat)) 73 none) := rfl
    obtain ⟨H2, hH2⟩ : ∃ y, y = h1.push (.cells (pndE (px, pat)) 73 none) := ⟨_, rfl⟩
    have k2 : Keep h1 H2 none_ := by rw [hH2]; exact Keep.push _ _ _
    have n2 : H2.n = h1.n + 1 := by rw [hH2]; rfl
    have gP : H2.get h1.n = .cells (pndE (px, pat)) 73 none := by rw [hH2]; exact get_push_new
    have dP : dropC (AObj.cells (pndE (px, pat)) 73 none) 0 = some (entE px ++ [.int .i64 (pat : Nat)]) := rfl
    have lP : loadGo (some (some 11)) (some (entE px ++ [V.int .i64 (pat : Nat)])) = some (.agg (entE px)) := load_row (entE_len px)
    have gs2 := (k2.get h.n (by omega) (by simp [none_])).trans gs
    have lb : (putB logs (j.opn.take i) px.log).length ≤ 2 ^ 40 := by
      have h1 := putB_len px.log (j.opn.take i) logs (2 ^ 30) (hlg _)
      rw [List.length_take] at h1
      omega
    simp only [wpA_skip, wpA_region, wpA_seq, wpA_cond, wpA_block, condI_true, seqQ_normal, goI_out, goI_ops, opsA_nil, opsA_cons, stepA_alloc, stepA_load, stepA_store, stepA_binOp, stepA_indexAddr, thenV_some, thenH_some, thenS_some, eval_tmp, put_some, put_none, aBin_lss, aLoad_eq, aPlace_ptr, aStore_eq, storeGo_ptr, aAlloc_eq, aIndexAddr_eq, get_push_new, set_push, Nat.reduceEqDiff, Option.map_some, if_true, if_false, as_69, lt_58, lt_73, ss_69, zc_73, zt_73, f4, f49, f50, f51, d1, ix, dr, lr, hcP, hsP]
    rw [← hH2]
    clear hH2
    simp only [goI_ops, opsA_cons, stepA_load, stepA_fieldAddr, stepA_call, thenV_some, eval_tmp, put_some, put_none, aField_eq, fieldGo_ptr, aLoad_eq, loadGo_row, aPlace_ptr, dropC_cells, Nat.reduceEqDiff, Nat.reduceAdd, List.map_cons, List.map_nil, Nat.add_zero, Nat.zero_add, Nat.zero_le, List.length_cons, List.length_nil, List.drop_zero, List.take_succ_cons, List.take_nil, if_true, if_false, Nat.le_refl, ft_73_0, lt_47, gs2, gP, dP, lP]
    refine callI_of cal37 (pAdd px (w1.on k2) lb) fun r h3 ⟨er, L3, lc3, ow3, w3, hi3, k3, ho3⟩ => ?_
    subst er
    have tag : ∀ q, (q = lm ∨ ∃ k i, ow2 q = some (0, k, i)) → ∀ u i, ow q ≠ some (1, u, i) := fun q hq u i hh => by
      rcases hq with hq | ⟨k, i2, hq⟩
      · rw [hq, w.owl] at hh; simp at hh
      · rw [hi2 _ _ hh] at hq; simp at hq
    have k13 := (k2.up).trans' k3
    have hn3 := k3.n
    have nfree : ∀ q, h.n ≤ q → q < H.n → ¬ (q = lm ∨ ∃ k i, ow2 q = some (0, k, i)) := fun q h1 h2 hq => by
      rcases hq with hq | ⟨k, i2, hq⟩
      · have := (w.old _ _ w.owl).2; omega
      · rcases ho2b q _ hq with hh | hh
        · exact hfr q h1 _ hh
        · omega
    have hbH := (wH.old _ _ t0).2
    simp only [wpA_region, seqQ_normal, blkQ_normal, endI_mk, andThen_normal, goI_out, goI_ops, opsA_nil, opsA_cons, stepA_move, stepA_binOp, thenV_some, eval_tmp, eval_const, put_some, put_none, aBin_add, absV_int, Nat.reduceEqDiff, if_true, if_false, f51, wi]
    exact hid_mk ⟨(i + 1, L3, lc3, ow3), ⟨f1, f4, f6, f49, f50, rfl, hlt, by simp only [hsn, putB_snoc]; exact w3, fun q tg hq => hi3 _ _ (hi2 _ _ hq), fun q tg hq => by
      rcases ho3 q tg hq with hh | hh
      · exact ho2b q tg hh
      · exact .inr (by omega), op.keep k13 (fun q hq hh => tag q hh _ _ (t2 q hq)), oo.keep k13 (fun q hq hh => tag q hh _ _ (t1 q hq)), (k13.get b (by omega) (fun hh => tag b hh _ _ t0)).trans gb, (k13.get h.n (by omega) (nfree _ (by omega) (by omega))).trans gs, (k13.get (h.n + 1) (by omega) (nfree _ (by omega) (by omega))).trans ge, by omega, kHo.trans k13 fun q hq hh => by
      rcases hh with hh | ⟨k, i2, hh⟩
      · exact .inl hh
      · rcases ho2b q _ hh with hh | hh
        · exact .inr ⟨_, hh⟩
        · omega⟩, by simp only; omega⟩
  · obtain rfl : i = j.opn.length := by omega
    have d1 : decide (((j.opn.length : Nat) : Int) < ((j.opn.length : Nat) : Int)) = false := decide_eq_false (by omega)
    rw [List.take_length] at w1
    have t0' := hi2 _ _ t0
    have t1' : ∀ q, idOf ov = some q → ow2 q = some (1, t, 1) := fun q hq => hi2 _ _ (t1 q hq)
    have hbn := (w1.old _ _ t0').2
    have neb : ¬ isId ov b := fun hh => by have := t1 b hh; rw [t0] at this; simp at this
    have nee : ¬ isId ov (h.n + 1) := fun hh => hfr (h.n + 1) (by omega) _ (t1 _ hh)
    have hnb : h.n + 1 ≠ b := fun hh => hfr (h.n + 1) (by omega) _ (by rw [hh]; exact t0)
    obtain ⟨h2, hh2⟩ : ∃ y, y = h1.set b (.cells [.int .i64 t, .int .i64 j.ep, .int .i64 j.tx, .imm x.offs.length (i64V x.offs), ov, .int .i64 0, pv] 71 none) := ⟨_, rfl⟩
    have k2 : Keep h1 h2 (· = b) := by rw [hh2]; exact Keep.set _ _ _
    have n2 : h2.n = h1.n := by rw [hh2]; rfl
    have gb2 : h2.get b = .cells [.int .i64 t, .int .i64 j.ep, .int .i64 j.tx, .imm x.offs.length (i64V x.offs), ov, .int .i64 0, pv] 71 none := by rw [hh2]; exact get_set_same
    have ge2 := (k2.get (h.n + 1) (by omega) hnb).trans ge
    have oo2 := oo.keep k2 fun q hq hh => neb (by rw [← hh]; exact hq)
    obtain ⟨ov', h3, ea, oo3, k3, nw⟩ := appO oo2 x.order hord (by omega)
    have n3 := k3.n
    have gb3 := (k3.get b (by omega) neb).trans gb2
    have ge3 := (k3.get (h.n + 1) (by omega) nee).trans ge2
    have one : ov'.one = true := by rcases oo3 with ⟨rfl | rfl, _⟩ | ⟨_, _, _, _, _, rfl, _⟩ <;> rfl
    have cell : ov'.cells = some [ov'] := by rcases oo3 with ⟨rfl | rfl, _⟩ | ⟨_, _, _, _, _, rfl, _⟩ <;> rfl
    have st3 : setC (some 1) (AObj.cells [V.int .i64 t, .int .i64 j.ep, .int .i64 j.tx, fv, ov, .int .i64 0, pv] 71 none) 3 [.imm x.offs.length (i64V x.offs)] = some (.cells [.int .i64 t, .int .i64 j.ep, .int .i64 j.tx, .imm x.offs.length (i64V x.offs), ov, .int .i64 0, pv] 71 none) := rfl
    have st4 : setC (some 1) (AObj.cells [V.int .i64 t, .int .i64 j.ep, .int .i64 j.tx, .imm x.offs.length (i64V x.offs), ov, .int .i64 0, pv] 71 none) 4 [ov'] = some (.cells [.int .i64 t, .int .i64 j.ep, .int .i64 j.tx, .imm x.offs.length (i64V x.offs), ov', .int .i64 0, pv] 71 none) := by rw [setC_one one]; rfl
    have f1b : isId ov b = False := eq_false neb
    have f1e : isId ov (h.n + 1) = False := eq_false nee
    have w1' : IntKind.i64.wrap (j.tx + 1) = j.tx + 1 := Go.IntWalk.i64_in _ (by omega)
    have d9 : dropC (AObj.cells (entE x) 47 none) 9 = some [.imm x.offs.length (i64V x.offs), .imm x.order.length (i64V x.order)] := rfl
    have d10 : dropC (AObj.cells (entE x) 47 none) 10 = some [.imm x.order.length (i64V x.order)] := rfl
    have kv : Keep h2 h3 (fun q => isId ov q) := k3
    have pvb : ∀ q, idOf ov' = some q → q ≠ b ∧ (idOf ov = some q ∨ h1.n ≤ q) := fun q hq => by
      rcases nw with e | e
      · exact ⟨fun hh => neb (by rw [← hh, isId, ← e]; exact hq), .inl (by rw [← e]; exact hq)⟩
      · have := e q hq; exact ⟨by omega, .inr (by omega)⟩
    have kS : ∀ o, Keep h3 (h3.set b o) (· = b) := fun o => Keep.set _ _ _
    have kF : ∀ o, Keep h1 (h3.set b o) (fun q => ∃ i, ow2 q = some (1, t, i)) := fun o => ((k2.mono (o' := fun q => ∃ i, ow2 q = some (1, t, i)) fun q hh => ⟨0, by rw [hh]; exact t0'⟩).trans k3 fun q hq hh => ⟨1, t1' q hh⟩).trans (kS o) fun q hq hh => ⟨0, by rw [hh]; exact t0'⟩
    obtain ⟨ow', how⟩ : ∃ f : Ow, f = fun q => if q < h1.n then ow2 q else if idOf ov' = some q then some (1, t, 1) else ow2 q := ⟨_, rfl⟩
    have hinc : ∀ q tg, ow2 q = some tg → ow' q = some tg := fun q tg hq => by rw [how]; simp only; rw [if_pos (w1.old _ _ hq).2]; exact hq
    have e1 : stepL logs j x = putB logs j.opn := by unfold stepL; rw [if_neg (by omega), if_pos hk3]
    have e2 : stepB j x at_ = ⟨j.ep, j.tx + 1, x.offs, j.ord ++ x.order, []⟩ := by unfold stepB; rw [if_neg (by omega), if_neg (by omega), if_pos hk3]
    simp only [wpA_region, wpA_seq, wpA_cond, wpA_exit, condI_false, seqQ_normal, seqQ_exit, blkQ_exit, endI_mk, goE, andThen_exit, goI_out, goI_ops, opsA_nil, opsA_cons, stepA_move, stepA_load, stepA_binOp, stepA_fieldAddr, stepA_call, thenV_some, eval_tmp, put_some, aBin_lss, aField_eq, fieldGo_ptr, aLoad_eq, loadGo_one, aPlace_ptr, Nat.reduceEqDiff, List.map_cons, List.map_nil, Nat.zero_add, if_true, if_false, ft_47_7, lt_39, f1, f6, f50, f51, d1, ge, d9]
    refine callI_pure cal34 (pCloneI x.offs (by omega) h1) ?_
    simp only [wpA_draw, seqQ_normal, goI_out, goI_ops, opsA_nil, opsA_cons, stepA_store, stepA_nilCheck, stepA_fieldAddr, thenV_some, thenS_some, nilV_ptr, eval_tmp, put_some, cells_imm, aField_eq, fieldGo_ptr, aStore_eq, storeGo_ptr, Nat.reduceEqDiff, Option.map_some, Nat.add_zero, Nat.zero_add, if_true, if_false, ft_41_3, ft_71_0, zt_39, gb, st3]
    rw [← hh2]
    clear hh2
    refine SWp.drawnS (fun q => isId ov q) [8, 12] (.q 0 (.q 1 (.q 2 (.q 3 (.q 4 (.q 5 (.q 6 (.q 7 (.e 8 (.q 9 (.q 10 (.q 11 (.a 12 .done)))) .stop))))))))) (by kernel_rfl) (by kernel_rfl) (by kernel_rfl) ?_
    simp only [mOk_move, mOk_nilCheck, mOk_fieldAddr, mOk_load, mOkV_ptr, nne2, nne3, nne4, nne1', nne2', nne3', not_false_eq_true, siI_done, siI_stop, siI_q, siI_a, siI_e, sqI_some, saI_some, seI_some, implies_true, qI_nil, qI_cons, thenQ_some, q_move, q_load, q_nilCheck, q_fieldAddr, wpA_region, wpA_seq, seqQ_normal, endI_mk, goI_out, goI_ops, goI_mk, opsA_nil, opsA_cons, stepA_move, stepA_load, stepA_store, stepA_nilCheck, stepA_binOp, stepA_fieldAddr, stepA_append, thenV_some, thenH_some, thenS_some, nilV_ptr, eval_tmp, eval_const, put_some, put_none, aBin_add, absV_int, absV_snil, cells_int, cells_snil, one_int, one_snil, all_nil, all_cons, aField_eq, fieldGo_ptr, aLoad_eq, loadGo_one, aPlace_ptr, dropC_cells, aStore_eq, storeGo_ptr, setC_row, setAll_nil, setAll_cons, get_set_same, set_set, List.getElem?_cons_zero, List.getElem?_cons_succ, Bool.false_eq_true, Nat.reduceEqDiff, Nat.reduceAdd, Nat.reduceLeDiff, Option.map_some, Nat.add_zero, Nat.zero_add, List.length_cons, List.length_nil, List.drop_zero, List.drop_succ_cons, List.set_cons_zero, List.set_cons_succ, and_true, true_and, if_true, if_false, Bool.and_self, Nat.le_refl, ft_41_2, ft_41_4, ft_47_8, ft_71_0, ft_71_1, lt_3, lt_39, zt_3, zt_39, zt_69, f1, f6, gb2, ge2, d10, ea, gb3, cell, st4, f1b, f1e, kv, w1', retA_normal, Tryd.results40, resultsA_0]
    have hold : ∀ q tg, ow' q = some tg → ow2 q = some tg ∨ (h1.n ≤ q ∧ q < h3.n) := fun q tg hq => by
      rw [how] at hq
      simp only at hq
      split at hq
      · exact .inl hq
      · split at hq
        · rename_i h2; exact .inr ⟨by omega, oo3.lt _ h2⟩
        · exact .inl hq
    have tO : ∀ q, idOf ov' = some q → ow' q = some (1, t, 1) := fun q hq => by
      rcases (pvb q hq).2 with h1 | h1
      · exact hinc _ _ (t1' q h1)
      · rw [how]; simp only; rw [if_neg (by omega), if_pos hq]
    refine hid_mk ⟨rfl, L2, lc2, ow', ?_, (kH.up).trans (kHo.trans (kF _) fun q hq ⟨i, hh⟩ => ?_) fun q hq hh => hh, fun q tg hq => ?_⟩
    rotate_left
    · rcases ho2b q _ hh with hh | hh
      · exact .inr ⟨_, hh⟩
      · omega
    · rcases hold q tg hq with hh | hh
      · rcases ho2b q _ hh with hh | hh
        · exact .inl hh
        · exact .inr (by omega)
      · exact .inr (by omega)
    rw [e1, e2]
    exact w1.setJob hb (kF _) (fun q hh => hh) hinc hold ⟨_, ov', .snil, get_set_same, .inr rfl, oo3.keep (kS _) (fun q hq => (pvb q hq).1), Own.snil _ _ _, hinc _ _ t0', tO, fun q hq => by simp [idOf] at hq⟩
end Go.Proofs.YtcdpepdjeneelaaDoor.Pk
