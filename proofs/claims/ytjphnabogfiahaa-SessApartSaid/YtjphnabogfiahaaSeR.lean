/-
  What functions of the program do, told of abstract states. Conditions: as each theorem says.
-/
import Derived.Test.YtjphnabogfiahaaSeP
namespace Go.Proofs.Ytjphnabogfiahaa.Pk
open Go Go.Proofs Go.Proofs.Ytjphnabogfiahaa.Ab
set_option linter.unusedVariables false
set_option linter.unusedSimpArgs false
/-! ### Which times were put -/
def pA (l : List Deed) : List (Int × Int) := ((l.filter fun d => mayT d.time).map fun d => (d.key, d.time)).reverse
theorem pA_succ {l : List Deed} {t : Nat} (ht : t < l.length) : pA (l.take (t + 1)) = if mayT l[t].time = true then (l[t].key, l[t].time) :: pA (l.take t) else pA (l.take t) := by
  unfold pA
  rw [List.take_succ_eq_append_getElem ht, List.filter_append, List.map_append, List.reverse_append]
  cases h : mayT l[t].time <;> simp [h]
theorem mem_pA {l : List Deed} {p : Int × Int} : p ∈ pA l ↔ ∃ d ∈ l, mayT d.time = true ∧ d.key = p.1 ∧ d.time = p.2 := by
  unfold pA
  rw [List.mem_reverse, List.mem_map]
  constructor
  · rintro ⟨d, hd, rfl⟩
    obtain ⟨h1, h2⟩ := List.mem_filter.1 hd
    exact ⟨d, h1, h2, rfl, rfl⟩
  · rintro ⟨d, h1, h2, h3, h4⟩
    exact ⟨d, List.mem_filter.2 ⟨h1, h2⟩, by rw [h3, h4]⟩
theorem Good.putL {g : Int} (hg : 1 ≤ g) {l : List Chg} {ds : List Deed} {t : Nat} (ht : t < ds.length) (w : Good g l (pA (ds.take t))) : Good g (putL g l ds[t].key ds[t].time ds[t].val) (pA (ds.take (t + 1))) := by
  rw [pA_succ ht]
  unfold Pk.putL
  cases h : mayT ds[t].time
  · exact w
  · have := mayT_iff.1 h
    rw [if_pos rfl, if_pos rfl]
    exact w.put hg _ this.1 this.2
def cv (d : Deed) (x : Chg) : Bool := decide (x.key = d.key ∧ x.fr ≤ d.time ∧ d.time ≤ x.to)
theorem cv_iff {d : Deed} {x : Chg} : cv d x = true ↔ x.key = d.key ∧ x.fr ≤ d.time ∧ d.time ≤ x.to := by simp [cv]
theorem filter_one {α : Type} {p : α → Bool} : ∀ {l : List α}, (l.Pairwise fun a b => ¬ (p a = true ∧ p b = true)) → (l.filter p).length ≤ 1
  | [], _ => Nat.zero_le _
  | a :: l, h => by
    have h' := List.pairwise_cons.1 h
    cases ha : p a
    · rw [List.filter_cons_of_neg (by simp [ha])]; exact filter_one h'.2
    · rw [List.filter_cons_of_pos ha, List.filter_eq_nil_iff.2 fun b hb hpb => h'.1 b hb ⟨ha, hpb⟩]
      exact Nat.le_refl _
theorem Good.count {g : Int} (hg : 1 ≤ g) {l : List Chg} {ds : List Deed} (w : Good g l (pA ds)) {d : Deed} (hd : d ∈ ds) : (l.filter (cv d)).length = if mayT d.time = true then 1 else 0 := by
  cases hm : mayT d.time
  · have : l.filter (cv d) = [] := List.filter_eq_nil_iff.2 fun x hx hc => by
      have h1 := cv_iff.1 hc
      have h2 := w.ok x hx
      have := h2.lo
      have := h2.hi
      have : mayT d.time = true := mayT_iff.2 ⟨by omega, by omega⟩
      rw [hm] at this; cases this
    rw [this]; rfl
  · have h1 : (l.filter (cv d)).length ≤ 1 := by
      refine filter_one ?_
      have hp : l.Pairwise fun a b => a ∈ l ∧ b ∈ l ∧ lt3 a b := List.pairwise_iff_forall_sublist.2 fun {a b} hs => ⟨hs.subset (by simp), hs.subset (by simp), List.pairwise_iff_forall_sublist.1 w.ss hs⟩
      refine hp.imp ?_
      rintro a b ⟨ha, hb, hab⟩ ⟨h1, h2⟩
      have h1 := cv_iff.1 h1
      have h2 := cv_iff.1 h2
      have hn : same3 a b = false := by
        cases e : same3 a b
        · rfl
        · exact absurd hab (lt3_irr e)
      have := w.sep a ha b hb (by omega) hn
      omega
    obtain ⟨x, hx, h2, h3, h4⟩ := w.cov d.key d.time (mem_pA.2 ⟨d, hd, hm, rfl, rfl⟩)
    have h5 : x ∈ l.filter (cv d) := List.mem_filter.2 ⟨hx, cv_iff.2 ⟨h2, h3, h4⟩⟩
    have h6 := List.length_pos_of_mem h5
    rw [if_pos rfl]; omega
theorem Good.gap {g : Int} (hg : 1 ≤ g) {l : List Chg} {P : List (Int × Int)} (w : Good g l P) {i : Nat} (hi : i + 1 < l.length) (hk : l[i + 1].key = l[i].key) : g < l[i + 1].fr - l[i].to := by
  have hlt : lt3 l[i] l[i + 1] := List.pairwise_iff_getElem.1 w.ss i (i + 1) (by omega) hi (by omega)
  have hn : same3 l[i] l[i + 1] = false := by
    cases e : same3 l[i] l[i + 1]
    · rfl
    · exact absurd hlt (lt3_irr e)
  have h1 := w.sep l[i] (List.getElem_mem _) l[i + 1] (List.getElem_mem _) hk.symm hn
  have h2 := (w.ok l[i] (List.getElem_mem _)).le
  have h3 := (w.ok l[i + 1] (List.getElem_mem _)).le
  unfold lt3 at hlt
  omega
theorem any_succ {α : Type} (p : α → Bool) {l : List α} {t : Nat} (ht : t < l.length) : (l.take (t + 1)).any p = ((l.take t).any p || p l[t]) := by
  rw [List.take_succ_eq_append_getElem ht, List.any_append]; simp
theorem filter_succ {α : Type} (p : α → Bool) {l : List α} {t : Nat} (ht : t < l.length) : ((l.take (t + 1)).filter p).length = ((l.take t).filter p).length + if p l[t] = true then 1 else 0 := by
  rw [List.take_succ_eq_append_getElem ht, List.filter_append, List.length_append]
  cases h : p l[t] <;> simp [h]
set_option maxHeartbeats 8000000 in
set_option maxRecDepth 20000 in
theorem sessApart (gap : Int) (ds : List Deed) (hd : ds.length < 2 ^ 47) (s0 : 0 ≤ gap) (s1 : gap < 256) (h : AHeap) : SCalls Try.prog 4 [.int .u8 gap, .imm ds.length (ds.flatMap dE)] h (fun r h' => r = .bool true) := by
  refine SCalls.enterI (c := _) Try.func4 rfl (by kernel_rfl) (by simp) ?_
  simp only [wpA_region, wpA_seq, seqQ_normal, goI_out, goI_ops, opsA_nil, opsA_cons, stepA_assign, stepA_call, eval_const, absV_bool, List.map_nil]
  refine callI_pure cal8 (pShown14 h) ?_
  have w1 : IntKind.i64.wrap gap = gap := Go.IntWalk.i64_in _ (by omega)
  have w2 : IntKind.i64.wrap (1 + gap) = 1 + gap := Go.IntWalk.i64_in _ (by omega)
  simp only [wpA_region, wpA_seq, seqQ_normal, goI_out, goI_ops, opsA_nil, opsA_cons, stepA_move, stepA_assign, stepA_binOp, stepA_convert, stepA_call, thenV_some, thenC_some, eval_tmp, eval_const, put_some, enterF_zero, enterF_succ, aBin_add, aConv_int, absV_int, Option.some.injEq, Nat.reduceEqDiff, reduceCtorEq, List.map_cons, List.map_nil, if_true, if_false, it_2, it_5, w1, w2]
  refine callI_of cal9 (sesNew 1024 (1 + gap) (by decide) (by decide) (by omega) (by omega) h) fun r h1 ⟨e1, e2⟩ => ?_
  subst e1
  have k1 : IsSes h1 h.n .snil 1024 (1 + gap) [] := by rw [e2]; exact IsSes.new (by omega) (by omega)
  clear e2
  simp only [wpA_skip, wpA_region, wpA_seq, wpA_cond, wpA_block, wpA_loop, condI_false, seqQ_normal, goI_out, goI_ops, opsA_nil, opsA_cons, opsA_guardS, gvI_same, slotAt_zero, slotAt_succ, stepA_move, stepA_assign, stepA_pick, stepA_binOp, stepA_extract, thenV_some, pickV_false, extV_zero, extV_succ, eval_tmp, eval_const, put_some, enterF_succ, aBin_neq, ptr_nil_eql, absV_int, absV_bool, absV_pnil, bne_self_eq_false, Nat.reduceEqDiff, if_true, if_false, kt_24]
  generalize h.n = i at k1
  have hg0 : 1 ≤ 1 + gap := by omega
  generalize 1 + gap = g at k1 hg0
  refine SWp.loopG (α := Nat × List Chg × V) (fun x f h' => f 1 = .imm ds.length (ds.flatMap dE) ∧ f 5 = .bool true ∧ f 6 = .int .i64 g ∧ f 7 = .ptr i 0 ∧ f 9 = .int .i64 (x.1 : Nat) ∧ x.1 ≤ 100 ∧ x.1 ≤ ds.length ∧ IsSes h' i x.2.2 1024 g x.2.1 ∧ x.2.1.length ≤ x.1 ∧ Good g x.2.1 (pA (ds.take x.1))) (fun x => 100 - x.1) (0, [], .snil)
    ⟨rfl, rfl, rfl, rfl, rfl, Nat.zero_le _, Nat.zero_le _, k1, Nat.zero_le _, by simp only [List.take_zero]; exact Good.nil g⟩ ?_
  clear k1
  rintro ⟨t, l, v⟩ f h' ⟨f1, f5, f6, f7, f9, ht, htd, ka, hl, gd⟩
  simp only at f9 ht htd ka hl gd
  refine wpI_sound (by kernel_rfl) ?_
  by_cases hlt : t < ds.length ∧ t < 100
  · have d1 : decide ((t : Int) < ((ds.length : Nat) : Int)) = true := decide_eq_true (by omega)
    have d2 : decide ((t : Int) < 100) = true := decide_eq_true (by omega)
    have hw := inc64w hlt.2 (by omega)
    obtain ⟨rr, x1⟩ := deed_ix hlt.1
    have gp := gd.putL hg0 hlt.1
    generalize ds[t] = d at x1 gp
    simp only [wpA_skip, wpA_region, wpA_seq, wpA_cond, wpA_block, wpA_draw, condI_true, seqQ_normal, goI_out, goI_ops, opsA_nil, opsA_cons, opsA_guardS, gvI_same, slotAt_zero, slotAt_succ, stepA_move, stepA_pick, stepA_binOp, stepA_len, thenV_some, pickV_true, eval_tmp, eval_const, put_some, aBin_lss, absV_int, absV_bool, aLen_imm, Nat.reduceEqDiff, if_true, if_false, kt_22, f1, f9, d1, d2]
    refine SWp.drawnS none_ [16] (.q 0 (.q 1 (.q 2 (.q 3 (.q 4 (.q 5 (.q 6 (.q 7 (.q 8 (.q 9 (.q 10 (.q 11 (.q 12 (.q 13 (.q 14 (.q 15 (.a 16 (.q 17 (.q 18 (.q 19 (.q 20 (.q 21 .done)))))))))))))))))))))) (by kernel_rfl) (by kernel_rfl) (by kernel_rfl) ?_
    simp only [siI_q, siI_a, sqI_some, saI_some, mOk_none', implies_true, qI_nil, qI_cons, thenQ_some, q_move, q_load, q_fieldAddr, q_indexAddr, goI_mk, opsA_cons, stepA_call, eval_tmp, put_some, aField_eq, fieldGo_at, aLoad_eq, loadGo_one, aPlace_at, List.getElem?_cons_zero, List.getElem?_cons_succ, Nat.reduceEqDiff, List.map_cons, List.map_nil, true_and, if_true, if_false, ft_32_1, ft_32_2, ft_32_3, lt_2, f1, f7, f9, x1, fdE1, fdE2, fdE3]
    refine callI_of cal11 (sesPutAny h' i v 1024 g d.key d.time d.val l (by omega) (by omega) ka) fun r h3 ⟨v2, er, kS, kp3, n3⟩ => ?_
    subst er
    have hl3 := putL_len (g := g) ka.ss d.key d.time d.val
    have fin : ∀ b1 b2, decide (0 ≤ d.time) = b1 → decide (d.time ≤ 1099511627776) = b2 → (putR d.time == 0) = (b1 && b2) := fun b1 b2 h1 h2 => by
      have : mayT d.time = (b1 && b2) := by rw [← h1, ← h2]; rfl
      unfold putR
      rw [this]
      cases b1 <;> cases b2 <;> rfl
    cases e1 : decide (0 ≤ d.time)
    · have e3 := fin _ _ e1 rfl
      rw [Bool.false_and] at e3
      simp only [siI_done, siI_q, sqI_some, mOk_none', implies_true, qI_nil, qI_cons, thenQ_some, q_move, q_assign, q_extract, wpA_skip, wpA_region, wpA_seq, wpA_cond, condI_false, seqQ_normal, blkQ_normal, endI_mk, andThen_normal, goI_out, goI_ops, goI_mk, opsA_nil, opsA_cons, opsA_guardS, gvI_ft, slotAt_zero, slotAt_succ, stepA_move, stepA_assign, stepA_pick, stepA_load, stepA_binOp, stepA_fieldAddr, stepA_indexAddr, thenV_some, pickV_false, extV_zero, extV_succ, eval_tmp, eval_const, put_some, aBin_add, aBin_eql, aBin_geq, absV_int, absV_bool, aField_eq, fieldGo_at, aLoad_eq, loadGo_one, aPlace_at, List.getElem?_cons_zero, List.getElem?_cons_succ, bne_self_eq_false, Bool.false_eq_true, Nat.reduceEqDiff, true_and, if_true, if_false, ft_32_2, lt_2, f1, f9, x1, fdE2, e1, e3, hw, aBin_bool_neq bt_4]
      exact hid_mk ⟨(t + 1, putL g l d.key d.time d.val, v2), ⟨f1, f5, f6, f7, rfl, by simp only; omega, by simp only; omega, kS, by simp only; omega, gp⟩, by simp only; omega⟩
    · cases e2 : decide (d.time ≤ 1099511627776)
      · have e3 := fin _ _ e1 e2
        rw [Bool.and_false] at e3
        simp only [siI_done, siI_q, sqI_some, mOk_none', implies_true, qI_nil, qI_cons, thenQ_some, q_move, q_assign, q_extract, wpA_skip, wpA_region, wpA_seq, wpA_cond, condI_false, seqQ_normal, blkQ_normal, endI_mk, andThen_normal, goI_out, goI_ops, goI_mk, opsA_nil, opsA_cons, opsA_guardS, gvI_same, slotAt_zero, slotAt_succ, stepA_move, stepA_assign, stepA_pick, stepA_load, stepA_binOp, stepA_fieldAddr, stepA_indexAddr, thenV_some, pickV_true, extV_zero, extV_succ, eval_tmp, eval_const, put_some, aBin_add, aBin_eql, aBin_leq, aBin_geq, absV_int, absV_bool, aField_eq, fieldGo_at, aLoad_eq, loadGo_one, aPlace_at, List.getElem?_cons_zero, List.getElem?_cons_succ, bne_self_eq_false, Bool.false_eq_true, Nat.reduceEqDiff, true_and, if_true, if_false, ft_32_2, lt_2, f1, f9, x1, fdE2, e1, e2, e3, hw, aBin_bool_neq bt_4]
        exact hid_mk ⟨(t + 1, putL g l d.key d.time d.val, v2), ⟨f1, f5, f6, f7, rfl, by simp only; omega, by simp only; omega, kS, by simp only; omega, gp⟩, by simp only; omega⟩
      · have e3 := fin _ _ e1 e2
        rw [Bool.and_true] at e3
        simp only [siI_done, siI_q, sqI_some, mOk_none', implies_true, qI_nil, qI_cons, thenQ_some, q_move, q_assign, q_extract, wpA_skip, wpA_region, wpA_seq, wpA_cond, condI_false, seqQ_normal, blkQ_normal, endI_mk, andThen_normal, goI_out, goI_ops, goI_mk, opsA_nil, opsA_cons, opsA_guardS, gvI_same, slotAt_zero, slotAt_succ, stepA_move, stepA_assign, stepA_pick, stepA_load, stepA_binOp, stepA_fieldAddr, stepA_indexAddr, thenV_some, pickV_true, extV_zero, extV_succ, eval_tmp, eval_const, put_some, aBin_add, aBin_eql, aBin_leq, aBin_geq, absV_int, absV_bool, aField_eq, fieldGo_at, aLoad_eq, loadGo_one, aPlace_at, List.getElem?_cons_zero, List.getElem?_cons_succ, bne_self_eq_false, Bool.false_eq_true, Nat.reduceEqDiff, true_and, if_true, if_false, ft_32_2, lt_2, f1, f9, x1, fdE2, e1, e2, e3, hw, aBin_bool_neq bt_4]
        exact hid_mk ⟨(t + 1, putL g l d.key d.time d.val, v2), ⟨f1, f5, f6, f7, rfl, by simp only; omega, by simp only; omega, kS, by simp only; omega, gp⟩, by simp only; omega⟩
  have hend : ∀ b1 b2 : Bool, decide ((t : Int) < ((ds.length : Nat) : Int)) = b1 → decide ((t : Int) < 100) = b2 → (b1 && b2) = false := fun b1 b2 h1 h2 => by
    rw [← h1, ← h2, Bool.and_eq_false_iff]
    simp only [decide_eq_false_iff_not]
    omega
  generalize hb1 : decide ((t : Int) < ((ds.length : Nat) : Int)) = b1 at hend
  generalize hb2 : decide ((t : Int) < 100) = b2 at hend
  have hbb := hend b1 b2 rfl rfl
  have hor : b1 = false ∨ (b1 = true ∧ b2 = false) := by
    cases b1
    · exact .inl rfl
    · exact .inr ⟨rfl, by simpa using hbb⟩
  clear hend hbb
  have hll : l.length ≤ 100 := by omega
  have hLen := ka.len
  rcases hor with rfl | ⟨rfl, rfl⟩
  all_goals
    simp only [wpA_region, wpA_seq, wpA_cond, wpA_exit, condI_false, seqQ_normal, seqQ_exit, blkQ_exit, endI_mk, goE, andThen_exit, goI_out, goI_ops, opsA_nil, opsA_cons, opsA_guardS, gvI_same, gvI_ft, slotAt_zero, slotAt_succ, stepA_move, stepA_pick, stepA_binOp, stepA_len, stepA_call, thenV_some, pickV_true, pickV_false, eval_tmp, eval_const, put_some, aBin_lss, absV_int, absV_bool, aLen_imm, Nat.reduceEqDiff, List.map_cons, List.map_nil, if_true, if_false, kt_22, f1, f7, f9, hb1, hb2]
    refine callI_pure cal14 (sesList _ _ _ _ _ _ ka) ?_
    simp only [wpA_region, wpA_seq, wpA_block, wpA_loop, seqQ_normal, goI_out, goI_ops, opsA_nil, opsA_cons, stepA_assign, eval_tmp, eval_const, put_some, absV_int, Nat.reduceEqDiff, if_true, if_false]
    refine SWp.loopG (α := Nat) (fun k f h' => f 1 = .imm ds.length (ds.flatMap dE) ∧ f 5 = .bool true ∧ f 6 = .int .i64 g ∧ f 9 = .int .i64 (t : Nat) ∧ f 12 = .imm l.length (l.flatMap chgE) ∧ f 13 = .int .i64 (k : Nat) ∧ k ≤ l.length) (fun k => l.length - k) 0
      ⟨f1, f5, f6, f9, rfl, rfl, Nat.zero_le _⟩ ?_
    clear f1 f5 f6 f7 f9
    rintro b f h3 ⟨f1, f5, f6, f9, f12, f13, hb⟩
    refine wpI_sound (by kernel_rfl) ?_
    by_cases hbl : b < l.length
    · have e0 : decide ((b : Int) < ((l.length : Nat) : Int)) = true := decide_eq_true (by omega)
      have hw := inc64 hbl (by omega)
      have xb := chg_ix (kk := .i64) hbl
      have hgap : ∀ c, b = c + 1 → ∀ (hc : c < l.length), l[b].key = l[c].key → g < l[b].fr - l[c].to := fun c hc1 hc hk => by
        subst hc1
        exact gd.gap hg0 hbl hk
      have hxm : l[b] ∈ l := List.getElem_mem hbl
      generalize l[b] = x at xb hgap hxm
      have hxo := gd.ok x hxm
      have hfr := gd.fr x hxm
      have hto := gd.to x hxm
      simp only [wpA_skip, wpA_region, wpA_seq, wpA_cond, wpA_block, wpA_draw, condI_true, seqQ_normal, goI_out, goI_ops, opsA_nil, opsA_cons, stepA_move, stepA_binOp, stepA_len, thenV_some, eval_tmp, put_some, aBin_lss, aLen_imm, Nat.reduceEqDiff, if_true, if_false, kt_28, f12, f13, e0]
      refine SWp.cut (fun f h3 => f 1 = .imm ds.length (ds.flatMap dE) ∧ f 5 = .bool true ∧ f 6 = .int .i64 g ∧ f 9 = .int .i64 (t : Nat) ∧ f 12 = .imm l.length (l.flatMap chgE) ∧ f 13 = .int .i64 (b : Nat) ∧ f 121 = .bool false) ?_ ?_
      · by_cases hb0 : b = 0
        · have e1 : decide ((0 : Int) < ((b : Nat) : Int)) = false := decide_eq_false (by omega)
          refine SWp.drawnS none_ [] (.q 0 (.q 1 (.q 2 (.q 3 (.q 4 (.q 5 (.q 6 (.q 7 (.q 8 (.q 9 (.q 10 (.q 11 (.q 12 (.q 13 (.q 14 (.q 15 (.q 16 (.q 17 (.q 18 (.q 19 (.q 20 (.q 21 (.q 22 (.q 23 (.q 24 (.q 25 (.q 26 (.q 27 (.q 28 (.q 29 (.q 30 (.q 31 .done)))))))))))))))))))))))))))))))) (by kernel_rfl) (by kernel_rfl) (by kernel_rfl) ?_
          simp only [siI_done, siI_q, sqI_some, mOk_none', implies_true, qI_nil, qI_cons, qI_guard, qgI_ft, thenQ_some, q_move, q_pick, q_binOp, endI_mk, goI_out, goI_mk, slotAt_zero, slotAt_succ, pickV_false, eval_tmp, eval_const, put_some, aBin_gtr, absV_int, absV_bool, List.getElem?_cons_zero, List.getElem?_cons_succ, Nat.reduceEqDiff, true_and, if_true, if_false, f13, e1]
          exact hid_mk ⟨rfl, f1, f5, f6, f9, f12, f13, rfl⟩
        · have e1 : decide ((0 : Int) < ((b : Nat) : Int)) = true := decide_eq_true (by omega)
          have hwb : IntKind.i64.wrap (((b : Nat) : Int) - 1) = ((b - 1 : Nat) : Int) := by rw [Go.IntWalk.i64_in _ (by omega)]; omega
          have xc := chg_ix (l := l) (k := b - 1) (kk := .i64) (by omega)
          have hgap := hgap (b - 1) (by omega) (by omega)
          have hym : l[b - 1] ∈ l := List.getElem_mem _
          obtain ⟨y, hy⟩ : ∃ y, y = l[b - 1] := ⟨_, rfl⟩
          rw [← hy] at xc hgap hym
          clear hy
          have hyo := gd.ok y hym
          have hws : IntKind.i64.wrap (x.fr - y.to) = x.fr - y.to := Go.IntWalk.i64_in _ (by have := hxo.lo; have := hxo.le; have := hxo.hi; have := hyo.lo; have := hyo.le; have := hyo.hi; omega)
          cases e2 : (x.key == y.key)
          · refine SWp.drawnS none_ [] (.q 0 (.q 1 (.q 2 (.q 3 (.q 4 (.q 5 (.q 6 (.q 7 (.q 8 (.q 9 (.q 10 (.q 11 (.q 12 (.q 13 (.q 14 (.q 15 (.q 16 (.q 17 (.q 18 (.q 19 (.q 20 (.q 21 (.q 22 (.q 23 (.q 24 (.q 25 (.q 26 (.q 27 (.q 28 (.q 29 (.q 30 (.q 31 .done)))))))))))))))))))))))))))))))) (by kernel_rfl) (by kernel_rfl) (by kernel_rfl) ?_
            simp only [siI_done, siI_q, sqI_some, mOk_none', implies_true, qI_nil, qI_cons, qI_guard, qgI_same, qgI_ft, thenQ_some, q_move, q_pick, q_load, q_binOp, q_fieldAddr, q_indexAddr, endI_mk, goI_out, goI_mk, slotAt_zero, slotAt_succ, pickV_true, pickV_false, eval_tmp, eval_const, put_some, aBin_sub, aBin_eql, aBin_gtr, absV_int, absV_bool, aField_eq, fieldGo_at, aLoad_eq, aPlace_at, List.getElem?_cons_zero, List.getElem?_cons_succ, Nat.reduceEqDiff, Nat.zero_le, List.drop_zero, true_and, if_true, if_false, ft_30_0, lt_2, f12, f13, e1, xb, xc, hwb, ldC0, e2]
            exact hid_mk ⟨rfl, f1, f5, f6, f9, f12, f13, rfl⟩
          · have hg2 := hgap (by simpa using e2)
            have e3 : decide (x.fr - y.to ≤ g) = false := decide_eq_false (by omega)
            refine SWp.drawnS none_ [] (.q 0 (.q 1 (.q 2 (.q 3 (.q 4 (.q 5 (.q 6 (.q 7 (.q 8 (.q 9 (.q 10 (.q 11 (.q 12 (.q 13 (.q 14 (.q 15 (.q 16 (.q 17 (.q 18 (.q 19 (.q 20 (.q 21 (.q 22 (.q 23 (.q 24 (.q 25 (.q 26 (.q 27 (.q 28 (.q 29 (.q 30 (.q 31 .done)))))))))))))))))))))))))))))))) (by kernel_rfl) (by kernel_rfl) (by kernel_rfl) ?_
            simp only [siI_done, siI_q, sqI_some, mOk_none', implies_true, qI_nil, qI_cons, qI_guard, qgI_same, thenQ_some, q_move, q_pick, q_load, q_binOp, q_fieldAddr, q_indexAddr, endI_mk, goI_out, goI_mk, slotAt_zero, slotAt_succ, pickV_true, eval_tmp, eval_const, put_some, aBin_sub, aBin_eql, aBin_leq, aBin_gtr, absV_int, absV_bool, aField_eq, fieldGo_at, aLoad_eq, loadGo_one, aPlace_at, List.getElem?_cons_zero, List.getElem?_cons_succ, Nat.reduceEqDiff, Nat.zero_le, List.drop_zero, true_and, if_true, if_false, ft_30_0, ft_30_1, ft_30_2, lt_2, f6, f12, f13, e1, xb, xc, hwb, ldC0, fdC1, fdC2, e2, hws, e3]
            exact hid_mk ⟨rfl, f1, f5, f6, f9, f12, f13, rfl⟩
      · clear f1 f5 f6 f9 f12 f13
        rintro f h4 ⟨f1, f5, f6, f9, f12, f13, f121⟩
        simp only [wpA_skip, wpA_region, wpA_seq, wpA_cond, wpA_block, wpA_loop, condI_false, seqQ_normal, goI_out, goI_ops, opsA_nil, opsA_cons, stepA_assign, eval_tmp, eval_const, absV_int, absV_bool, f121]
        refine SWp.loopG (α := Nat) (fun k f h' => f 1 = .imm ds.length (ds.flatMap dE) ∧ f 5 = .bool true ∧ f 6 = .int .i64 g ∧ f 9 = .int .i64 (t : Nat) ∧ f 12 = .imm l.length (l.flatMap chgE) ∧ f 13 = .int .i64 (b : Nat) ∧
            f 14 = .bool ((ds.take k).any fun d => d.key == x.key && d.time == x.fr) ∧ f 15 = .bool ((ds.take k).any fun d => d.key == x.key && d.time == x.to) ∧ f 16 = .int .i64 (k : Nat) ∧ k ≤ t) (fun k => t - k) 0
          ⟨f1, f5, f6, f9, f12, f13, rfl, rfl, rfl, Nat.zero_le _⟩ ?_
        clear f1 f5 f6 f9 f12 f13 f121
        rintro k f h5 ⟨f1, f5, f6, f9, f12, f13, f14, f15, f16, hk⟩
        refine wpI_sound (by kernel_rfl) ?_
        by_cases hkt : k < t
        · have e1 : decide ((k : Int) < ((t : Nat) : Int)) = true := decide_eq_true (by omega)
          have hkd : k < ds.length := by omega
          have hwk := inc64w hkt (by omega)
          obtain ⟨rr, xk⟩ := deed_ix hkd
          have a1 := any_succ (fun d => d.key == x.key && d.time == x.fr) hkd
          have a2 := any_succ (fun d => d.key == x.key && d.time == x.to) hkd
          generalize ds[k] = d at xk a1 a2
          generalize ((ds.take k).any fun d => d.key == x.key && d.time == x.fr) = p1 at f14 a1
          generalize ((ds.take k).any fun d => d.key == x.key && d.time == x.to) = p2 at f15 a2
          simp only [wpA_skip, wpA_region, wpA_seq, wpA_cond, wpA_block, wpA_draw, condI_true, seqQ_normal, goI_out, goI_ops, opsA_nil, opsA_cons, stepA_move, stepA_binOp, thenV_some, eval_tmp, put_some, aBin_lss, Nat.reduceEqDiff, if_true, if_false, f9, f16, e1]
          refine SWp.cut (fun f h3 => f 1 = .imm ds.length (ds.flatMap dE) ∧ f 5 = .bool true ∧ f 6 = .int .i64 g ∧ f 9 = .int .i64 (t : Nat) ∧ f 12 = .imm l.length (l.flatMap chgE) ∧ f 13 = .int .i64 (b : Nat) ∧
            f 14 = .bool (p1 || (d.key == x.key && d.time == x.fr)) ∧ f 15 = .bool p2 ∧ f 16 = .int .i64 (k : Nat)) ?_ ?_
          · cases p1
            · cases e2 : (d.key == x.key)
              · refine SWp.drawnS none_ [] (.q 0 (.q 1 (.q 2 (.q 3 (.q 4 (.q 5 (.q 6 (.q 7 (.q 8 (.q 9 (.q 10 (.q 11 (.q 12 (.q 13 (.q 14 (.q 15 (.q 16 (.q 17 (.q 18 (.q 19 (.q 20 (.q 21 (.q 22 (.q 23 (.q 24 (.q 25 (.q 26 (.q 27 .done)))))))))))))))))))))))))))) (by kernel_rfl) (by kernel_rfl) (by kernel_rfl) ?_
                simp only [siI_done, siI_q, sqI_some, mOk_none', implies_true, qI_nil, qI_cons, qI_guard, qgI_same, qgI_ft, thenQ_some, q_move, q_assign, q_pick, q_load, q_binOp, q_fieldAddr, q_indexAddr, endI_mk, goI_out, goI_mk, slotAt_zero, slotAt_succ, pickV_false, eval_tmp, eval_const, put_some, aBin_eql, absV_bool, aField_eq, fieldGo_at, aLoad_eq, loadGo_one, aPlace_at, List.getElem?_cons_zero, List.getElem?_cons_succ, Nat.reduceEqDiff, Nat.zero_le, List.drop_zero, true_and, if_true, if_false, ft_30_0, ft_32_1, lt_2, f1, f12, f13, f14, f16, xk, xb, fdE1, ldC0, e2]
                exact hid_mk ⟨rfl, f1, f5, f6, f9, f12, f13, rfl, f15, f16⟩
              · refine SWp.drawnS none_ [] (.q 0 (.q 1 (.q 2 (.q 3 (.q 4 (.q 5 (.q 6 (.q 7 (.q 8 (.q 9 (.q 10 (.q 11 (.q 12 (.q 13 (.q 14 (.q 15 (.q 16 (.q 17 (.q 18 (.q 19 (.q 20 (.q 21 (.q 22 (.q 23 (.q 24 (.q 25 (.q 26 (.q 27 .done)))))))))))))))))))))))))))) (by kernel_rfl) (by kernel_rfl) (by kernel_rfl) ?_
                simp only [siI_done, siI_q, sqI_some, mOk_none', implies_true, qI_nil, qI_cons, qI_guard, qgI_same, thenQ_some, q_move, q_assign, q_pick, q_load, q_binOp, q_fieldAddr, q_indexAddr, endI_mk, goI_out, goI_mk, slotAt_zero, slotAt_succ, pickV_true, pickV_false, eval_tmp, eval_const, put_some, aBin_eql, absV_bool, aField_eq, fieldGo_at, aLoad_eq, loadGo_one, aPlace_at, List.getElem?_cons_zero, List.getElem?_cons_succ, Nat.reduceEqDiff, Nat.zero_le, List.drop_zero, true_and, if_true, if_false, ft_30_0, ft_30_1, ft_32_1, ft_32_2, lt_2, f1, f12, f13, f14, f16, xk, xb, fdE1, fdE2, ldC0, fdC1, e2]
                exact hid_mk ⟨rfl, f1, f5, f6, f9, f12, f13, by rw [Bool.false_or, Bool.true_and]; rfl, f15, f16⟩
            · refine SWp.drawnS none_ [] (.q 0 (.q 1 (.q 2 (.q 3 (.q 4 (.q 5 (.q 6 (.q 7 (.q 8 (.q 9 (.q 10 (.q 11 (.q 12 (.q 13 (.q 14 (.q 15 (.q 16 (.q 17 (.q 18 (.q 19 (.q 20 (.q 21 (.q 22 (.q 23 (.q 24 (.q 25 (.q 26 (.q 27 .done)))))))))))))))))))))))))))) (by kernel_rfl) (by kernel_rfl) (by kernel_rfl) ?_
              simp only [siI_done, siI_q, sqI_some, mOk_none', implies_true, qI_nil, qI_cons, qI_guard, qgI_tf, qgI_u, thenQ_some, q_move, q_assign, q_pick, endI_mk, goI_out, goI_mk, slotAt_zero, slotAt_succ, pickV_true, eval_tmp, eval_const, put_some, absV_bool, List.getElem?_cons_zero, List.getElem?_cons_succ, Nat.reduceEqDiff, true_and, if_true, if_false, f14]
              exact hid_mk ⟨rfl, f1, f5, f6, f9, f12, f13, rfl, f15, f16⟩
          · clear f1 f5 f6 f9 f12 f13 f14 f15 f16
            rintro f h6 ⟨f1, f5, f6, f9, f12, f13, f14, f15, f16⟩
            rw [← a1] at f14
            simp only [wpA_draw, seqQ_normal]
            refine SWp.cut (fun f h3 => f 1 = .imm ds.length (ds.flatMap dE) ∧ f 5 = .bool true ∧ f 6 = .int .i64 g ∧ f 9 = .int .i64 (t : Nat) ∧ f 12 = .imm l.length (l.flatMap chgE) ∧ f 13 = .int .i64 (b : Nat) ∧
              f 14 = .bool ((ds.take (k + 1)).any fun d => d.key == x.key && d.time == x.fr) ∧ f 15 = .bool (p2 || (d.key == x.key && d.time == x.to)) ∧ f 16 = .int .i64 (k : Nat)) ?_ ?_
            · cases p2
              · cases e2 : (d.key == x.key)
                · refine SWp.drawnS none_ [] (.q 0 (.q 1 (.q 2 (.q 3 (.q 4 (.q 5 (.q 6 (.q 7 (.q 8 (.q 9 (.q 10 (.q 11 (.q 12 (.q 13 (.q 14 (.q 15 (.q 16 (.q 17 (.q 18 (.q 19 (.q 20 (.q 21 (.q 22 (.q 23 (.q 24 (.q 25 (.q 26 (.q 27 .done)))))))))))))))))))))))))))) (by kernel_rfl) (by kernel_rfl) (by kernel_rfl) ?_
                  simp only [siI_done, siI_q, sqI_some, mOk_none', implies_true, qI_nil, qI_cons, qI_guard, qgI_same, qgI_ft, thenQ_some, q_move, q_assign, q_pick, q_load, q_binOp, q_fieldAddr, q_indexAddr, endI_mk, goI_out, goI_mk, slotAt_zero, slotAt_succ, pickV_false, eval_tmp, eval_const, put_some, aBin_eql, absV_bool, aField_eq, fieldGo_at, aLoad_eq, loadGo_one, aPlace_at, List.getElem?_cons_zero, List.getElem?_cons_succ, Nat.reduceEqDiff, Nat.zero_le, List.drop_zero, true_and, if_true, if_false, ft_30_0, ft_32_1, lt_2, f1, f12, f13, f15, f16, xk, xb, fdE1, ldC0, e2]
                  exact hid_mk ⟨rfl, f1, f5, f6, f9, f12, f13, f14, rfl, f16⟩
                · refine SWp.drawnS none_ [] (.q 0 (.q 1 (.q 2 (.q 3 (.q 4 (.q 5 (.q 6 (.q 7 (.q 8 (.q 9 (.q 10 (.q 11 (.q 12 (.q 13 (.q 14 (.q 15 (.q 16 (.q 17 (.q 18 (.q 19 (.q 20 (.q 21 (.q 22 (.q 23 (.q 24 (.q 25 (.q 26 (.q 27 .done)))))))))))))))))))))))))))) (by kernel_rfl) (by kernel_rfl) (by kernel_rfl) ?_
                  simp only [siI_done, siI_q, sqI_some, mOk_none', implies_true, qI_nil, qI_cons, qI_guard, qgI_same, thenQ_some, q_move, q_assign, q_pick, q_load, q_binOp, q_fieldAddr, q_indexAddr, endI_mk, goI_out, goI_mk, slotAt_zero, slotAt_succ, pickV_true, pickV_false, eval_tmp, eval_const, put_some, aBin_eql, absV_bool, aField_eq, fieldGo_at, aLoad_eq, loadGo_one, aPlace_at, List.getElem?_cons_zero, List.getElem?_cons_succ, Nat.reduceEqDiff, Nat.zero_le, List.drop_zero, true_and, if_true, if_false, ft_30_0, ft_30_2, ft_32_1, ft_32_2, lt_2, f1, f12, f13, f15, f16, xk, xb, fdE1, fdE2, ldC0, fdC2, e2]
                  exact hid_mk ⟨rfl, f1, f5, f6, f9, f12, f13, f14, by rw [Bool.false_or, Bool.true_and]; rfl, f16⟩
              · refine SWp.drawnS none_ [] (.q 0 (.q 1 (.q 2 (.q 3 (.q 4 (.q 5 (.q 6 (.q 7 (.q 8 (.q 9 (.q 10 (.q 11 (.q 12 (.q 13 (.q 14 (.q 15 (.q 16 (.q 17 (.q 18 (.q 19 (.q 20 (.q 21 (.q 22 (.q 23 (.q 24 (.q 25 (.q 26 (.q 27 .done)))))))))))))))))))))))))))) (by kernel_rfl) (by kernel_rfl) (by kernel_rfl) ?_
                simp only [siI_done, siI_q, sqI_some, mOk_none', implies_true, qI_nil, qI_cons, qI_guard, qgI_tf, qgI_u, thenQ_some, q_move, q_assign, q_pick, endI_mk, goI_out, goI_mk, slotAt_zero, slotAt_succ, pickV_true, eval_tmp, eval_const, put_some, absV_bool, List.getElem?_cons_zero, List.getElem?_cons_succ, Nat.reduceEqDiff, true_and, if_true, if_false, f15]
                exact hid_mk ⟨rfl, f1, f5, f6, f9, f12, f13, f14, rfl, f16⟩
            · clear f1 f5 f6 f9 f12 f13 f14 f15 f16
              rintro f h7 ⟨f1, f5, f6, f9, f12, f13, f14, f15, f16⟩
              rw [← a2] at f15
              simp only [wpA_region, seqQ_normal, blkQ_normal, endI_mk, andThen_normal, goI_out, goI_ops, opsA_nil, opsA_cons, stepA_move, stepA_assign, stepA_binOp, thenV_some, eval_tmp, eval_const, put_some, aBin_add, absV_int, Nat.reduceEqDiff, if_true, if_false, f16, hwk]
              exact hid_mk ⟨k + 1, ⟨f1, f5, f6, f9, f12, f13, f14, f15, rfl, hkt⟩, by omega⟩
        · have e1 : decide ((k : Int) < ((t : Nat) : Int)) = false := decide_eq_false (by omega)
          have hkt' : k = t := by omega
          have a1 : ((ds.take k).any fun d => d.key == x.key && d.time == x.fr) = true := by
            obtain ⟨d, hd1, _, hd2, hd3⟩ := mem_pA.1 hfr
            rw [hkt']
            exact List.any_eq_true.2 ⟨d, hd1, by simp only at hd2 hd3; simp [hd2, hd3]⟩
          have a2 : ((ds.take k).any fun d => d.key == x.key && d.time == x.to) = true := by
            obtain ⟨d, hd1, _, hd2, hd3⟩ := mem_pA.1 hto
            rw [hkt']
            exact List.any_eq_true.2 ⟨d, hd1, by simp only at hd2 hd3; simp [hd2, hd3]⟩
          rw [a1] at f14
          rw [a2] at f15
          simp only [wpA_skip, wpA_region, wpA_seq, wpA_cond, wpA_block, wpA_exit, wpA_loop, condI_false, seqQ_normal, seqQ_exit, blkQ_normal, blkQ_exit, endI_mk, goE, andThen_normal, andThen_exit, goI_out, goI_ops, opsA_nil, opsA_cons, opsA_guardS, gvI_same, slotAt_zero, slotAt_succ, stepA_move, stepA_assign, stepA_pick, stepA_binOp, stepA_unOp, thenV_some, pickV_false, eval_tmp, eval_const, put_some, aBin_add, aBin_lss, aUn_not, absV_int, absV_bool, Nat.reduceEqDiff, if_true, if_false, Bool.not_true, f9, f13, f14, f15, f16, e1, hw]
          exact hid_mk ⟨b + 1, ⟨f1, f5, f6, f9, f12, rfl, hbl⟩, by omega⟩
    · have e0 : decide ((b : Int) < ((l.length : Nat) : Int)) = false := decide_eq_false (by omega)
      simp only [wpA_region, wpA_seq, wpA_cond, wpA_block, wpA_exit, wpA_loop, condI_false, seqQ_normal, seqQ_exit, blkQ_exit, endI_mk, goE, andThen_exit, goI_out, goI_ops, opsA_nil, opsA_cons, stepA_move, stepA_assign, stepA_binOp, stepA_len, thenV_some, eval_tmp, eval_const, put_some, aBin_lss, absV_int, aLen_imm, Nat.reduceEqDiff, if_true, if_false, kt_28, f12, f13, e0]
      refine SWp.loopG (α := Nat) (fun k f h' => f 1 = .imm ds.length (ds.flatMap dE) ∧ f 5 = .bool true ∧ f 9 = .int .i64 (t : Nat) ∧ f 12 = .imm l.length (l.flatMap chgE) ∧ f 17 = .int .i64 (k : Nat) ∧ k ≤ t) (fun k => t - k) 0
        ⟨f1, f5, f9, f12, rfl, Nat.zero_le _⟩ ?_
      clear f1 f5 f6 f9 f12 f13
      rintro k f h5 ⟨f1, f5, f9, f12, f17, hk⟩
      refine wpI_sound (by kernel_rfl) ?_
      by_cases hkt : k < t
      · have e1 : decide ((k : Int) < ((t : Nat) : Int)) = true := decide_eq_true (by omega)
        have hkd : k < ds.length := by omega
        have hwk := inc64w hkt (by omega)
        obtain ⟨rr, xk⟩ := deed_ix hkd
        have hdm : ds[k] ∈ ds.take t := by
          rw [List.mem_take_iff_getElem]
          exact ⟨k, by omega, rfl⟩
        have hcnt := gd.count hg0 hdm
        generalize ds[k] = d at xk hcnt
        simp only [wpA_skip, wpA_region, wpA_seq, wpA_cond, wpA_block, wpA_loop, condI_true, seqQ_normal, goI_out, goI_ops, opsA_nil, opsA_cons, stepA_move, stepA_assign, stepA_binOp, thenV_some, eval_tmp, eval_const, put_some, aBin_lss, absV_int, Nat.reduceEqDiff, if_true, if_false, f9, f17, e1]
        refine SWp.loopG (α := Nat) (fun q f h' => f 1 = .imm ds.length (ds.flatMap dE) ∧ f 5 = .bool true ∧ f 9 = .int .i64 (t : Nat) ∧ f 12 = .imm l.length (l.flatMap chgE) ∧ f 17 = .int .i64 (k : Nat) ∧ f 18 = .int .i64 (((l.take q).filter (cv d)).length : Nat) ∧ f 19 = .int .i64 (q : Nat) ∧ q ≤ l.length) (fun q => l.length - q) 0
          ⟨f1, f5, f9, f12, f17, rfl, rfl, Nat.zero_le _⟩ ?_
        clear f1 f5 f9 f12 f17
        rintro q f h6 ⟨f1, f5, f9, f12, f17, f18, f19, hq⟩
        refine wpI_sound (by kernel_rfl) ?_
        by_cases hql : q < l.length
        · have e2 : decide ((q : Int) < ((l.length : Nat) : Int)) = true := decide_eq_true (by omega)
          have hwq := inc64 hql (by omega)
          have xq := chg_ix (kk := .i64) hql
          have hfs := filter_succ (cv d) hql
          have hfl : ((l.take q).filter (cv d)).length ≤ q := Nat.le_trans (List.length_filter_le ..) (by rw [List.length_take]; omega)
          generalize l[q] = x at xq hfs
          generalize ((l.take q).filter (cv d)).length = m at f18 hfs hfl
          have hwm : IntKind.i64.wrap ((m : Int) + 1) = ((m + 1 : Nat) : Int) := by rw [Go.IntWalk.i64_in _ (by omega)]; omega
          simp only [wpA_skip, wpA_region, wpA_seq, wpA_cond, wpA_block, wpA_draw, condI_true, seqQ_normal, goI_out, goI_ops, opsA_nil, opsA_cons, stepA_move, stepA_binOp, stepA_len, thenV_some, eval_tmp, put_some, aBin_lss, aLen_imm, Nat.reduceEqDiff, if_true, if_false, kt_28, f12, f19, e2]
          refine SWp.cut (fun f h3 => f 1 = .imm ds.length (ds.flatMap dE) ∧ f 5 = .bool true ∧ f 9 = .int .i64 (t : Nat) ∧ f 12 = .imm l.length (l.flatMap chgE) ∧ f 17 = .int .i64 (k : Nat) ∧ f 18 = .int .i64 (m : Nat) ∧ f 19 = .int .i64 (q : Nat) ∧ f 234 = .bool (cv d x)) ?_ ?_
          · cases c1 : (x.key == d.key)
            · have hc : cv d x = false := by
                cases e : cv d x
                · rfl
                · have := (cv_iff.1 e).1; simp at c1; omega
              refine SWp.drawnS none_ [] (.q 0 (.q 1 (.q 2 (.q 3 (.q 4 (.q 5 (.q 6 (.q 7 (.q 8 (.q 9 (.q 10 (.q 11 (.q 12 (.q 13 (.q 14 (.q 15 (.q 16 (.q 17 (.q 18 (.q 19 (.q 20 (.q 21 (.q 22 (.q 23 (.q 24 (.q 25 (.q 26 (.q 27 (.q 28 (.q 29 (.q 30 (.q 31 (.q 32 (.q 33 (.q 34 (.q 35 (.q 36 .done))))))))))))))))))))))))))))))))))))) (by kernel_rfl) (by kernel_rfl) (by kernel_rfl) ?_
              simp only [siI_done, siI_q, sqI_some, mOk_none', implies_true, qI_nil, qI_cons, qI_guard, qgI_ft, thenQ_some, q_move, q_pick, q_load, q_binOp, q_fieldAddr, q_indexAddr, endI_mk, goI_out, goI_mk, slotAt_zero, slotAt_succ, pickV_false, eval_tmp, eval_const, put_some, aBin_eql, absV_bool, aField_eq, fieldGo_at, aLoad_eq, loadGo_one, aPlace_at, List.getElem?_cons_zero, List.getElem?_cons_succ, Nat.reduceEqDiff, Nat.zero_le, List.drop_zero, true_and, if_true, if_false, ft_30_0, ft_32_1, lt_2, f1, f12, f17, f19, xk, xq, fdE1, ldC0, c1]
              exact hid_mk ⟨rfl, f1, f5, f9, f12, f17, f18, f19, by rw [hc]; rfl⟩
            · cases c2 : decide (x.fr ≤ d.time)
              · have hc : cv d x = false := by
                  cases e : cv d x
                  · rfl
                  · have := (cv_iff.1 e).2.1; have := of_decide_eq_false c2; omega
                refine SWp.drawnS none_ [] (.q 0 (.q 1 (.q 2 (.q 3 (.q 4 (.q 5 (.q 6 (.q 7 (.q 8 (.q 9 (.q 10 (.q 11 (.q 12 (.q 13 (.q 14 (.q 15 (.q 16 (.q 17 (.q 18 (.q 19 (.q 20 (.q 21 (.q 22 (.q 23 (.q 24 (.q 25 (.q 26 (.q 27 (.q 28 (.q 29 (.q 30 (.q 31 (.q 32 (.q 33 (.q 34 (.q 35 (.q 36 .done))))))))))))))))))))))))))))))))))))) (by kernel_rfl) (by kernel_rfl) (by kernel_rfl) ?_
                simp only [siI_done, siI_q, sqI_some, mOk_none', implies_true, qI_nil, qI_cons, qI_guard, qgI_same, qgI_ft, thenQ_some, q_move, q_pick, q_load, q_binOp, q_fieldAddr, q_indexAddr, endI_mk, goI_out, goI_mk, slotAt_zero, slotAt_succ, pickV_true, pickV_false, eval_tmp, eval_const, put_some, aBin_eql, aBin_leq, absV_bool, aField_eq, fieldGo_at, aLoad_eq, loadGo_one, aPlace_at, List.getElem?_cons_zero, List.getElem?_cons_succ, Nat.reduceEqDiff, Nat.zero_le, List.drop_zero, true_and, if_true, if_false, ft_30_0, ft_30_1, ft_32_1, ft_32_2, lt_2, f1, f12, f17, f19, xk, xq, fdE1, fdE2, ldC0, fdC1, c1, c2]
                exact hid_mk ⟨rfl, f1, f5, f9, f12, f17, f18, f19, by rw [hc]; rfl⟩
              · have hc : cv d x = decide (d.time ≤ x.to) := by
                  have h1 : x.key = d.key := by simpa using c1
                  have h2 := of_decide_eq_true c2
                  unfold cv
                  refine decide_eq_decide.2 ⟨fun h => h.2.2, fun h => ⟨h1, h2, h⟩⟩
                refine SWp.drawnS none_ [] (.q 0 (.q 1 (.q 2 (.q 3 (.q 4 (.q 5 (.q 6 (.q 7 (.q 8 (.q 9 (.q 10 (.q 11 (.q 12 (.q 13 (.q 14 (.q 15 (.q 16 (.q 17 (.q 18 (.q 19 (.q 20 (.q 21 (.q 22 (.q 23 (.q 24 (.q 25 (.q 26 (.q 27 (.q 28 (.q 29 (.q 30 (.q 31 (.q 32 (.q 33 (.q 34 (.q 35 (.q 36 .done))))))))))))))))))))))))))))))))))))) (by kernel_rfl) (by kernel_rfl) (by kernel_rfl) ?_
                simp only [siI_done, siI_q, sqI_some, mOk_none', implies_true, qI_nil, qI_cons, qI_guard, qgI_same, thenQ_some, q_move, q_pick, q_load, q_binOp, q_fieldAddr, q_indexAddr, endI_mk, goI_out, goI_mk, slotAt_zero, slotAt_succ, pickV_true, eval_tmp, eval_const, put_some, aBin_eql, aBin_leq, absV_bool, aField_eq, fieldGo_at, aLoad_eq, loadGo_one, aPlace_at, List.getElem?_cons_zero, List.getElem?_cons_succ, Nat.reduceEqDiff, Nat.zero_le, List.drop_zero, true_and, if_true, if_false, ft_30_0, ft_30_1, ft_30_2, ft_32_1, ft_32_2, lt_2, f1, f12, f17, f19, xk, xq, fdE1, fdE2, ldC0, fdC1, fdC2, c1, c2]
                exact hid_mk ⟨rfl, f1, f5, f9, f12, f17, f18, f19, by rw [hc]; rfl⟩
          · clear f1 f5 f9 f12 f17 f18 f19
            rintro f h7 ⟨f1, f5, f9, f12, f17, f18, f19, f234⟩
            cases hc : cv d x
            · rw [hc] at f234 hfs
              simp only [Bool.false_eq_true, if_false, Nat.add_zero] at hfs
              simp only [wpA_skip, wpA_region, wpA_cond, condI_false, seqQ_normal, blkQ_normal, endI_mk, andThen_normal, goI_out, goI_ops, opsA_nil, opsA_cons, stepA_move, stepA_assign, stepA_binOp, thenV_some, eval_tmp, eval_const, put_some, aBin_add, absV_int, Nat.reduceEqDiff, if_true, if_false, f19, f234, hwq]
              exact hid_mk ⟨q + 1, ⟨f1, f5, f9, f12, f17, by rw [hfs]; exact f18, rfl, hql⟩, by omega⟩
            · rw [hc] at f234 hfs
              simp only [if_true] at hfs
              simp only [wpA_region, wpA_cond, condI_true, seqQ_normal, blkQ_normal, endI_mk, andThen_normal, goI_out, goI_ops, opsA_nil, opsA_cons, stepA_move, stepA_assign, stepA_binOp, thenV_some, eval_tmp, eval_const, put_some, aBin_add, absV_int, Nat.reduceEqDiff, if_true, if_false, f18, f19, f234, hwq, hwm]
              exact hid_mk ⟨q + 1, ⟨f1, f5, f9, f12, f17, by rw [hfs]; rfl, rfl, hql⟩, by omega⟩
        · have e2 : decide ((q : Int) < ((l.length : Nat) : Int)) = false := decide_eq_false (by omega)
          rw [List.take_of_length_le (by omega), hcnt] at f18
          cases c1 : decide (0 ≤ d.time)
          · have hm : mayT d.time = false := by unfold mayT; rw [c1]; rfl
            rw [hm] at f18
            have z1 : (((((if false = true then 1 else 0) : Nat)) : Int) == 1) = false := rfl
            have z2 : decide (1 < ((((if false = true then 1 else 0) : Nat)) : Int)) = false := rfl
            have f18' : f 18 = .int .i64 0 := f18
            have z1 : ((0 : Int) == 1) = false := rfl
            have z2 : decide ((1 : Int) < 0) = false := rfl
            simp only [wpA_skip, wpA_region, wpA_seq, wpA_cond, wpA_exit, wpA_ret, condI_false, seqQ_normal, seqQ_exit, blkQ_normal, blkQ_exit, endI_mk, goE, andThen_normal, andThen_exit, goI_out, goI_ops, opsA_nil, opsA_cons, opsA_guardS, gvI_same, gvI_ft, slotAt_zero, slotAt_succ, stepA_move, stepA_assign, stepA_pick, stepA_load, stepA_binOp, stepA_fieldAddr, stepA_indexAddr, stepA_len, thenV_some, pickV_false, eval_tmp, eval_const, put_some, aBin_add, aBin_eql, aBin_lss, aBin_gtr, aBin_geq, absV_int, absV_bool, aField_eq, fieldGo_at, aLoad_eq, loadGo_one, aPlace_at, aLen_imm, bne_self_eq_false, Int.reduceLT, decide_false, Nat.reduceEqDiff, if_true, if_false, ft_32_2, kt_28, lt_2, f1, f5, f12, f17, f18', f19, e2, xk, fdE2, c1, z1, hwk, aBin_bool_neq bt_4]
            exact hid_mk ⟨k + 1, ⟨f1, f5, f9, f12, rfl, hkt⟩, by omega⟩
          · cases c2 : decide (d.time ≤ 1099511627776)
            · have hm : mayT d.time = false := by unfold mayT; rw [c1, c2]; rfl
              rw [hm] at f18
              have f18' : f 18 = .int .i64 0 := f18
              have z1 : ((0 : Int) == 1) = false := rfl
              have z2 : decide ((1 : Int) < 0) = false := rfl
              simp only [wpA_skip, wpA_region, wpA_seq, wpA_cond, wpA_exit, wpA_ret, condI_false, seqQ_normal, seqQ_exit, blkQ_normal, blkQ_exit, endI_mk, goE, andThen_normal, andThen_exit, goI_out, goI_ops, opsA_nil, opsA_cons, opsA_guardS, gvI_same, slotAt_zero, slotAt_succ, stepA_move, stepA_assign, stepA_pick, stepA_load, stepA_binOp, stepA_fieldAddr, stepA_indexAddr, stepA_len, thenV_some, pickV_true, pickV_false, eval_tmp, eval_const, put_some, aBin_add, aBin_eql, aBin_lss, aBin_leq, aBin_gtr, aBin_geq, absV_int, absV_bool, aField_eq, fieldGo_at, aLoad_eq, loadGo_one, aPlace_at, aLen_imm, bne_self_eq_false, Int.reduceLT, decide_false, Nat.reduceEqDiff, if_true, if_false, ft_32_2, kt_28, lt_2, f1, f5, f12, f17, f18', f19, e2, xk, fdE2, c1, c2, z1, hwk, aBin_bool_neq bt_4]
              exact hid_mk ⟨k + 1, ⟨f1, f5, f9, f12, rfl, hkt⟩, by omega⟩
            · have hm : mayT d.time = true := by unfold mayT; rw [c1, c2]; rfl
              rw [hm] at f18
              have f18' : f 18 = .int .i64 1 := f18
              have z1 : ((1 : Int) == 1) = true := rfl
              have z2 : decide ((1 : Int) < 1) = false := rfl
              simp only [wpA_skip, wpA_region, wpA_seq, wpA_cond, wpA_exit, wpA_ret, condI_false, seqQ_normal, seqQ_exit, blkQ_normal, blkQ_exit, endI_mk, goE, andThen_normal, andThen_exit, goI_out, goI_ops, opsA_nil, opsA_cons, opsA_guardS, gvI_same, slotAt_zero, slotAt_succ, stepA_move, stepA_assign, stepA_pick, stepA_load, stepA_binOp, stepA_fieldAddr, stepA_indexAddr, stepA_len, thenV_some, pickV_true, pickV_false, eval_tmp, eval_const, put_some, aBin_add, aBin_eql, aBin_lss, aBin_leq, aBin_gtr, aBin_geq, absV_int, absV_bool, aField_eq, fieldGo_at, aLoad_eq, loadGo_one, aPlace_at, aLen_imm, bne_self_eq_false, beq_self_eq_true, Int.reduceLT, decide_false, Nat.reduceEqDiff, if_true, if_false, ft_32_2, kt_28, lt_2, f1, f5, f12, f17, f18', f19, e2, xk, fdE2, c1, c2, hwk, aBin_bool_neq bt_4]
              exact hid_mk ⟨k + 1, ⟨f1, f5, f9, f12, rfl, hkt⟩, by omega⟩
      · have e1 : decide ((k : Int) < ((t : Nat) : Int)) = false := decide_eq_false (by omega)
        simp only [wpA_region, wpA_seq, wpA_cond, wpA_exit, wpA_ret, condI_false, seqQ_normal, seqQ_exit, blkQ_exit, endI_mk, goE, andThen_exit, goI_out, goI_ops, opsA_nil, opsA_cons, stepA_move, stepA_assign, stepA_binOp, thenV_some, eval_tmp, put_some, aBin_lss, Nat.reduceEqDiff, if_true, if_false, f5, f9, f17, e1, retA_ret, Try.results4, resultsA_1]
        exact hid_mk rfl
end Go.Proofs.Ytjphnabogfiahaa.Pk
