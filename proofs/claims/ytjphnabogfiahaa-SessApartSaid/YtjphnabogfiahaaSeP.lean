/-
  What functions of the program do, told of abstract states. Conditions: as each theorem says.
-/
import Derived.Test.YtjphnabogfiahaaSeN
namespace Go.Proofs.Ytjphnabogfiahaa.Pk
open Go Go.Proofs Go.Proofs.Ytjphnabogfiahaa.Ab
set_option linter.unusedVariables false
set_option linter.unusedSimpArgs false
/-- Two stores that share nothing. -/
structure Apart (i : Nat) (v : V) (j : Nat) (u : V) : Prop where
  ne : i ≠ j
  vj : idOf v ≠ some j
  ui : idOf u ≠ some i
  vu : ∀ k, idOf v = some k → idOf u ≠ some k
theorem Apart.symm {i j : Nat} {v u : V} (a : Apart i v j u) : Apart j u i v := ⟨a.ne.symm, a.ui, a.vj, fun k hk hv => a.vu k hv hk⟩
theorem Apart.keep {h h' : AHeap} {i j : Nat} {v u : V} {room g : Int} {m : List Chg} (a : Apart i v j u) (k : IsSes h j u room g m) (hk : Keep h h' (sesO i v)) : IsSes h' j u room g m :=
  k.keep hk (fun hh => by
    rcases hh with hh | hh
    · exact a.ne hh.symm
    · exact a.vj hh) fun q hq hh => by
    rcases hh with hh | hh
    · exact a.ui (by rw [hq, hh])
    · exact a.vu q hh hq
theorem Apart.step {h : AHeap} {i j : Nat} {v v' u : V} {room g : Int} {m : List Chg} (a : Apart i v j u) (k : IsSes h j u room g m) (d : NewOr h v v') : Apart i v' j u := by
  rcases d with d | d
  · exact ⟨a.ne, by rw [d]; exact a.vj, a.ui, fun q hq => a.vu q (by rw [← d]; exact hq)⟩
  · exact ⟨a.ne, fun hh => by have := d j hh; have := k.lt; omega, a.ui, fun q hq hu => by have := d q hq; have := k.own.lt q hu; omega⟩
def u16V (l : List Int) : List V := l.map (V.int .u16)
theorem u16_ix {l : List Int} {k : Nat} (hk : k < l.length) : ∃ r, aIndexAddr Try.prog 40 (.imm l.length (u16V l)) (.int .i64 (k : Int)) = some (.at (.int .u16 l[k] :: r)) := ⟨_, row_ix (V.int .u16) hk ss_40⟩
def ptO (n : Int) : Int × Int := (n % 3, n)
def ptsO (l : List Int) : List (Int × Int) := (l.map ptO).reverse
theorem ptsO_succ {l : List Int} {t : Nat} (ht : t < l.length) : ptsO (l.take (t + 1)) = (l[t] % 3, l[t]) :: ptsO (l.take t) := by
  unfold ptsO
  rw [List.take_succ_eq_append_getElem ht, List.map_append, List.reverse_append]
  rfl
theorem val1_put {g : Int} {l : List Chg} {k t : Int} (h : ∀ x ∈ l, x.val = 1) : ∀ x ∈ putS g l k t 1, x.val = 1 := fun x hx => by
  rcases putS_mem.1 hx with rfl | hx
  · rfl
  · exact h x hx.1
set_option maxHeartbeats 4000000 in
set_option maxRecDepth 20000 in
theorem sessOrder (gap : Int) (ks : List Int) (s0 : 0 ≤ gap) (s1 : gap < 256) (hl : ks.length < 2 ^ 47) (h16 : ∀ n ∈ ks, 0 ≤ n ∧ n < 65536) (h : AHeap) : SCalls Try.prog 5 [.int .u8 gap, .imm ks.length (u16V ks)] h (fun r h' => r = .bool true) := by
  refine SCalls.enterI (c := _) Try.func5 rfl (by kernel_rfl) (by simp) ?_
  simp only [wpA_region, wpA_seq, seqQ_normal, goI_out, goI_ops, opsA_nil, opsA_cons, stepA_assign, stepA_call, eval_const, absV_bool, List.map_nil]
  refine callI_pure cal8 (pShown14 h) ?_
  have w1 : IntKind.i64.wrap gap = gap := Go.IntWalk.i64_in _ (by omega)
  have w2 : IntKind.i64.wrap (1 + gap) = 1 + gap := Go.IntWalk.i64_in _ (by omega)
  simp only [wpA_region, wpA_seq, seqQ_normal, goI_out, goI_ops, opsA_nil, opsA_cons, stepA_move, stepA_assign, stepA_binOp, stepA_convert, stepA_call, thenV_some, thenC_some, eval_tmp, eval_const, put_some, enterF_zero, enterF_succ, aBin_add, aConv_int, absV_int, Option.some.injEq, Nat.reduceEqDiff, reduceCtorEq, List.map_cons, List.map_nil, if_true, if_false, it_2, it_5, w1, w2]
  refine callI_of cal9 (sesNew 1024 (1 + gap) (by decide) (by decide) (by omega) (by omega) h) fun r h1 ⟨e1, e2⟩ => ?_
  subst e1
  have k1 : IsSes h1 h.n .snil 1024 (1 + gap) [] := by rw [e2]; exact IsSes.new (by omega) (by omega)
  clear e2
  simp only [wpA_region, wpA_seq, seqQ_normal, goI_out, goI_ops, opsA_nil, opsA_cons, stepA_move, stepA_assign, stepA_binOp, stepA_convert, stepA_extract, stepA_call, thenV_some, thenC_some, extV_zero, extV_succ, eval_tmp, eval_const, put_some, enterF_zero, enterF_succ, aBin_add, aConv_int, absV_int, Option.some.injEq, Nat.reduceEqDiff, reduceCtorEq, List.map_cons, List.map_nil, if_true, if_false, it_2, it_5, w1, w2]
  refine callI_of cal9 (sesNew 1024 (1 + gap) (by decide) (by decide) (by omega) (by omega) h1) fun r h2 ⟨e1, e2⟩ => ?_
  subst e1
  have k2 : IsSes h2 h1.n .snil 1024 (1 + gap) [] := by rw [e2]; exact IsSes.new (by omega) (by omega)
  have kp : Keep h1 h2 none_ := by rw [e2]; exact Keep.push _ _ _
  have k1' := k1.keepN kp
  have ap : Apart h.n .snil h1.n .snil := ⟨by have := k1.lt; omega, by simp [idOf], by simp [idOf], by simp [idOf]⟩
  have n1 : aBin Try.prog .eql 24 (.tmp 37) (.const (.pointer none)) (.ptr h.n 0) .pnil = some (.bool false) := ptr_nil_eql kt_24
  clear e2
  simp only [wpA_skip, wpA_region, wpA_seq, wpA_cond, condI_false, seqQ_normal, goI_out, goI_ops, opsA_nil, opsA_cons, opsA_guardS, gvI_same, slotAt_zero, slotAt_succ, stepA_move, stepA_assign, stepA_pick, stepA_binOp, stepA_extract, stepA_len, thenV_some, pickV_false, extV_zero, extV_succ, eval_tmp, eval_const, put_some, enterF_zero, enterF_succ, aBin_neq, aBin_gtr, ptr_nil_eql, absV_int, absV_bool, absV_pnil, aLen_imm, bne_self_eq_false, Nat.reduceEqDiff, if_true, if_false, kt_24, kt_40]
  generalize h.n = i at k1' ap
  generalize h1.n = j at k2 ap
  clear k1 kp
  have hg0 : 1 ≤ 1 + gap := by omega
  generalize 1 + gap = g at k1' k2 hg0
  have hcut : ∃ m : List Int, m = ks.take 200 := ⟨_, rfl⟩
  obtain ⟨m, hm⟩ := hcut
  have hml : m.length ≤ 200 := by rw [hm, List.length_take]; omega
  have hm16 : ∀ n ∈ m, 0 ≤ n ∧ n < 65536 := fun n hn => h16 n (by rw [hm] at hn; exact List.mem_of_mem_take hn)
  have hor : ((200 < ks.length) ∨ (¬ 200 < ks.length ∧ ks = m)) := by
    by_cases hc : 200 < ks.length
    · exact .inl hc
    · exact .inr ⟨hc, by rw [hm, List.take_of_length_le (by omega)]⟩
  rcases hor with hc | ⟨hc, hkm⟩
  all_goals
    first
    | (have d1 : decide ((200 : Int) < ((ks.length : Nat) : Int)) = true := decide_eq_true (by omega)
       have s1 : aSlice Try.prog 40 (.imm ks.length (u16V ks)) none (some (.int .i64 200)) none = some (.imm m.length (u16V m)) := by
        have := slice_imm_hi (P := Try.prog) (t := 40) (n := ks.length) (cs := u16V ks) (k := .i64) (m := 200) ss_40 (by decide) (by omega) (by simp [u16V])
        rw [this, hm]
        simp [u16V]
        omega
       simp only [wpA_region, wpA_seq, wpA_block, wpA_loop, condI_true, seqQ_normal, goI_out, goI_ops, opsA_nil, opsA_cons, stepA_move, stepA_assign, stepA_slice, thenV_some, eval_tmp, eval_const, put_some, enterF_succ, absV_int, Nat.reduceEqDiff, Option.map_some, Option.map_none, if_true, if_false, d1, s1])
    | (have d1 : decide ((200 : Int) < ((ks.length : Nat) : Int)) = false := decide_eq_false (by omega)
       rw [hkm] at d1
       simp only [wpA_skip, wpA_region, wpA_seq, wpA_block, wpA_loop, condI_false, seqQ_normal, goI_out, goI_ops, opsA_nil, opsA_cons, stepA_assign, eval_const, absV_int, hkm, d1])
    refine SWp.loopG (α := Nat × V × List Chg × V × List Chg) (fun x f h' => f 5 = .bool true ∧ f 6 = .ptr i 0 ∧ f 8 = .ptr j 0 ∧ f 10 = .imm m.length (u16V m) ∧ f 11 = .int .i64 (x.1 : Nat) ∧ x.1 ≤ m.length ∧
        IsSes h' i x.2.1 1024 g x.2.2.1 ∧ IsSes h' j x.2.2.2.1 1024 g x.2.2.2.2 ∧ Apart i x.2.1 j x.2.2.2.1 ∧ x.2.2.1.length ≤ x.1 ∧ x.2.2.2.2.length ≤ x.1 ∧
        Good g x.2.2.1 (ptsO (m.take x.1)) ∧ Good g x.2.2.2.2 (ptsO (m.reverse.take x.1)) ∧ (∀ y ∈ x.2.2.1, y.val = 1) ∧ (∀ y ∈ x.2.2.2.2, y.val = 1)) (fun x => m.length - x.1) (0, .snil, [], .snil, [])
      ⟨rfl, rfl, rfl, rfl, rfl, Nat.zero_le _, k1', k2, ap, Nat.zero_le _, Nat.zero_le _, by simp only [List.take_zero]; exact Good.nil g, by simp only [List.take_zero]; exact Good.nil g, by simp, by simp⟩ ?_
    rintro ⟨t, v, a, u, b⟩ f h' ⟨f5, f6, f8, f10, f11, ht, ka, kb, apt, la, lb, ga, gb, va, vb⟩
    simp only at f11 ht ka kb apt la lb ga gb va vb
    refine wpI_sound (by kernel_rfl) ?_
    by_cases hlt : t < m.length
    · have d2 : decide ((t : Int) < ((m.length : Nat) : Int)) = true := decide_eq_true (by omega)
      have hw := inc64 hlt (by omega)
      have w1 : IntKind.i64.wrap (((m.length : Nat) : Int) - 1) = ((m.length - 1 : Nat) : Int) := by rw [Go.IntWalk.i64_in _ (by omega)]; omega
      have w2 : IntKind.i64.wrap (((m.length - 1 : Nat) : Int) - (t : Int)) = ((m.length - 1 - t : Nat) : Int) := by rw [Go.IntWalk.i64_in _ (by omega)]; omega
      obtain ⟨r1, x1⟩ := u16_ix hlt
      obtain ⟨r2, x2⟩ := u16_ix (l := m) (k := m.length - 1 - t) (by omega)
      have g1 := ptsO_succ hlt
      have g2 := ptsO_succ (l := m.reverse) (t := t) (by rw [List.length_reverse]; exact hlt)
      rw [List.getElem_reverse] at g2
      have q1 := hm16 _ (List.getElem_mem hlt)
      have q2 := hm16 _ (List.getElem_mem (show m.length - 1 - t < m.length by omega))
      generalize m[t] = y1 at x1 g1 q1
      generalize m[m.length - 1 - t] = y2 at x2 g2 q2
      have c1 : IntKind.i64.wrap y1 = y1 := Go.IntWalk.i64_in _ (by omega)
      have c2 : IntKind.i64.wrap y2 = y2 := Go.IntWalk.i64_in _ (by omega)
      have m1 : y1.tmod 3 = y1 % 3 := Int.tmod_eq_emod_of_nonneg q1.1
      have m2 : y2.tmod 3 = y2 % 3 := Int.tmod_eq_emod_of_nonneg q2.1
      have c3 : IntKind.i64.wrap (y1 % 3) = y1 % 3 := Go.IntWalk.i64_in _ (by omega)
      have c4 : IntKind.i64.wrap (y2 % 3) = y2 % 3 := Go.IntWalk.i64_in _ (by omega)
      have t1 : mayT y1 = true := mayT_iff.2 ⟨q1.1, by omega⟩
      have t2 : mayT y2 = true := mayT_iff.2 ⟨q2.1, by omega⟩
      simp only [wpA_skip, wpA_region, wpA_seq, wpA_cond, wpA_block, wpA_draw, condI_true, seqQ_normal, goI_out, goI_ops, opsA_nil, opsA_cons, stepA_move, stepA_binOp, stepA_len, thenV_some, eval_tmp, put_some, aBin_lss, aLen_imm, Nat.reduceEqDiff, if_true, if_false, kt_40, f10, f11, d2]
      refine SWp.drawnS none_ [12] (.q 0 (.q 1 (.q 2 (.q 3 (.q 4 (.q 5 (.q 6 (.q 7 (.q 8 (.q 9 (.q 10 (.q 11 (.a 12 .done))))))))))))) (by kernel_rfl) (by kernel_rfl) (by kernel_rfl) ?_
      simp only [siI_q, siI_a, sqI_some, saI_some, mOk_none', implies_true, qI_nil, qI_cons, thenQ_some, q_move, q_load, q_binOp, q_convert, q_indexAddr, goI_mk, opsA_cons, stepA_call, eval_tmp, eval_const, put_some, absV_int, aLoad_eq, loadGo_one, aPlace_at, List.getElem?_cons_zero, List.getElem?_cons_succ, Nat.reduceEqDiff, List.map_cons, List.map_nil, true_and, if_true, if_false, lt_41, f6, f10, f11, x1, aBin_rem (show (3 : Int) ≠ 0 by decide), m1, aConv_int it_41 it_2, c1, c3]
      refine callI_of cal11 (sesPut h' i v 1024 g (y1 % 3) y1 1 a t1 (by omega) (by omega) ka) fun r h3 ⟨v2, e3, k3, kp3, d3⟩ => ?_
      subst e3
      have kbb := apt.keep kb kp3
      have apt2 := apt.step kb d3
      have la2 := putS_len (g := g) ka.ss (y1 % 3) y1 1
      have ga2 := ga.put hg0 (k := y1 % 3) (t := y1) 1 q1.1 (by omega)
      rw [← g1] at ga2
      simp only [siI_done, wpA_region, wpA_seq, seqQ_normal, goI_out, goI_ops, goI_mk, opsA_nil, opsA_cons, stepA_move, stepA_assign, stepA_load, stepA_binOp, stepA_convert, stepA_indexAddr, stepA_len, stepA_call, thenV_some, thenC_some, eval_tmp, eval_const, put_some, aBin_sub, absV_int, aLoad_eq, loadGo_one, aPlace_at, aLen_imm, Nat.reduceEqDiff, List.map_cons, List.map_nil, if_true, if_false, kt_40, lt_41, f8, f10, f11, w1, w2, x2, aBin_rem (show (3 : Int) ≠ 0 by decide), m2, aConv_int it_41 it_2, c2, c4]
      refine callI_of cal11 (sesPut h3 j u 1024 g (y2 % 3) y2 1 b t2 (by omega) (by omega) kbb) fun r h4 ⟨u2, e4, k4, kp4, d4⟩ => ?_
      subst e4
      have kaa := apt2.symm.keep k3 kp4
      have apt3 := (apt2.symm.step k3 d4).symm
      have lb2 := putS_len (g := g) kb.ss (y2 % 3) y2 1
      have gb2 := gb.put hg0 (k := y2 % 3) (t := y2) 1 q2.1 (by omega)
      rw [← g2] at gb2
      simp only [wpA_region, seqQ_normal, blkQ_normal, endI_mk, andThen_normal, goI_out, goI_ops, opsA_nil, opsA_cons, stepA_move, stepA_assign, stepA_binOp, thenV_some, eval_tmp, eval_const, put_some, aBin_add, absV_int, Nat.reduceEqDiff, if_true, if_false, f11, hw]
      exact hid_mk ⟨(t + 1, v2, putS g a (y1 % 3) y1 1, u2, putS g b (y2 % 3) y2 1), ⟨f5, f6, f8, f10, rfl, hlt, kaa, k4, apt3, by simp only; omega, by simp only; omega, ga2, gb2, val1_put va, val1_put vb⟩, by simp only; omega⟩
    · have d2 : decide ((t : Int) < ((m.length : Nat) : Int)) = false := decide_eq_false (by omega)
      rw [List.take_of_length_le (by omega)] at ga
      rw [List.take_of_length_le (by rw [List.length_reverse]; omega)] at gb
      have hab : a = b := ga.unique hg0 gb (fun p => by unfold ptsO; simp) va vb
      subst hab
      simp only [wpA_region, wpA_seq, wpA_cond, wpA_exit, condI_false, seqQ_normal, seqQ_exit, blkQ_exit, endI_mk, goE, andThen_exit, goI_out, goI_ops, opsA_nil, opsA_cons, opsA_guardS, gvI_same, slotAt_zero, slotAt_succ, stepA_move, stepA_binOp, stepA_len, stepA_call, thenV_some, eval_tmp, put_some, aBin_lss, aLen_imm, Nat.reduceEqDiff, List.map_cons, List.map_nil, if_true, if_false, kt_40, f5, f6, f10, f11, d2]
      refine callI_pure cal14 (sesList _ _ _ _ _ _ ka) ?_
      simp only [goI_ops, opsA_guardS, gvI_same, slotAt_zero, slotAt_succ, stepA_move, stepA_call, eval_tmp, put_some, Nat.reduceEqDiff, List.map_cons, List.map_nil, if_true, if_false, f8]
      refine callI_pure cal14 (sesList _ _ _ _ _ _ kb) ?_
      simp only [goI_ops, opsA_guardS, gvI_same, slotAt_zero, slotAt_succ, stepA_call, eval_tmp, put_some, Nat.reduceEqDiff, List.map_cons, List.map_nil, if_true, if_false]
      refine callI_pure cal13 (pChgsEq a a _ (by omega)) ?_
      have de : decide (a = a) = true := decide_eq_true rfl
      simp only [wpA_ret, seqQ_normal, endI_mk, goI_out, goI_ops, opsA_nil, opsA_cons, stepA_assign, stepA_pick, thenV_some, pickV_true, eval_tmp, eval_const, put_some, absV_bool, decide_true, Nat.reduceEqDiff, if_true, if_false, retA_ret, Try.results5, resultsA_1]
      exact hid_mk rfl
end Go.Proofs.Ytjphnabogfiahaa.Pk
