/-
  What functions of the program do, told of abstract states. Conditions: as each theorem says.
-/
import Derived.Test.YtilgpaibolollaaGreatNd
namespace Go.Proofs.YtilgpaibolollaaGreat.Pk
open Go Go.Proofs Go.Proofs.YtilgpaibolollaaGreat.Ab
set_option maxRecDepth 10000
set_option linter.unusedVariables false
set_option linter.unusedSimpArgs false

/-- What a crash leaves of what wasn't safe. -/
def tornM (M : List Int) (turn : Int) : List Int := if 0 < M.length ∧ 0 ≤ turn ∧ turn < 8 then torn turn M else M
def leftM (m : List Int) (keep turn : Int) : List Int := tornM (m.take (max keep 0).toNat) turn
theorem torn_no {M : List Int} {turn : Int} (h : ¬ (0 < M.length ∧ 0 ≤ turn ∧ turn < 8)) : tornM M turn = M := if_neg h
theorem torn_yes {M : List Int} {turn : Int} (h : 0 < M.length ∧ 0 ≤ turn ∧ turn < 8) : tornM M turn = torn turn M := if_pos h
theorem pow_step : ∀ i : Nat, i < 7 → IntKind.u8.wrap (((2 ^ i : Nat) : Int) * 2) = ((2 ^ (i + 1) : Nat) : Int) := by decide
theorem pow_last : ∀ t : Nat, t < 8 → IntKind.u8.wrap (1 * 2 ^ (min t IntKind.u8.bits)) = ((2 ^ t : Nat) : Int) := by decide

set_option maxRecDepth 10000 in
theorem rCrash (room : Int) (s m : List Int) (keep turn : Int) (h : AHeap) (hs : s.length + m.length ≤ 2 ^ 40) :
    Pure Tryz.prog 19 [.agg (xE room s m), .int .i64 keep, .int .i64 turn] h (.agg (xE room (s ++ leftM m keep turn) [])) := by
  have sl : ∀ (l : List Int) (j : Nat), j ≤ l.length → aSlice Tryz.prog 29 (.imm l.length (bV l)) none (some (.int .i64 (j : Int))) none = some (.imm (l.take j).length (bV (l.take j))) := fun l j hj => by
    rw [slice_imm_hi ss_29 (by omega) (by omega) (by rw [bV_len, Nat.mul_one]), Int.toNat_natCast, List.length_take, Nat.min_eq_left hj, Nat.mul_one]
    unfold bV
    rw [List.map_take]
  refine Pure.of (Clo.agg (xE_clo _ _ _)) ?_
  have ax : ∀ (H : AHeap) (v : V) (M' : List Int), s.length + M'.length ≤ 2 ^ 40 → Own H 5 1 v (bV M') → (∀ j, idOf v = some j → h.n + 2 ≤ j) → Keep h H none_ → h.n + 2 ≤ H.n → H.get (h.n + 1) = .cells [.int .i64 0, .snil, .snil] 31 none →
      ∃ h3, CastL [.agg [.int .i64 room, .imm s.length (bV s), v]] H [.agg (xE room s M')] h3 ∧ h3.get (h.n + 1) = .cells [.int .i64 0, .snil, .snil] 31 none ∧ ∀ o, Keep h (h3.set (h.n + 1) o) none_ := fun H v M' hM o nw kH hn gB => by
    obtain ⟨h3, c3, k3⟩ := Cast.own o (n := M'.length) (by rw [bV_len, Nat.mul_one]) (by omega)
    have kk : Keep h h3 none_ := kH.trans k3 fun j hj hi => by have := nw j hi; omega
    refine ⟨h3, CastL.cons (Pk.Cast.agg (CastL.cons (Cast.refl _ _) (CastL.cons (Cast.refl _ _) (CastL.cons c3 (CastL.refl _ _))))) (CastL.refl _ _), (k3.get (h.n + 1) (by omega) (fun hi => by have := nw _ hi; omega)).trans gB, fun o => kk.setNew (by omega) o⟩
  refine SCalls.enterI (c := _) Tryz.func19 rfl (by kernel_rfl) (by simp) ?_
  by_cases hk : keep < 0
  · have c0 : decide (keep < 0) = true := by simp [hk]
    by_cases hm : 0 < m.length
    · have c1 : decide ((0 : Int) < ((m.length : Nat) : Int)) = true := by first | (simp only [decide_eq_true_eq]; omega) | (simp only [decide_eq_false_iff_not]; omega)
      have s1 : aSlice Tryz.prog 29 (.imm m.length (bV m)) none (some (.int .i64 0)) none = some (.imm (m.take 0).length (bV (m.take 0))) := sl m 0 (by omega)
      have hM : leftM m keep turn = tornM (m.take 0) turn := by unfold leftM; rw [show (max keep 0).toNat = 0 by omega]
      have hs : s.length + (m.take 0).length ≤ 2 ^ 40 := by rw [List.length_take]; omega
      generalize m.take 0 = M at *
      obtain ⟨v1, h1, q1, a1⟩ := (fresh1 ((h.push (.cells (xE room s (M)) 31 none)).push (.cells [.int .i64 0, .snil, .snil] 31 none))).appM (P := Tryz.prog) (tx := 29) (x := .imm (M).length (bV (M))) (n := (M).length) (news := bV (M)) sl_29 (by decide) (srcB (M) _) (by rw [bV_len]; exact (Nat.mul_one _).symm) (fun k hk => by
        have hk' : k * 1 = 0 + (bV (M)).length := hk
        rw [bV_len] at hk'
        show k * 1 ≤ lim ∧ k ≤ lim
        unfold lim
        omega)
      rw [push_n, push_n] at q1
      have a1 := a1.conv (List.nil_append _)
      have n1 := a1.keep.n
      simp only [push_n] at n1
      have g1 : h1.get h.n = .cells (xE room s (M)) 31 none := (a1.keep.get h.n (by simp only [push_n]; omega) (by simp [none_])).trans (get_p2 _ _ _)
      have g1' : h1.get (h.n + 1) = .cells [.int .i64 0, .snil, .snil] 31 none := (a1.keep.get (h.n + 1) (by simp only [push_n]; omega) (by simp [none_])).trans (by rw [← push_n (h := h), get_push_new])
      obtain ⟨hv1, hv2⟩ := one_of_own a1.own
      have nw : ∀ j, idOf v1 = some j → h.n + 2 ≤ j := fun j hj => by have := a1.new j hj; simp only [push_n] at this; omega
      unfold xE at q1 g1
      generalize hH : h1.set h.n (.cells [.int .i64 room, .imm s.length (bV s), v1] 31 none) = H
      have hX : H.get h.n = .cells [.int .i64 room, .imm s.length (bV s), v1] 31 none := by rw [← hH, get_set_same]
      have gB : H.get (h.n + 1) = .cells [.int .i64 0, .snil, .snil] 31 none := by rw [← hH, get_set_ne (by omega)]; exact g1'
      have hn : h.n + 2 ≤ H.n := by rw [← hH]; exact n1
      have kH : Keep h H none_ := by rw [← hH]; exact (((Keep.push _ _ _).then_push _).trans' a1.keep).setNew (Nat.le_refl _) _
      have oH : Own H 5 1 v1 (bV (M)) := by rw [← hH]; exact a1.own.keep (Keep.set _ _ _) fun k hk => by have := nw k hk; omega
      have hlen := oH.length (by omega) Tryz.prog kt_29
      rw [bV_len, Nat.div_one] at hlen
      skip
      by_cases d1 : 0 < (M).length
      rotate_left
      · have e1 : decide ((0 : Int) < (((M).length : Nat) : Int)) = false := by first | (simp only [decide_eq_true_eq]; omega) | (simp only [decide_eq_false_iff_not]; omega)
        simp only [bW, Nat.reduceEqDiff, Nat.reduceAdd, Nat.reduceLeDiff, ft_31_2, kt_29, lt_29, lt_31, zc_31, zt_29, xE, c0, c1, s1, app0, q1, g1, hv1, hv2, hH, hX, hlen, e1]
        obtain ⟨h3, c3, gB3, kF⟩ := ax _ v1 (M) (by first | (rw [torn, List.length_set]; omega) | omega) oH nw kH (by omega) gB
        refine callI_of cal61 (SCalls.args c3 (rSync room s (M) (by first | (rw [torn, List.length_set]; omega) | omega) h3)) fun r h4 ⟨e1, e2⟩ => ?_
        subst e1 e2
        simp only [bW, Nat.reduceEqDiff, Nat.reduceAdd, lt_31, zt_31, gB3, xE, retA_ret, Tryz.results19, resultsC_1, resultA_cell]
        exact hid_mk ⟨_, by rw [hM, torn_no (by omega)]; exact Cast.refl _ _, kF _⟩
      by_cases d2 : 0 ≤ turn
      rotate_left
      · have e1 : decide ((0 : Int) < (((M).length : Nat) : Int)) = true := by first | (simp only [decide_eq_true_eq]; omega) | (simp only [decide_eq_false_iff_not]; omega)
        have e2 : decide ((0 : Int) ≤ turn) = false := by first | (simp only [decide_eq_true_eq]; omega) | (simp only [decide_eq_false_iff_not]; omega)
        simp only [bW, Nat.reduceEqDiff, Nat.reduceAdd, Nat.reduceLeDiff, ft_31_2, kt_29, lt_29, lt_31, zc_31, zt_29, xE, c0, c1, s1, app0, q1, g1, hv1, hv2, hH, hX, hlen, e1, e2]
        obtain ⟨h3, c3, gB3, kF⟩ := ax _ v1 (M) (by first | (rw [torn, List.length_set]; omega) | omega) oH nw kH (by omega) gB
        refine callI_of cal61 (SCalls.args c3 (rSync room s (M) (by first | (rw [torn, List.length_set]; omega) | omega) h3)) fun r h4 ⟨e1, e2⟩ => ?_
        subst e1 e2
        simp only [bW, Nat.reduceEqDiff, Nat.reduceAdd, lt_31, zt_31, gB3, xE, retA_ret, Tryz.results19, resultsC_1, resultA_cell]
        exact hid_mk ⟨_, by rw [hM, torn_no (by omega)]; exact Cast.refl _ _, kF _⟩
      by_cases d3 : turn < 8
      rotate_left
      · have e1 : decide ((0 : Int) < (((M).length : Nat) : Int)) = true := by first | (simp only [decide_eq_true_eq]; omega) | (simp only [decide_eq_false_iff_not]; omega)
        have e2 : decide ((0 : Int) ≤ turn) = true := by first | (simp only [decide_eq_true_eq]; omega) | (simp only [decide_eq_false_iff_not]; omega)
        have e3 : decide (turn < 8) = false := by first | (simp only [decide_eq_true_eq]; omega) | (simp only [decide_eq_false_iff_not]; omega)
        simp only [bW, Nat.reduceEqDiff, Nat.reduceAdd, Nat.reduceLeDiff, ft_31_2, kt_29, lt_29, lt_31, zc_31, zt_29, xE, c0, c1, s1, app0, q1, g1, hv1, hv2, hH, hX, hlen, e1, e2, e3]
        obtain ⟨h3, c3, gB3, kF⟩ := ax _ v1 (M) (by first | (rw [torn, List.length_set]; omega) | omega) oH nw kH (by omega) gB
        refine callI_of cal61 (SCalls.args c3 (rSync room s (M) (by first | (rw [torn, List.length_set]; omega) | omega) h3)) fun r h4 ⟨e1, e2⟩ => ?_
        subst e1 e2
        simp only [bW, Nat.reduceEqDiff, Nat.reduceAdd, lt_31, zt_31, gB3, xE, retA_ret, Tryz.results19, resultsC_1, resultA_cell]
        exact hid_mk ⟨_, by rw [hM, torn_no (by omega)]; exact Cast.refl _ _, kF _⟩
      have e1 : decide ((0 : Int) < (((M).length : Nat) : Int)) = true := by first | (simp only [decide_eq_true_eq]; omega) | (simp only [decide_eq_false_iff_not]; omega)
      have e2 : decide ((0 : Int) ≤ turn) = true := by first | (simp only [decide_eq_true_eq]; omega) | (simp only [decide_eq_false_iff_not]; omega)
      have e3 : decide (turn < 8) = true := by first | (simp only [decide_eq_true_eq]; omega) | (simp only [decide_eq_false_iff_not]; omega)
      simp only [bW, Nat.reduceEqDiff, Nat.reduceAdd, Nat.reduceLeDiff, ft_31_2, kt_29, lt_29, zc_31, zt_29, xE, c0, c1, s1, app0, q1, g1, hv1, hv2, hH, hX, hlen, e1, e2, e3]
      obtain ⟨T, rfl⟩ : ∃ T : Nat, turn = T := ⟨turn.toNat, by omega⟩
      refine SWp.loopG (α := Nat) (fun i f h' => f 3 = .ptr h.n 0 ∧ f 6 = .ptr (h.n + 1) 0 ∧ f 2 = .int .i64 (T : Nat) ∧ f 7 = .int .i64 ((M).length : Nat) ∧ f 8 = .int .u8 ((2 ^ i : Nat) : Int) ∧ f 9 = .int .i64 (i : Nat) ∧ h' = H ∧ i ≤ T) (fun i => T - i) 0
        ⟨rfl, rfl, rfl, rfl, rfl, rfl, rfl, Nat.zero_le _⟩ ?_
      rintro i f h2 ⟨f3, f6, f2, f7, f8, f9, hh, hi⟩
      subst hh
      refine wpI_sound (by kernel_rfl) ?_
      by_cases hlt : i < T
      · have c3 : decide ((i : Int) < (T : Int)) = true := by simpa using hlt
        have w1 : IntKind.i64.wrap ((i : Int) + 1) = ((i + 1 : Nat) : Int) := inc64 hlt (by omega)
        simp only [bW, Nat.reduceEqDiff, f2, f8, f9, c3, w1, pow_step i (by omega)]
        exact hid_mk ⟨i + 1, ⟨f3, f6, f2, f7, rfl, rfl, rfl, by omega⟩, by omega⟩
      · have c3 : decide ((i : Int) < (T : Int)) = false := by first | (simp only [decide_eq_true_eq]; omega) | (simp only [decide_eq_false_iff_not]; omega)
        have hiT : i = T := by omega
        subst hiT
        have w1 : IntKind.i64.wrap ((((M).length : Nat) : Int) - 1) = (((M).length - 1 : Nat) : Int) := by rw [Go.IntWalk.i64_in _ (by omega)]; omega
        obtain ⟨bi, y0, hb0, ⟨q0, z0⟩, yy⟩ := own_elem (P := Tryz.prog) (t := 29) (kk := .i64) ss_29 oH (k := (M).length - 1) (by rw [bV_len]; omega)
        have hel : (bV (M))[(M).length - 1]'(by rw [bV_len]; omega) = .int .u8 ((M).getLastD 0) := by
          simp only [bV]
          rw [List.getElem_map, List.getLastD_eq_getLast?, List.getLast?_eq_getElem?, List.getElem?_eq_getElem (by omega)]
          rfl
        rw [hel] at z0
        obtain ⟨ob, y1, y2, y3⟩ := yy (.int .u8 (lastX (i : Int) ((M).getLastD 0))) rfl
        have hlx : bXor .u8 ((M).getLastD 0) ((2 ^ i : Nat) : Int) = lastX (i : Int) ((M).getLastD 0) := by
          unfold lastX
          rw [Int.toNat_natCast, pow_last i (by omega)]
        have hbi := nw bi hb0
        have hset : (bV (M)).set ((M).length - 1) (.int .u8 (lastX (i : Int) ((M).getLastD 0))) = bV (torn (i : Int) (M)) := by unfold torn bV; rw [List.map_set]
        rw [hset] at y2
        simp only [bW, Nat.reduceEqDiff, f2, f9, c3]
        refine SWp.drawnS none_ [13] (.q 0 (.q 1 (.q 2 (.q 3 (.q 4 (.q 5 (.q 6 (.q 7 (.q 8 (.q 9 (.q 10 (.q 11 (.q 12 (.a 13 .done)))))))))))))) (by kernel_rfl) (by kernel_rfl) (by kernel_rfl) ?_
        have hX2 : (h2.set bi ob).get h.n = .cells [.int .i64 room, .imm s.length (bV s), v1] 31 none := by rw [get_set_ne (by omega)]; exact hX
        have gB2 : (h2.set bi ob).get (h.n + 1) = .cells [.int .i64 0, .snil, .snil] 31 none := by rw [get_set_ne (by omega)]; exact gB
        have kH2 : Keep h (h2.set bi ob) none_ := kH.setNew (by omega) _
        have hn2 : h.n + 2 ≤ (h2.set bi ob).n := hn
        simp only [bW, bS, Nat.reduceEqDiff, Nat.reduceAdd, Nat.reduceLeDiff, ft_31_2, lt_29, lt_31, lt_5, zt_5, f3, f7, f8, hX, hX2, w1, y0, z0, hlx, y1]
        obtain ⟨h3, c3, gB3, kF⟩ := ax _ v1 (torn (i : Int) (M)) (by first | (rw [torn, List.length_set]; omega) | omega) y2 nw kH2 (by omega) gB2
        refine callI_of cal61 (SCalls.args c3 (rSync room s (torn (i : Int) (M)) (by first | (rw [torn, List.length_set]; omega) | omega) h3)) fun r h4 ⟨e1, e2⟩ => ?_
        subst e1 e2
        simp only [bW, Nat.reduceEqDiff, Nat.reduceAdd, lt_31, zt_31, gB3, xE, f6, retA_ret, Tryz.results19, resultsC_1, resultA_cell]
        exact hid_mk ⟨_, by rw [hM, torn_yes ⟨d1, d2, d3⟩]; exact Cast.refl _ _, kF _⟩
    · have c1 : decide ((0 : Int) < ((m.length : Nat) : Int)) = false := by first | (simp only [decide_eq_true_eq]; omega) | (simp only [decide_eq_false_iff_not]; omega)
      have hM : leftM m keep turn = tornM m turn := by unfold leftM; rw [List.take_of_length_le (by omega)]
      obtain ⟨v1, h1, q1, a1⟩ := (fresh1 ((h.push (.cells (xE room s (m)) 31 none)).push (.cells [.int .i64 0, .snil, .snil] 31 none))).appM (P := Tryz.prog) (tx := 29) (x := .imm (m).length (bV (m))) (n := (m).length) (news := bV (m)) sl_29 (by decide) (srcB (m) _) (by rw [bV_len]; exact (Nat.mul_one _).symm) (fun k hk => by
        have hk' : k * 1 = 0 + (bV (m)).length := hk
        rw [bV_len] at hk'
        show k * 1 ≤ lim ∧ k ≤ lim
        unfold lim
        omega)
      rw [push_n, push_n] at q1
      have a1 := a1.conv (List.nil_append _)
      have n1 := a1.keep.n
      simp only [push_n] at n1
      have g1 : h1.get h.n = .cells (xE room s (m)) 31 none := (a1.keep.get h.n (by simp only [push_n]; omega) (by simp [none_])).trans (get_p2 _ _ _)
      have g1' : h1.get (h.n + 1) = .cells [.int .i64 0, .snil, .snil] 31 none := (a1.keep.get (h.n + 1) (by simp only [push_n]; omega) (by simp [none_])).trans (by rw [← push_n (h := h), get_push_new])
      obtain ⟨hv1, hv2⟩ := one_of_own a1.own
      have nw : ∀ j, idOf v1 = some j → h.n + 2 ≤ j := fun j hj => by have := a1.new j hj; simp only [push_n] at this; omega
      unfold xE at q1 g1
      generalize hH : h1.set h.n (.cells [.int .i64 room, .imm s.length (bV s), v1] 31 none) = H
      have hX : H.get h.n = .cells [.int .i64 room, .imm s.length (bV s), v1] 31 none := by rw [← hH, get_set_same]
      have gB : H.get (h.n + 1) = .cells [.int .i64 0, .snil, .snil] 31 none := by rw [← hH, get_set_ne (by omega)]; exact g1'
      have hn : h.n + 2 ≤ H.n := by rw [← hH]; exact n1
      have kH : Keep h H none_ := by rw [← hH]; exact (((Keep.push _ _ _).then_push _).trans' a1.keep).setNew (Nat.le_refl _) _
      have oH : Own H 5 1 v1 (bV (m)) := by rw [← hH]; exact a1.own.keep (Keep.set _ _ _) fun k hk => by have := nw k hk; omega
      have hlen := oH.length (by omega) Tryz.prog kt_29
      rw [bV_len, Nat.div_one] at hlen
      skip
      by_cases d1 : 0 < (m).length
      rotate_left
      · have e1 : decide ((0 : Int) < (((m).length : Nat) : Int)) = false := by first | (simp only [decide_eq_true_eq]; omega) | (simp only [decide_eq_false_iff_not]; omega)
        simp only [bW, Nat.reduceEqDiff, Nat.reduceAdd, Nat.reduceLeDiff, ft_31_2, kt_29, lt_29, lt_31, zc_31, zt_29, xE, c0, c1, app0, q1, g1, hv1, hv2, hH, hX, hlen]
        obtain ⟨h3, c3, gB3, kF⟩ := ax _ v1 (m) (by first | (rw [torn, List.length_set]; omega) | omega) oH nw kH (by omega) gB
        refine callI_of cal61 (SCalls.args c3 (rSync room s (m) (by first | (rw [torn, List.length_set]; omega) | omega) h3)) fun r h4 ⟨e1, e2⟩ => ?_
        subst e1 e2
        simp only [bW, Nat.reduceEqDiff, Nat.reduceAdd, lt_31, zt_31, gB3, xE, retA_ret, Tryz.results19, resultsC_1, resultA_cell]
        exact hid_mk ⟨_, by rw [hM, torn_no (by omega)]; exact Cast.refl _ _, kF _⟩
      exact absurd d1 hm
  · have c0 : decide (keep < 0) = false := by first | (simp only [decide_eq_true_eq]; omega) | (simp only [decide_eq_false_iff_not]; omega)
    obtain ⟨k, rfl⟩ : ∃ k : Nat, keep = k := ⟨keep.toNat, by omega⟩
    by_cases hm : k < m.length
    · have c1 : decide ((k : Int) < ((m.length : Nat) : Int)) = true := by first | (simp only [decide_eq_true_eq]; omega) | (simp only [decide_eq_false_iff_not]; omega)
      have s1 := sl m k (by omega)
      have hM : leftM m k turn = tornM (m.take k) turn := by unfold leftM; rw [show (max (k : Int) 0).toNat = k by omega]
      have hs : s.length + (m.take k).length ≤ 2 ^ 40 := by rw [List.length_take]; omega
      generalize m.take k = M at *
      obtain ⟨v1, h1, q1, a1⟩ := (fresh1 ((h.push (.cells (xE room s (M)) 31 none)).push (.cells [.int .i64 0, .snil, .snil] 31 none))).appM (P := Tryz.prog) (tx := 29) (x := .imm (M).length (bV (M))) (n := (M).length) (news := bV (M)) sl_29 (by decide) (srcB (M) _) (by rw [bV_len]; exact (Nat.mul_one _).symm) (fun k hk => by
        have hk' : k * 1 = 0 + (bV (M)).length := hk
        rw [bV_len] at hk'
        show k * 1 ≤ lim ∧ k ≤ lim
        unfold lim
        omega)
      rw [push_n, push_n] at q1
      have a1 := a1.conv (List.nil_append _)
      have n1 := a1.keep.n
      simp only [push_n] at n1
      have g1 : h1.get h.n = .cells (xE room s (M)) 31 none := (a1.keep.get h.n (by simp only [push_n]; omega) (by simp [none_])).trans (get_p2 _ _ _)
      have g1' : h1.get (h.n + 1) = .cells [.int .i64 0, .snil, .snil] 31 none := (a1.keep.get (h.n + 1) (by simp only [push_n]; omega) (by simp [none_])).trans (by rw [← push_n (h := h), get_push_new])
      obtain ⟨hv1, hv2⟩ := one_of_own a1.own
      have nw : ∀ j, idOf v1 = some j → h.n + 2 ≤ j := fun j hj => by have := a1.new j hj; simp only [push_n] at this; omega
      unfold xE at q1 g1
      generalize hH : h1.set h.n (.cells [.int .i64 room, .imm s.length (bV s), v1] 31 none) = H
      have hX : H.get h.n = .cells [.int .i64 room, .imm s.length (bV s), v1] 31 none := by rw [← hH, get_set_same]
      have gB : H.get (h.n + 1) = .cells [.int .i64 0, .snil, .snil] 31 none := by rw [← hH, get_set_ne (by omega)]; exact g1'
      have hn : h.n + 2 ≤ H.n := by rw [← hH]; exact n1
      have kH : Keep h H none_ := by rw [← hH]; exact (((Keep.push _ _ _).then_push _).trans' a1.keep).setNew (Nat.le_refl _) _
      have oH : Own H 5 1 v1 (bV (M)) := by rw [← hH]; exact a1.own.keep (Keep.set _ _ _) fun k hk => by have := nw k hk; omega
      have hlen := oH.length (by omega) Tryz.prog kt_29
      rw [bV_len, Nat.div_one] at hlen
      skip
      by_cases d1 : 0 < (M).length
      rotate_left
      · have e1 : decide ((0 : Int) < (((M).length : Nat) : Int)) = false := by first | (simp only [decide_eq_true_eq]; omega) | (simp only [decide_eq_false_iff_not]; omega)
        simp only [bW, Nat.reduceEqDiff, Nat.reduceAdd, Nat.reduceLeDiff, ft_31_2, kt_29, lt_29, lt_31, zc_31, zt_29, xE, c0, c1, s1, app0, q1, g1, hv1, hv2, hH, hX, hlen, e1]
        obtain ⟨h3, c3, gB3, kF⟩ := ax _ v1 (M) (by first | (rw [torn, List.length_set]; omega) | omega) oH nw kH (by omega) gB
        refine callI_of cal61 (SCalls.args c3 (rSync room s (M) (by first | (rw [torn, List.length_set]; omega) | omega) h3)) fun r h4 ⟨e1, e2⟩ => ?_
        subst e1 e2
        simp only [bW, Nat.reduceEqDiff, Nat.reduceAdd, lt_31, zt_31, gB3, xE, retA_ret, Tryz.results19, resultsC_1, resultA_cell]
        exact hid_mk ⟨_, by rw [hM, torn_no (by omega)]; exact Cast.refl _ _, kF _⟩
      by_cases d2 : 0 ≤ turn
      rotate_left
      · have e1 : decide ((0 : Int) < (((M).length : Nat) : Int)) = true := by first | (simp only [decide_eq_true_eq]; omega) | (simp only [decide_eq_false_iff_not]; omega)
        have e2 : decide ((0 : Int) ≤ turn) = false := by first | (simp only [decide_eq_true_eq]; omega) | (simp only [decide_eq_false_iff_not]; omega)
        simp only [bW, Nat.reduceEqDiff, Nat.reduceAdd, Nat.reduceLeDiff, ft_31_2, kt_29, lt_29, lt_31, zc_31, zt_29, xE, c0, c1, s1, app0, q1, g1, hv1, hv2, hH, hX, hlen, e1, e2]
        obtain ⟨h3, c3, gB3, kF⟩ := ax _ v1 (M) (by first | (rw [torn, List.length_set]; omega) | omega) oH nw kH (by omega) gB
        refine callI_of cal61 (SCalls.args c3 (rSync room s (M) (by first | (rw [torn, List.length_set]; omega) | omega) h3)) fun r h4 ⟨e1, e2⟩ => ?_
        subst e1 e2
        simp only [bW, Nat.reduceEqDiff, Nat.reduceAdd, lt_31, zt_31, gB3, xE, retA_ret, Tryz.results19, resultsC_1, resultA_cell]
        exact hid_mk ⟨_, by rw [hM, torn_no (by omega)]; exact Cast.refl _ _, kF _⟩
      by_cases d3 : turn < 8
      rotate_left
      · have e1 : decide ((0 : Int) < (((M).length : Nat) : Int)) = true := by first | (simp only [decide_eq_true_eq]; omega) | (simp only [decide_eq_false_iff_not]; omega)
        have e2 : decide ((0 : Int) ≤ turn) = true := by first | (simp only [decide_eq_true_eq]; omega) | (simp only [decide_eq_false_iff_not]; omega)
        have e3 : decide (turn < 8) = false := by first | (simp only [decide_eq_true_eq]; omega) | (simp only [decide_eq_false_iff_not]; omega)
        simp only [bW, Nat.reduceEqDiff, Nat.reduceAdd, Nat.reduceLeDiff, ft_31_2, kt_29, lt_29, lt_31, zc_31, zt_29, xE, c0, c1, s1, app0, q1, g1, hv1, hv2, hH, hX, hlen, e1, e2, e3]
        obtain ⟨h3, c3, gB3, kF⟩ := ax _ v1 (M) (by first | (rw [torn, List.length_set]; omega) | omega) oH nw kH (by omega) gB
        refine callI_of cal61 (SCalls.args c3 (rSync room s (M) (by first | (rw [torn, List.length_set]; omega) | omega) h3)) fun r h4 ⟨e1, e2⟩ => ?_
        subst e1 e2
        simp only [bW, Nat.reduceEqDiff, Nat.reduceAdd, lt_31, zt_31, gB3, xE, retA_ret, Tryz.results19, resultsC_1, resultA_cell]
        exact hid_mk ⟨_, by rw [hM, torn_no (by omega)]; exact Cast.refl _ _, kF _⟩
      have e1 : decide ((0 : Int) < (((M).length : Nat) : Int)) = true := by first | (simp only [decide_eq_true_eq]; omega) | (simp only [decide_eq_false_iff_not]; omega)
      have e2 : decide ((0 : Int) ≤ turn) = true := by first | (simp only [decide_eq_true_eq]; omega) | (simp only [decide_eq_false_iff_not]; omega)
      have e3 : decide (turn < 8) = true := by first | (simp only [decide_eq_true_eq]; omega) | (simp only [decide_eq_false_iff_not]; omega)
      simp only [bW, Nat.reduceEqDiff, Nat.reduceAdd, Nat.reduceLeDiff, ft_31_2, kt_29, lt_29, zc_31, zt_29, xE, c0, c1, s1, app0, q1, g1, hv1, hv2, hH, hX, hlen, e1, e2, e3]
      obtain ⟨T, rfl⟩ : ∃ T : Nat, turn = T := ⟨turn.toNat, by omega⟩
      refine SWp.loopG (α := Nat) (fun i f h' => f 3 = .ptr h.n 0 ∧ f 6 = .ptr (h.n + 1) 0 ∧ f 2 = .int .i64 (T : Nat) ∧ f 7 = .int .i64 ((M).length : Nat) ∧ f 8 = .int .u8 ((2 ^ i : Nat) : Int) ∧ f 9 = .int .i64 (i : Nat) ∧ h' = H ∧ i ≤ T) (fun i => T - i) 0
        ⟨rfl, rfl, rfl, rfl, rfl, rfl, rfl, Nat.zero_le _⟩ ?_
      rintro i f h2 ⟨f3, f6, f2, f7, f8, f9, hh, hi⟩
      subst hh
      refine wpI_sound (by kernel_rfl) ?_
      by_cases hlt : i < T
      · have c3 : decide ((i : Int) < (T : Int)) = true := by simpa using hlt
        have w1 : IntKind.i64.wrap ((i : Int) + 1) = ((i + 1 : Nat) : Int) := inc64 hlt (by omega)
        simp only [bW, Nat.reduceEqDiff, f2, f8, f9, c3, w1, pow_step i (by omega)]
        exact hid_mk ⟨i + 1, ⟨f3, f6, f2, f7, rfl, rfl, rfl, by omega⟩, by omega⟩
      · have c3 : decide ((i : Int) < (T : Int)) = false := by first | (simp only [decide_eq_true_eq]; omega) | (simp only [decide_eq_false_iff_not]; omega)
        have hiT : i = T := by omega
        subst hiT
        have w1 : IntKind.i64.wrap ((((M).length : Nat) : Int) - 1) = (((M).length - 1 : Nat) : Int) := by rw [Go.IntWalk.i64_in _ (by omega)]; omega
        obtain ⟨bi, y0, hb0, ⟨q0, z0⟩, yy⟩ := own_elem (P := Tryz.prog) (t := 29) (kk := .i64) ss_29 oH (k := (M).length - 1) (by rw [bV_len]; omega)
        have hel : (bV (M))[(M).length - 1]'(by rw [bV_len]; omega) = .int .u8 ((M).getLastD 0) := by
          simp only [bV]
          rw [List.getElem_map, List.getLastD_eq_getLast?, List.getLast?_eq_getElem?, List.getElem?_eq_getElem (by omega)]
          rfl
        rw [hel] at z0
        obtain ⟨ob, y1, y2, y3⟩ := yy (.int .u8 (lastX (i : Int) ((M).getLastD 0))) rfl
        have hlx : bXor .u8 ((M).getLastD 0) ((2 ^ i : Nat) : Int) = lastX (i : Int) ((M).getLastD 0) := by
          unfold lastX
          rw [Int.toNat_natCast, pow_last i (by omega)]
        have hbi := nw bi hb0
        have hset : (bV (M)).set ((M).length - 1) (.int .u8 (lastX (i : Int) ((M).getLastD 0))) = bV (torn (i : Int) (M)) := by unfold torn bV; rw [List.map_set]
        rw [hset] at y2
        simp only [bW, Nat.reduceEqDiff, f2, f9, c3]
        refine SWp.drawnS none_ [13] (.q 0 (.q 1 (.q 2 (.q 3 (.q 4 (.q 5 (.q 6 (.q 7 (.q 8 (.q 9 (.q 10 (.q 11 (.q 12 (.a 13 .done)))))))))))))) (by kernel_rfl) (by kernel_rfl) (by kernel_rfl) ?_
        have hX2 : (h2.set bi ob).get h.n = .cells [.int .i64 room, .imm s.length (bV s), v1] 31 none := by rw [get_set_ne (by omega)]; exact hX
        have gB2 : (h2.set bi ob).get (h.n + 1) = .cells [.int .i64 0, .snil, .snil] 31 none := by rw [get_set_ne (by omega)]; exact gB
        have kH2 : Keep h (h2.set bi ob) none_ := kH.setNew (by omega) _
        have hn2 : h.n + 2 ≤ (h2.set bi ob).n := hn
        simp only [bW, bS, Nat.reduceEqDiff, Nat.reduceAdd, Nat.reduceLeDiff, ft_31_2, lt_29, lt_31, lt_5, zt_5, f3, f7, f8, hX, hX2, w1, y0, z0, hlx, y1]
        obtain ⟨h3, c3, gB3, kF⟩ := ax _ v1 (torn (i : Int) (M)) (by first | (rw [torn, List.length_set]; omega) | omega) y2 nw kH2 (by omega) gB2
        refine callI_of cal61 (SCalls.args c3 (rSync room s (torn (i : Int) (M)) (by first | (rw [torn, List.length_set]; omega) | omega) h3)) fun r h4 ⟨e1, e2⟩ => ?_
        subst e1 e2
        simp only [bW, Nat.reduceEqDiff, Nat.reduceAdd, lt_31, zt_31, gB3, xE, f6, retA_ret, Tryz.results19, resultsC_1, resultA_cell]
        exact hid_mk ⟨_, by rw [hM, torn_yes ⟨d1, d2, d3⟩]; exact Cast.refl _ _, kF _⟩
    · have c1 : decide ((k : Int) < ((m.length : Nat) : Int)) = false := by first | (simp only [decide_eq_true_eq]; omega) | (simp only [decide_eq_false_iff_not]; omega)
      have hM : leftM m k turn = tornM m turn := by unfold leftM; rw [List.take_of_length_le (by omega)]
      obtain ⟨v1, h1, q1, a1⟩ := (fresh1 ((h.push (.cells (xE room s (m)) 31 none)).push (.cells [.int .i64 0, .snil, .snil] 31 none))).appM (P := Tryz.prog) (tx := 29) (x := .imm (m).length (bV (m))) (n := (m).length) (news := bV (m)) sl_29 (by decide) (srcB (m) _) (by rw [bV_len]; exact (Nat.mul_one _).symm) (fun k hk => by
        have hk' : k * 1 = 0 + (bV (m)).length := hk
        rw [bV_len] at hk'
        show k * 1 ≤ lim ∧ k ≤ lim
        unfold lim
        omega)
      rw [push_n, push_n] at q1
      have a1 := a1.conv (List.nil_append _)
      have n1 := a1.keep.n
      simp only [push_n] at n1
      have g1 : h1.get h.n = .cells (xE room s (m)) 31 none := (a1.keep.get h.n (by simp only [push_n]; omega) (by simp [none_])).trans (get_p2 _ _ _)
      have g1' : h1.get (h.n + 1) = .cells [.int .i64 0, .snil, .snil] 31 none := (a1.keep.get (h.n + 1) (by simp only [push_n]; omega) (by simp [none_])).trans (by rw [← push_n (h := h), get_push_new])
      obtain ⟨hv1, hv2⟩ := one_of_own a1.own
      have nw : ∀ j, idOf v1 = some j → h.n + 2 ≤ j := fun j hj => by have := a1.new j hj; simp only [push_n] at this; omega
      unfold xE at q1 g1
      generalize hH : h1.set h.n (.cells [.int .i64 room, .imm s.length (bV s), v1] 31 none) = H
      have hX : H.get h.n = .cells [.int .i64 room, .imm s.length (bV s), v1] 31 none := by rw [← hH, get_set_same]
      have gB : H.get (h.n + 1) = .cells [.int .i64 0, .snil, .snil] 31 none := by rw [← hH, get_set_ne (by omega)]; exact g1'
      have hn : h.n + 2 ≤ H.n := by rw [← hH]; exact n1
      have kH : Keep h H none_ := by rw [← hH]; exact (((Keep.push _ _ _).then_push _).trans' a1.keep).setNew (Nat.le_refl _) _
      have oH : Own H 5 1 v1 (bV (m)) := by rw [← hH]; exact a1.own.keep (Keep.set _ _ _) fun k hk => by have := nw k hk; omega
      have hlen := oH.length (by omega) Tryz.prog kt_29
      rw [bV_len, Nat.div_one] at hlen
      skip
      by_cases d1 : 0 < (m).length
      rotate_left
      · have e1 : decide ((0 : Int) < (((m).length : Nat) : Int)) = false := by first | (simp only [decide_eq_true_eq]; omega) | (simp only [decide_eq_false_iff_not]; omega)
        simp only [bW, Nat.reduceEqDiff, Nat.reduceAdd, Nat.reduceLeDiff, ft_31_2, kt_29, lt_29, lt_31, zc_31, zt_29, xE, c0, c1, app0, q1, g1, hv1, hv2, hH, hX, hlen, e1]
        obtain ⟨h3, c3, gB3, kF⟩ := ax _ v1 (m) (by first | (rw [torn, List.length_set]; omega) | omega) oH nw kH (by omega) gB
        refine callI_of cal61 (SCalls.args c3 (rSync room s (m) (by first | (rw [torn, List.length_set]; omega) | omega) h3)) fun r h4 ⟨e1, e2⟩ => ?_
        subst e1 e2
        simp only [bW, Nat.reduceEqDiff, Nat.reduceAdd, lt_31, zt_31, gB3, xE, retA_ret, Tryz.results19, resultsC_1, resultA_cell]
        exact hid_mk ⟨_, by rw [hM, torn_no (by omega)]; exact Cast.refl _ _, kF _⟩
      by_cases d2 : 0 ≤ turn
      rotate_left
      · have e1 : decide ((0 : Int) < (((m).length : Nat) : Int)) = true := by first | (simp only [decide_eq_true_eq]; omega) | (simp only [decide_eq_false_iff_not]; omega)
        have e2 : decide ((0 : Int) ≤ turn) = false := by first | (simp only [decide_eq_true_eq]; omega) | (simp only [decide_eq_false_iff_not]; omega)
        simp only [bW, Nat.reduceEqDiff, Nat.reduceAdd, Nat.reduceLeDiff, ft_31_2, kt_29, lt_29, lt_31, zc_31, zt_29, xE, c0, c1, app0, q1, g1, hv1, hv2, hH, hX, hlen, e1, e2]
        obtain ⟨h3, c3, gB3, kF⟩ := ax _ v1 (m) (by first | (rw [torn, List.length_set]; omega) | omega) oH nw kH (by omega) gB
        refine callI_of cal61 (SCalls.args c3 (rSync room s (m) (by first | (rw [torn, List.length_set]; omega) | omega) h3)) fun r h4 ⟨e1, e2⟩ => ?_
        subst e1 e2
        simp only [bW, Nat.reduceEqDiff, Nat.reduceAdd, lt_31, zt_31, gB3, xE, retA_ret, Tryz.results19, resultsC_1, resultA_cell]
        exact hid_mk ⟨_, by rw [hM, torn_no (by omega)]; exact Cast.refl _ _, kF _⟩
      by_cases d3 : turn < 8
      rotate_left
      · have e1 : decide ((0 : Int) < (((m).length : Nat) : Int)) = true := by first | (simp only [decide_eq_true_eq]; omega) | (simp only [decide_eq_false_iff_not]; omega)
        have e2 : decide ((0 : Int) ≤ turn) = true := by first | (simp only [decide_eq_true_eq]; omega) | (simp only [decide_eq_false_iff_not]; omega)
        have e3 : decide (turn < 8) = false := by first | (simp only [decide_eq_true_eq]; omega) | (simp only [decide_eq_false_iff_not]; omega)
        simp only [bW, Nat.reduceEqDiff, Nat.reduceAdd, Nat.reduceLeDiff, ft_31_2, kt_29, lt_29, lt_31, zc_31, zt_29, xE, c0, c1, app0, q1, g1, hv1, hv2, hH, hX, hlen, e1, e2, e3]
        obtain ⟨h3, c3, gB3, kF⟩ := ax _ v1 (m) (by first | (rw [torn, List.length_set]; omega) | omega) oH nw kH (by omega) gB
        refine callI_of cal61 (SCalls.args c3 (rSync room s (m) (by first | (rw [torn, List.length_set]; omega) | omega) h3)) fun r h4 ⟨e1, e2⟩ => ?_
        subst e1 e2
        simp only [bW, Nat.reduceEqDiff, Nat.reduceAdd, lt_31, zt_31, gB3, xE, retA_ret, Tryz.results19, resultsC_1, resultA_cell]
        exact hid_mk ⟨_, by rw [hM, torn_no (by omega)]; exact Cast.refl _ _, kF _⟩
      have e1 : decide ((0 : Int) < (((m).length : Nat) : Int)) = true := by first | (simp only [decide_eq_true_eq]; omega) | (simp only [decide_eq_false_iff_not]; omega)
      have e2 : decide ((0 : Int) ≤ turn) = true := by first | (simp only [decide_eq_true_eq]; omega) | (simp only [decide_eq_false_iff_not]; omega)
      have e3 : decide (turn < 8) = true := by first | (simp only [decide_eq_true_eq]; omega) | (simp only [decide_eq_false_iff_not]; omega)
      simp only [bW, Nat.reduceEqDiff, Nat.reduceAdd, Nat.reduceLeDiff, ft_31_2, kt_29, lt_29, zc_31, zt_29, xE, c0, c1, app0, q1, g1, hv1, hv2, hH, hX, hlen, e1, e2, e3]
      obtain ⟨T, rfl⟩ : ∃ T : Nat, turn = T := ⟨turn.toNat, by omega⟩
      refine SWp.loopG (α := Nat) (fun i f h' => f 3 = .ptr h.n 0 ∧ f 6 = .ptr (h.n + 1) 0 ∧ f 2 = .int .i64 (T : Nat) ∧ f 7 = .int .i64 ((m).length : Nat) ∧ f 8 = .int .u8 ((2 ^ i : Nat) : Int) ∧ f 9 = .int .i64 (i : Nat) ∧ h' = H ∧ i ≤ T) (fun i => T - i) 0
        ⟨rfl, rfl, rfl, rfl, rfl, rfl, rfl, Nat.zero_le _⟩ ?_
      rintro i f h2 ⟨f3, f6, f2, f7, f8, f9, hh, hi⟩
      subst hh
      refine wpI_sound (by kernel_rfl) ?_
      by_cases hlt : i < T
      · have c3 : decide ((i : Int) < (T : Int)) = true := by simpa using hlt
        have w1 : IntKind.i64.wrap ((i : Int) + 1) = ((i + 1 : Nat) : Int) := inc64 hlt (by omega)
        simp only [bW, Nat.reduceEqDiff, f2, f8, f9, c3, w1, pow_step i (by omega)]
        exact hid_mk ⟨i + 1, ⟨f3, f6, f2, f7, rfl, rfl, rfl, by omega⟩, by omega⟩
      · have c3 : decide ((i : Int) < (T : Int)) = false := by first | (simp only [decide_eq_true_eq]; omega) | (simp only [decide_eq_false_iff_not]; omega)
        have hiT : i = T := by omega
        subst hiT
        have w1 : IntKind.i64.wrap ((((m).length : Nat) : Int) - 1) = (((m).length - 1 : Nat) : Int) := by rw [Go.IntWalk.i64_in _ (by omega)]; omega
        obtain ⟨bi, y0, hb0, ⟨q0, z0⟩, yy⟩ := own_elem (P := Tryz.prog) (t := 29) (kk := .i64) ss_29 oH (k := (m).length - 1) (by rw [bV_len]; omega)
        have hel : (bV (m))[(m).length - 1]'(by rw [bV_len]; omega) = .int .u8 ((m).getLastD 0) := by
          simp only [bV]
          rw [List.getElem_map, List.getLastD_eq_getLast?, List.getLast?_eq_getElem?, List.getElem?_eq_getElem (by omega)]
          rfl
        rw [hel] at z0
        obtain ⟨ob, y1, y2, y3⟩ := yy (.int .u8 (lastX (i : Int) ((m).getLastD 0))) rfl
        have hlx : bXor .u8 ((m).getLastD 0) ((2 ^ i : Nat) : Int) = lastX (i : Int) ((m).getLastD 0) := by
          unfold lastX
          rw [Int.toNat_natCast, pow_last i (by omega)]
        have hbi := nw bi hb0
        have hset : (bV (m)).set ((m).length - 1) (.int .u8 (lastX (i : Int) ((m).getLastD 0))) = bV (torn (i : Int) (m)) := by unfold torn bV; rw [List.map_set]
        rw [hset] at y2
        simp only [bW, Nat.reduceEqDiff, f2, f9, c3]
        refine SWp.drawnS none_ [13] (.q 0 (.q 1 (.q 2 (.q 3 (.q 4 (.q 5 (.q 6 (.q 7 (.q 8 (.q 9 (.q 10 (.q 11 (.q 12 (.a 13 .done)))))))))))))) (by kernel_rfl) (by kernel_rfl) (by kernel_rfl) ?_
        have hX2 : (h2.set bi ob).get h.n = .cells [.int .i64 room, .imm s.length (bV s), v1] 31 none := by rw [get_set_ne (by omega)]; exact hX
        have gB2 : (h2.set bi ob).get (h.n + 1) = .cells [.int .i64 0, .snil, .snil] 31 none := by rw [get_set_ne (by omega)]; exact gB
        have kH2 : Keep h (h2.set bi ob) none_ := kH.setNew (by omega) _
        have hn2 : h.n + 2 ≤ (h2.set bi ob).n := hn
        simp only [bW, bS, Nat.reduceEqDiff, Nat.reduceAdd, Nat.reduceLeDiff, ft_31_2, lt_29, lt_31, lt_5, zt_5, f3, f7, f8, hX, hX2, w1, y0, z0, hlx, y1]
        obtain ⟨h3, c3, gB3, kF⟩ := ax _ v1 (torn (i : Int) (m)) (by first | (rw [torn, List.length_set]; omega) | omega) y2 nw kH2 (by omega) gB2
        refine callI_of cal61 (SCalls.args c3 (rSync room s (torn (i : Int) (m)) (by first | (rw [torn, List.length_set]; omega) | omega) h3)) fun r h4 ⟨e1, e2⟩ => ?_
        subst e1 e2
        simp only [bW, Nat.reduceEqDiff, Nat.reduceAdd, lt_31, zt_31, gB3, xE, f6, retA_ret, Tryz.results19, resultsC_1, resultA_cell]
        exact hid_mk ⟨_, by rw [hM, torn_yes ⟨d1, d2, d3⟩]; exact Cast.refl _ _, kF _⟩
end Go.Proofs.YtilgpaibolollaaGreat.Pk
namespace Go.Proofs.YtilgpaibolollaaGreat.Pk
open Go Go.Proofs Go.Proofs.YtilgpaibolollaaGreat.Ab
set_option maxRecDepth 10000
set_option linter.unusedVariables false
set_option linter.unusedSimpArgs false
/-! ### Layer 7 of the reference -/
theorem bV_nI (l : List Nat) : bV (nI l) = bytesV l := nI_bytes l
/-- A seg: a disk whose bytes are all safe, and what was cut off. -/
def sgE (room : Int) (l m : List Nat) (torn : Int) : List V := xE room (nI l) (nI m) ++ [.int .i64 torn]
theorem sgE_clo (room : Int) (l m : List Nat) (torn : Int) : CloL (sgE room l m torn) :=
  CloL.cons (Clo.int _ _) (CloL.cons (Clo.imm (bV_clo _)) (CloL.cons (Clo.imm (bV_clo _)) (CloL.cons (Clo.int _ _) CloL.nil)))
def endN (b : List Nat) : Nat := (scanF b.length b).2
theorem pOpenSegR (room : Int) (l m : List Nat) (hb : ∀ x ∈ l ++ m, x < 256) (hl : (l ++ m).length ≤ 2 ^ 30) (h : AHeap) :
    Pure Tryz.prog 45 [.agg (xE room (nI l) (nI m))] h (.agg (sgE room ((l ++ m).take (endN (l ++ m))) [] (((l ++ m).length : Int) - (endN (l ++ m) : Nat)))) := by
  refine Pure.val (Clo.agg (sgE_clo _ _ _ _)) ?_
  refine SCalls.enterI (c := _) Tryz.func45 rfl (by kernel_rfl) (by simp) ?_
  have hcl : (V.agg (xE room (nI l) (nI m))).cells = some (xE room (nI l) (nI m)) := rfl
  have hlm : (nI l).length + (nI m).length = (l ++ m).length := by rw [nI_len, nI_len, List.length_append]
  have hld : loadGo (some (some 3)) (some (xE room (nI l) (nI m))) = some (.agg (xE room (nI l) (nI m))) := rfl
  simp only [bW, Nat.reduceEqDiff, lt_31, zc_37, hcl, hld]
  refine callI_pure cal86 (rDBytes room (nI l) (nI m) (by omega) _) ?_
  rw [← nI_app, bV_nI, nI_len]
  simp only [bW, Nat.reduceEqDiff]
  refine callI_of cal85 (pScanR (l ++ m) _ hb hl) fun r h1 ⟨v, er, a1⟩ => ?_
  subst er
  have hend : endN (l ++ m) ≤ (l ++ m).length := scanF_le _ _
  have g1 : h1.get h.n = .cells (xE room (nI l) (nI m)) 31 none := (a1.keep.get h.n (by simp only [push_n]; omega) (fun h => h)).trans (get_p2 _ _ _)
  have n1 : h.n + 2 ≤ h1.n := by have := a1.keep.n; simp only [push_n] at this; omega
  have z1 : h1.get (h.n + 1) = .cells [.int .i64 0, .snil, .snil, .int .i64 0] 37 none := (a1.keep.get (h.n + 1) (by simp only [push_n]; omega) (fun h => h)).trans get_push_new
  have k1 : Keep h h1 none_ := ((Keep.push _ _ _).trans (Keep.push _ _ _) (fun _ _ h => h)).trans a1.keep (fun _ _ h => h)
  simp only [bW, Nat.reduceEqDiff, lt_31, g1, hld]
  refine callI_pure cal86 (rDBytes room (nI l) (nI m) (by omega) _) ?_
  rw [← nI_app, bV_nI, nI_len]
  have w1 : IntKind.i64.wrap (((l ++ m).length : Int) - ((endN (l ++ m) : Nat) : Int)) = ((l ++ m).length : Int) - ((endN (l ++ m) : Nat) : Int) := Go.IntWalk.i64_in _ (by omega)
  rw [show (scanF (l ++ m).length (l ++ m)).2 = endN (l ++ m) from rfl]
  generalize endN (l ++ m) = E at hend w1 ⊢
  simp only [bW, Nat.reduceEqDiff, kt_29, lt_31, g1, hld, w1]
  refine callI_pure cal78 (rCut room (nI l) (nI m) (E : Nat) _ (by omega)) ?_
  rw [if_pos ⟨by omega, by rw [← Int.natCast_add, hlm]; omega⟩, Int.toNat_natCast]
  have hcl2 : (V.agg (xE room ((nI l).take E) ((nI m).take (E - (nI l).length)))).cells = some (xE room ((nI l).take E) ((nI m).take (E - (nI l).length))) := rfl
  have hld2 : loadGo (some (some 3)) (some (xE room ((nI l).take E) ((nI m).take (E - (nI l).length)))) = some (.agg (xE room ((nI l).take E) ((nI m).take (E - (nI l).length)))) := rfl
  have hs2 : setC (some 3) (AObj.cells [.int .i64 0, .snil, .snil] 31 none) 0 (xE room ((nI l).take E) ((nI m).take (E - (nI l).length))) = some (.cells (xE room ((nI l).take E) ((nI m).take (E - (nI l).length))) 31 none) := rfl
  have k2 : Keep h1 (h1.push (.cells (xE room ((nI l).take E) ((nI m).take (E - (nI l).length))) 31 none)) none_ := Keep.push _ _ _
  have g2 : (h1.push (.cells (xE room ((nI l).take E) ((nI m).take (E - (nI l).length))) 31 none)).get h1.n = .cells (xE room ((nI l).take E) ((nI m).take (E - (nI l).length))) 31 none := get_push_new
  have z2 := (k2.get (h.n + 1) (by omega) (fun h => h)).trans z1
  simp only [bW, Nat.reduceEqDiff, lt_31, zc_31, zt_31, hcl2, hld2, hs2]
  generalize h1.push (.cells (xE room ((nI l).take E) ((nI m).take (E - (nI l).length))) 31 none) = h2 at k2 g2 z2 ⊢
  refine callI_pure cal61 (rSync room ((nI l).take E) ((nI m).take (E - (nI l).length)) (by simp only [List.length_take]; omega) _) ?_
  rw [show (nI l).take E ++ (nI m).take (E - (nI l).length) = nI ((l ++ m).take E) by rw [← nI_take, nI_app, List.take_append]]
  have hs3 : setC (some 4) (AObj.cells [.int .i64 0, .snil, .snil, .int .i64 0] 37 none) 0 (sgE room ((l ++ m).take E) [] (((l ++ m).length : Int) - (E : Nat))) = some (.cells (sgE room ((l ++ m).take E) [] (((l ++ m).length : Int) - (E : Nat))) 37 none) := rfl
  have hb4 : ∀ t : Int, (if (xE room (nI ((l ++ m).take E)) []).length = 3 then (if 4 ≤ (setAll [V.int IntKind.i64 0, V.snil, V.snil, V.int IntKind.i64 0] 0 (xE room (nI ((l ++ m).take E)) [])).length then some ((setAll [V.int IntKind.i64 0, V.snil, V.snil, V.int IntKind.i64 0] 0 (xE room (nI ((l ++ m).take E)) [])).set 3 (V.int IntKind.i64 t)) else none) else none) = some (sgE room ((l ++ m).take E) [] t) := fun t => rfl
  have hc3 : ∀ t : Int, (V.agg (sgE room ((l ++ m).take E) [] t)).cells = some (sgE room ((l ++ m).take E) [] t) := fun t => rfl
  have hl3 : ∀ t : Int, loadGo (some (some 4)) (some (sgE room ((l ++ m).take E) [] t)) = some (.agg (sgE room ((l ++ m).take E) [] t)) := fun t => rfl
  simp only [bW, Nat.reduceEqDiff, Nat.reduceAdd, Nat.reduceLeDiff, lt_37, pl_37, zc_37, zt_37, z2, hb4, hc3, hs3, hl3, retA_ret, Tryz.results45, resultsC_1, resultA_cell]
  exact hid_mk ⟨rfl, (k1.trans k2 fun _ _ h => h).trans (Keep.set _ _ _) fun x hx hh => by omega⟩
end Go.Proofs.YtilgpaibolollaaGreat.Pk
namespace Go.Proofs.YtilgpaibolollaaGreat.Pk
open Go Go.Proofs Go.Proofs.YtilgpaibolollaaGreat.Ab
set_option maxRecDepth 10000
set_option linter.unusedVariables false
set_option linter.unusedSimpArgs false
theorem pRowR (room torn : Int) (l m : List Nat) (hb : ∀ x ∈ l ++ m, x < 256) (hl : (l ++ m).length ≤ 2 ^ 30) (h : AHeap) :
    SCalls Tryz.prog 46 [.agg (sgE room l m torn)] h (fun r h' => Acc h h' 29 1 r (rowV (scanF (l ++ m).length (l ++ m)).1)) := by
  refine SCalls.enterI (c := _) Tryz.func46 rfl (by kernel_rfl) (by simp) ?_
  have hcl : (V.agg (sgE room l m torn)).cells = some (sgE room l m torn) := rfl
  have hlm : (nI l).length + (nI m).length = (l ++ m).length := by rw [nI_len, nI_len, List.length_append]
  have hld : loadGo (some (some 3)) (some (sgE room l m torn)) = some (.agg (xE room (nI l) (nI m))) := rfl
  simp only [bW, Nat.reduceEqDiff, ft_37_0, lt_31, hcl, hld]
  refine callI_pure cal86 (rDBytes room (nI l) (nI m) (by omega) _) ?_
  rw [← nI_app, bV_nI, nI_len]
  simp only [bW, Nat.reduceEqDiff]
  refine callI_of cal85 (pScanR (l ++ m) _ hb hl) fun r h1 ⟨v, er, a1⟩ => ?_
  subst er
  simp only [bW, Nat.reduceEqDiff, retA_ret, Tryz.results46, resultsA_1]
  exact hid_mk (Acc.base (Keep.push _ _ _) a1)
def putRV (room torn : Int) (l m b : List Nat) : V :=
  if 4096 < b.length then .tuple [.agg (sgE room l m torn), .int .i64 2]
  else if ((l ++ m).length + (frame b).length : Int) ≤ room then .tuple [.agg (sgE room l (m ++ frame b) torn), .int .i64 0]
  else .tuple [.agg (sgE room l m torn), .int .i64 3]
theorem pPutR (room torn : Int) (l m b : List Nat) (hr : room ≤ 1048576) (hl : (l ++ m).length ≤ 2 ^ 30) (hb : ∀ x ∈ b, x < 256) (hbl : b.length ≤ 2 ^ 40) (h : AHeap) :
    Pure Tryz.prog 93 [.agg (sgE room l m torn), .imm b.length (bytesV b)] h (putRV room torn l m b) := by
  have hclo : Clo (putRV room torn l m b) := by
    unfold putRV
    split
    · exact Clo.tuple (CloL.cons (Clo.agg (sgE_clo _ _ _ _)) (CloL.cons (Clo.int _ _) CloL.nil))
    · split <;> exact Clo.tuple (CloL.cons (Clo.agg (sgE_clo _ _ _ _)) (CloL.cons (Clo.int _ _) CloL.nil))
  refine Pure.val hclo ?_
  refine SCalls.enterI (c := _) Tryz.func93 rfl (by kernel_rfl) (by simp) ?_
  have hcl : (V.agg (sgE room l m torn)).cells = some (sgE room l m torn) := rfl
  have hlm : (nI l).length + (nI m).length = (l ++ m).length := by rw [nI_len, nI_len, List.length_append]
  have hld : loadGo (some (some 3)) (some (sgE room l m torn)) = some (.agg (xE room (nI l) (nI m))) := rfl
  simp only [bW, Nat.reduceEqDiff, zc_37, hcl]
  have l4 : ∀ m : List Nat, (if 4 ≤ (sgE room l m torn).length then some (V.agg (List.take 4 (sgE room l m torn))) else none) = some (.agg (sgE room l m torn)) := fun m => rfl
  have l3 : (if 3 ≤ (sgE room l m torn).length then some (V.agg (List.take 3 (sgE room l m torn))) else none) = some (.agg (xE room (nI l) (nI m))) := rfl
  have hc4 : ∀ m : List Nat, (V.agg (sgE room l m torn)).cells = some (sgE room l m torn) := fun m => rfl
  have s4 : ∀ m : List Nat, setC (some 4) (AObj.cells [.int .i64 0, .snil, .snil, .int .i64 0] 37 none) 0 (sgE room l m torn) = some (.cells (sgE room l m torn) 37 none) := fun m => rfl
  have hld4 : ∀ m : List Nat, loadGo (some (some 4)) (some (sgE room l m torn)) = some (.agg (sgE room l m torn)) := fun m => rfl
  have k0 : Keep h ((h.push (.cells (sgE room l m torn) 37 none)).push (.cells [.int .i64 0, .snil, .snil, .int .i64 0] 37 none)) none_ := (Keep.push _ _ _).trans (Keep.push _ _ _) (fun _ _ h => h)
  have g0 : ((h.push (.cells (sgE room l m torn) 37 none)).push (.cells [.int .i64 0, .snil, .snil, .int .i64 0] 37 none)).get h.n = .cells (sgE room l m torn) 37 none := get_p2 _ _ _
  have z0 : ((h.push (.cells (sgE room l m torn) 37 none)).push (.cells [.int .i64 0, .snil, .snil, .int .i64 0] 37 none)).get (h.n + 1) = .cells [.int .i64 0, .snil, .snil, .int .i64 0] 37 none := get_push_new
  have n0 : ((h.push (.cells (sgE room l m torn) 37 none)).push (.cells [.int .i64 0, .snil, .snil, .int .i64 0] 37 none)).n = h.n + 2 := rfl
  generalize (h.push (.cells (sgE room l m torn) 37 none)).push (.cells [.int .i64 0, .snil, .snil, .int .i64 0] 37 none) = H at k0 g0 z0 n0 ⊢
  refine callI_pure cal114 (pFrameR b hb _ (by omega)) ?_
  unfold frameV
  by_cases hbig : 4096 < b.length
  · rw [if_pos hbig]
    simp only [bW, Int.reduceBNe, Nat.reduceEqDiff, lt_37, zt_37, g0, z0, hc4, s4, hld4, retA_ret, Tryz.results93, resultsC_2, resultA_tmp, resultA_cell, res2_some]
    exact hid_mk ⟨by rw [putRV, if_pos hbig], k0.trans (Keep.set _ _ _) fun x hx hh => by omega⟩
  rw [if_neg hbig]
  simp only [bW, Nat.reduceEqDiff, ft_37_0, lt_31, g0, l3]
  have hfl : (frame b).length ≤ 2 ^ 40 := by
    unfold frame encBytes
    have := (enc_le b.length (by omega)).2
    rw [List.length_append, List.length_append]
    show _ + 4 ≤ _
    omega
  rw [← bV_nI (frame b), ← nI_len (frame b)]
  refine callI_pure cal21 (rAppend room (nI l) (nI m) (nI (frame b)) _ hr (by omega) (by rw [nI_len]; omega)) ?_
  have hcond : ((nI l).length + (nI m).length + (nI (frame b)).length : Int) ≤ room ↔ ((l ++ m).length + (frame b).length : Int) ≤ room := by rw [← Int.natCast_add, hlm, nI_len]
  by_cases hfit : ((l ++ m).length + (frame b).length : Int) ≤ room
  · rw [if_pos (hcond.2 hfit), ← nI_app]
    have s3 : setC (some 3) (AObj.cells [.int .i64 0, .snil, .snil] 31 none) 0 (xE room (nI l) (nI (m ++ frame b))) = some (.cells (xE room (nI l) (nI (m ++ frame b))) 31 none) := rfl
    have c3 : (V.agg (xE room (nI l) (nI (m ++ frame b)))).cells = some (xE room (nI l) (nI (m ++ frame b))) := rfl
    have d3 : (if 3 ≤ (xE room (nI l) (nI (m ++ frame b))).length then some (V.agg (List.take 3 (xE room (nI l) (nI (m ++ frame b))))) else none) = some (.agg (xE room (nI l) (nI (m ++ frame b)))) := rfl
    have t3 : setC (some 3) (AObj.cells (sgE room l m torn) 37 none) 0 (xE room (nI l) (nI (m ++ frame b))) = some (.cells (sgE room l (m ++ frame b) torn) 37 none) := rfl
    have k2 : Keep H (H.push (.cells (xE room (nI l) (nI (m ++ frame b))) 31 none)) none_ := Keep.push _ _ _
    have g2 : (H.push (.cells (xE room (nI l) (nI (m ++ frame b))) 31 none)).get H.n = .cells (xE room (nI l) (nI (m ++ frame b))) 31 none := get_push_new
    have g3 := (k2.get h.n (by omega) (fun h => h)).trans g0
    have z3 := (k2.get (h.n + 1) (by omega) (fun h => h)).trans z0
    have n3 : (H.push (.cells (xE room (nI l) (nI (m ++ frame b))) 31 none)).n = H.n + 1 := rfl
    simp only [bW, Nat.reduceEqDiff, lt_31, zc_31, zt_31, s3, c3]
    generalize H.push (.cells (xE room (nI l) (nI (m ++ frame b))) 31 none) = H2 at k2 g2 g3 z3 n3 ⊢
    have g4 : (H2.set h.n (.cells (sgE room l (m ++ frame b) torn) 37 none)).get h.n = .cells (sgE room l (m ++ frame b) torn) 37 none := get_set_same
    have z4 : (H2.set h.n (.cells (sgE room l (m ++ frame b) torn) 37 none)).get (h.n + 1) = .cells [.int .i64 0, .snil, .snil, .int .i64 0] 37 none := (get_set_ne (by omega)).trans z3
    have l5 := l4 (m ++ frame b)
    simp only [bW, Nat.reduceEqDiff, ft_37_0, lt_37, zt_31, zt_37, d3, c3, g3, t3, z4, hc4, s4, hld4, retA_ret, Tryz.results93, resultsC_2, resultA_tmp, resultA_cell, res2_some]
    exact hid_mk ⟨by rw [putRV, if_neg hbig, if_pos hfit], ((k0.trans k2 fun _ _ h => h).trans (Keep.set _ _ _) fun x hx hh => by omega).trans (Keep.set _ _ _) fun x hx hh => by omega⟩
  · rw [if_neg (fun h => hfit (hcond.1 h))]
    have s3 : setC (some 3) (AObj.cells [.int .i64 0, .snil, .snil] 31 none) 0 (xE room (nI l) (nI (m))) = some (.cells (xE room (nI l) (nI (m))) 31 none) := rfl
    have c3 : (V.agg (xE room (nI l) (nI (m)))).cells = some (xE room (nI l) (nI (m))) := rfl
    have d3 : (if 3 ≤ (xE room (nI l) (nI (m))).length then some (V.agg (List.take 3 (xE room (nI l) (nI (m))))) else none) = some (.agg (xE room (nI l) (nI (m)))) := rfl
    have t3 : setC (some 3) (AObj.cells (sgE room l m torn) 37 none) 0 (xE room (nI l) (nI (m))) = some (.cells (sgE room l (m) torn) 37 none) := rfl
    have k2 : Keep H (H.push (.cells (xE room (nI l) (nI (m))) 31 none)) none_ := Keep.push _ _ _
    have g2 : (H.push (.cells (xE room (nI l) (nI (m))) 31 none)).get H.n = .cells (xE room (nI l) (nI (m))) 31 none := get_push_new
    have g3 := (k2.get h.n (by omega) (fun h => h)).trans g0
    have z3 := (k2.get (h.n + 1) (by omega) (fun h => h)).trans z0
    have n3 : (H.push (.cells (xE room (nI l) (nI (m))) 31 none)).n = H.n + 1 := rfl
    simp only [bW, Nat.reduceEqDiff, lt_31, zc_31, zt_31, s3, c3]
    generalize H.push (.cells (xE room (nI l) (nI (m))) 31 none) = H2 at k2 g2 g3 z3 n3 ⊢
    have g4 : (H2.set h.n (.cells (sgE room l (m) torn) 37 none)).get h.n = .cells (sgE room l (m) torn) 37 none := get_set_same
    have z4 : (H2.set h.n (.cells (sgE room l (m) torn) 37 none)).get (h.n + 1) = .cells [.int .i64 0, .snil, .snil, .int .i64 0] 37 none := (get_set_ne (by omega)).trans z3
    have l5 := l4 (m)
    simp only [bW, Nat.reduceEqDiff, ft_37_0, lt_37, zt_31, zt_37, d3, c3, g3, t3, z4, hc4, s4, hld4, retA_ret, Tryz.results93, resultsC_2, resultA_tmp, resultA_cell, res2_some]
    exact hid_mk ⟨by rw [putRV, if_neg hbig, if_neg hfit], ((k0.trans k2 fun _ _ h => h).trans (Keep.set _ _ _) fun x hx hh => by omega).trans (Keep.set _ _ _) fun x hx hh => by omega⟩
end Go.Proofs.YtilgpaibolollaaGreat.Pk
namespace Go.Proofs.YtilgpaibolollaaGreat.Pk
open Go Go.Proofs Go.Proofs.YtilgpaibolollaaGreat.Ab
set_option maxRecDepth 10000
set_option linter.unusedVariables false
set_option linter.unusedSimpArgs false
/-! ### Layer 8 of the reference: Tail, Read -/
theorem findI_rfind (l : List Cel) (k : Int) : (rfind l k = none ∧ findI l k = -1) ∨ ∃ (i : Nat) (hi : i < l.length), findI l k = (i : Int) ∧ rfind l k = some l[i] := by
  unfold rfind findI
  cases h : l.findIdx? (fun c => decide (c.at_ = k)) with
  | none =>
    refine .inl ⟨?_, rfl⟩
    rw [List.find?_eq_none]
    exact fun x hx => by simpa using (List.findIdx?_eq_none_iff.1 h) x hx
  | some i =>
    obtain ⟨hi, h1, h2⟩ := List.findIdx?_eq_some_iff_getElem.1 h
    refine .inr ⟨i, hi, rfl, ?_⟩
    rw [List.find?_eq_some_iff_getElem]
    exact ⟨h1, i, hi, rfl, fun j hj => by simpa using h2 j hj⟩
end Go.Proofs.YtilgpaibolollaaGreat.Pk
namespace Go.Proofs.YtilgpaibolollaaGreat.Pk
open Go Go.Proofs Go.Proofs.YtilgpaibolollaaGreat.Ab
set_option maxRecDepth 10000
set_option linter.unusedVariables false
set_option linter.unusedSimpArgs false
end Go.Proofs.YtilgpaibolollaaGreat.Pk
namespace Go.Proofs.YtilgpaibolollaaGreat.Pk
open Go Go.Proofs Go.Proofs.YtilgpaibolollaaGreat.Ab
set_option maxRecDepth 10000
set_option linter.unusedVariables false
set_option linter.unusedSimpArgs false
end Go.Proofs.YtilgpaibolollaaGreat.Pk
namespace Go.Proofs.YtilgpaibolollaaGreat.Pk
open Go Go.Proofs Go.Proofs.YtilgpaibolollaaGreat.Ab
set_option linter.unusedVariables false
/-! ### The reference's 'with', as it goes through the cells (pure) -/
def wout (c : Cel) : List Cel → Bool → List Cel × Bool
  | [], d => ([], d)
  | x :: r, d => ((if !d && decide (c.at_ ≤ x.at_) then [c] else []) ++ (if x.at_ ≠ c.at_ then [x] else []) ++ (wout c r (d || decide (c.at_ ≤ x.at_))).1, (wout c r (d || decide (c.at_ ≤ x.at_))).2)
theorem wout_done (c : Cel) : ∀ l : List Cel, (∀ x ∈ l, x.at_ ≠ c.at_) → wout c l true = (l, true)
  | [], _ => rfl
  | x :: r, h => by
    have ih := wout_done c r fun y hy => h y (List.mem_cons_of_mem _ hy)
    unfold wout
    simp only [Bool.not_true, Bool.false_and, Bool.true_or, if_pos (h x (by simp)), ih]
    rfl
theorem wout_rise (c : Cel) : ∀ l : List Cel, Rise l → (wout c l false).1 ++ (if (wout c l false).2 then [] else [c]) = rwith l c
  | [], _ => rfl
  | x :: r, h => by
    have hr := List.pairwise_cons.1 h
    by_cases hx : c.at_ ≤ x.at_
    · have hd := wout_done c r fun y hy => by have := hr.1 y hy; omega
      have f1 : (x :: r).filter (fun d => decide (d.at_ < c.at_)) = [] := by
        rw [List.filter_eq_nil_iff]
        intro y hy
        rcases List.mem_cons.1 hy with rfl | hy
        · simp; omega
        · have := hr.1 y hy; simp; omega
      have f2 : r.filter (fun d => decide (c.at_ < d.at_)) = r := by
        rw [List.filter_eq_self]
        intro y hy
        have := hr.1 y hy; simp; omega
      unfold wout rwith
      rw [f1]
      simp only [Bool.not_false, Bool.true_and, Bool.false_or, decide_eq_true hx, hd]
      by_cases he : x.at_ = c.at_
      · rw [List.filter_cons_of_neg (by simp; omega), f2]
        simp [he]
      · rw [List.filter_cons_of_pos (by simp; omega), f2]
        simp [he]
    · have ih := wout_rise c r hr.2
      unfold wout
      have hne : x.at_ ≠ c.at_ := by omega
      simp only [Bool.not_false, Bool.true_and, Bool.false_or, decide_eq_false hx, if_pos hne]
      have e : rwith (x :: r) c = x :: rwith r c := by
        unfold rwith
        rw [List.filter_cons_of_pos (by simp; omega), List.filter_cons_of_neg (by simp; omega)]
        rfl
      rw [e, ← ih]
      rfl
end Go.Proofs.YtilgpaibolollaaGreat.Pk
namespace Go.Proofs.YtilgpaibolollaaGreat.Pk
open Go Go.Proofs Go.Proofs.YtilgpaibolollaaGreat.Ab
set_option maxRecDepth 10000
set_option linter.unusedVariables false
set_option linter.unusedSimpArgs false
theorem litCR (h : AHeap) (c : Cel) : aBuildSlice Tryz.prog 38 1 [(0, .agg (celE c))] h = some (.sl h.n 0 1 1, h.push (.cells (celE c) 51 none)) := by rw [buildSlice_go sl_38]; rfl
theorem finW {h H hX : AHeap} {v : V} (room : Int) (s m : List Nat) (torn ep : Int) (L : List Cel) (k0 : Keep h H none_) (n0 : H.n = h.n + 3) (a : Acc H hX 51 3 v (L.flatMap celE)) (X Y : AObj) :
    ∃ h3, Cast (.agg [.int .i64 room, .imm s.length (bytesV s), .imm m.length (bytesV m), .int .i64 torn, .int .i64 ep, v]) ((hX.set h.n X).set (h.n + 2) Y) (.agg (rnE room s m torn (ep, L))) h3 ∧ Keep h h3 none_ := by
  have nw : ∀ j, idOf v = some j → h.n + 3 ≤ j := fun j hj => by have := a.new j hj; omega
  have kX : Keep h hX none_ := k0.trans' a.keep
  have kF : Keep h ((hX.set h.n X).set (h.n + 2) Y) none_ := (kX.setNew (Nat.le_refl _) X).setNew (by omega) Y
  have oF : Own ((hX.set h.n X).set (h.n + 2) Y) 51 3 v (L.flatMap celE) := (a.own.keep (Keep.set _ _ _) fun k hk => by have := nw k hk; omega).keep (Keep.set _ _ _) fun k hk => by have := nw k hk; omega
  obtain ⟨h3, c, k⟩ := Acc.cast (h0 := h) ⟨oF, kF, fun j hj => by have := nw j hj; omega⟩ (n := L.length) (rows_len celE_len _) (by omega)
  exact ⟨h3, Pk.Cast.agg (CastL.cons (Cast.refl _ _) (CastL.cons (Cast.refl _ _) (CastL.cons (Cast.refl _ _) (CastL.cons (Cast.refl _ _) (CastL.cons (Cast.refl _ _) (CastL.cons c (CastL.refl _ _))))))), k⟩
set_option maxHeartbeats 4000000 in
theorem pWithR (room : Int) (s m : List Nat) (torn : Int) (n : RNd) (c : Cel) (hr : Rise n.2) (hl : n.2.length ≤ 2 ^ 30) (h : AHeap) : Pure Tryz.prog 89 [.agg (rnE room s m torn n), .agg (celE c)] h (.agg (rnE room s m torn (n.1, rwith n.2 c))) := by
  obtain ⟨ep, l⟩ := n
  simp only at hl hr
  refine Pure.of (Clo.agg (rnE_clo _ _ _ _ _)) ?_
  refine SCalls.enterI (c := _) Tryz.func89 rfl (by kernel_rfl) (by simp) ?_
  have hcl : (V.agg (rnE room s m torn (ep, l))).cells = some (rnE room s m torn (ep, l)) := rfl
  have hcc : ∀ c : Cel, (V.agg (celE c)).cells = some (celE c) := fun c => rfl
  have e5 : dropC (AObj.cells (rnE room s m torn (ep, l)) 40 none) 5 = some [.imm l.length (l.flatMap celE)] := rfl
  have l0 : ∀ c : Cel, loadGo (some none) (some (celE c)) = some (.int .i64 c.at_) := fun c => rfl
  have l3 : ∀ c : Cel, loadGo (some (some 3)) (some (celE c)) = some (.agg (celE c)) := fun c => rfl
  simp only [bW, Nat.reduceEqDiff, zc_40, hcl, hcc]
  have k0 : Keep h (((h.push (.cells (rnE room s m torn (ep, l)) 40 none)).push (.cells (celE c) 51 none)).push (.cells [.int .i64 0, .snil, .snil, .int .i64 0, .int .i64 0, .snil] 40 none)) none_ := ((Keep.push _ _ _).trans (Keep.push _ _ _) (fun _ _ h => h)).trans (Keep.push _ _ _) (fun _ _ h => h)
  have g0 : (((h.push (.cells (rnE room s m torn (ep, l)) 40 none)).push (.cells (celE c) 51 none)).push (.cells [.int .i64 0, .snil, .snil, .int .i64 0, .int .i64 0, .snil] 40 none)).get h.n = .cells (rnE room s m torn (ep, l)) 40 none := get_p3 _ _ _ _
  have gc : (((h.push (.cells (rnE room s m torn (ep, l)) 40 none)).push (.cells (celE c) 51 none)).push (.cells [.int .i64 0, .snil, .snil, .int .i64 0, .int .i64 0, .snil] 40 none)).get (h.n + 1) = .cells (celE c) 51 none := get_p2 (h.push _) _ _
  have gz : (((h.push (.cells (rnE room s m torn (ep, l)) 40 none)).push (.cells (celE c) 51 none)).push (.cells [.int .i64 0, .snil, .snil, .int .i64 0, .int .i64 0, .snil] 40 none)).get (h.n + 2) = .cells [.int .i64 0, .snil, .snil, .int .i64 0, .int .i64 0, .snil] 40 none := get_push_new
  have n0 : (((h.push (.cells (rnE room s m torn (ep, l)) 40 none)).push (.cells (celE c) 51 none)).push (.cells [.int .i64 0, .snil, .snil, .int .i64 0, .int .i64 0, .snil] 40 none)).n = h.n + 3 := rfl
  generalize ((h.push (.cells (rnE room s m torn (ep, l)) 40 none)).push (.cells (celE c) 51 none)).push (.cells [.int .i64 0, .snil, .snil, .int .i64 0, .int .i64 0, .snil] 40 none) = H at k0 g0 gc gz n0 ⊢
  refine SWp.loopG (α := Nat × List Cel × Bool × V) (fun x f h' => f 2 = .ptr h.n 0 ∧ f 3 = .ptr (h.n + 1) 0 ∧ f 4 = .ptr (h.n + 2) 0 ∧ f 5 = x.2.2.2 ∧ f 6 = .bool x.2.2.1 ∧ f 7 = .int .i64 (x.1 : Nat) ∧ x.1 ≤ l.length ∧ x.2.1.length ≤ 2 * x.1 ∧ Acc H h' 51 3 x.2.2.2 (x.2.1.flatMap celE) ∧
    x.2.1 ++ (wout c (l.drop x.1) x.2.2.1).1 = (wout c l false).1 ∧ (wout c (l.drop x.1) x.2.2.1).2 = (wout c l false).2) (fun x => l.length - x.1) (0, [], false, .snil)
    ⟨rfl, rfl, rfl, rfl, rfl, rfl, Nat.zero_le _, Nat.le_refl _, Acc.nil (Keep.refl _ _), by simp, by simp⟩ ?_
  rintro ⟨i, out, d, v⟩ f h1 ⟨f2, f3, f4, f5, f6, f7, hi, ho, a1, hw1, hw2⟩
  simp only at f2 f3 f4 f5 f6 f7 hi ho a1 hw1 hw2
  have g1 := (a1.keep.get h.n (by omega) (fun h => h)).trans g0
  have c1 := (a1.keep.get (h.n + 1) (by omega) (fun h => h)).trans gc
  refine wpI_sound (by kernel_rfl) ?_
  by_cases hlt : i < l.length
  · have d1 : decide ((i : Int) < ((l.length : Nat) : Int)) = true := by simp; omega
    have hi1 : IntKind.i64.wrap ((i : Int) + 1) = ((i + 1 : Nat) : Int) := by rw [Go.IntWalk.i64_in _ (by omega)]; rfl
    have hx := cel_ixR hlt (kk := .i64)
    have lx0 : loadGo (some none) (some (celE l[i] ++ (l.drop (i + 1)).flatMap celE)) = some (.int .i64 l[i].at_) := rfl
    have lx3 : loadGo (some (some 3)) (some (celE l[i] ++ (l.drop (i + 1)).flatMap celE)) = some (.agg (celE l[i])) := rfl
    have hdr : l.drop i = l[i] :: l.drop (i + 1) := List.drop_eq_getElem_cons hlt
    rw [hdr] at hw1 hw2
    simp only [bW, Nat.reduceEqDiff, ft_40_2, kt_38, lt_38, f2, f7, g1, e5, d1]
    cases d with
    | true =>
      refine SWp.drawnS none_ [] (.q 0 (.q 1 (.q 2 (.q 3 (.q 4 (.q 5 (.q 6 (.q 7 (.q 8 (.q 9 (.q 10 (.q 11 (.q 12 .done))))))))))))) (by kernel_rfl) (by kernel_rfl) (by kernel_rfl) ?_
      simp only [bW, bS, Nat.reduceEqDiff, f6]
      refine SWp.drawnS none_ [] (.q 0 (.q 1 (.q 2 (.q 3 (.q 4 (.q 5 (.q 6 (.q 7 (.q 8 .done))))))))) (by kernel_rfl) (by kernel_rfl) (by kernel_rfl) ?_
      by_cases hne : l[i].at_ = c.at_
      · have b1 : (l[i].at_ != c.at_) = false := by simpa using hne
        simp only [bW, bS, Nat.reduceEqDiff, ft_40_2, ft_51_0, lt_3, lt_38, f2, f3, f7, g1, c1, e5, l0, hx, lx0, hi1, b1]
        exact hid_mk ⟨(i + 1, out, true, v), ⟨f2, f3, f4, f5, f6, rfl, hlt, by simp only; omega, a1, by rw [← hw1]; simp [wout, hne], by rw [← hw2]; simp [wout]⟩, by simp only; omega⟩
      · have b1 : (l[i].at_ != c.at_) = true := by simpa using hne
        have lit := litCR h1 l[i]
        have k2 : Keep h1 (h1.push (.cells (celE l[i]) 51 none)) none_ := Keep.push _ _ _
        obtain ⟨s2, h4, ea, o4, kp4, d4⟩ := append_elemM (P := Tryz.prog) sl_38 (by decide) a1.own (xs := celE l[i]) rfl rfl (fun m hm => by
          change m * 3 = _ + 3 at hm
          rw [rows_len celE_len] at hm
          exact ⟨by simp only [lim]; omega, by simp only [lim]; omega⟩)
        have a4 := a1.step o4 kp4 d4
        simp only [bW, bS, Nat.reduceEqDiff, ft_40_2, ft_51_0, lt_3, lt_38, lt_51, f2, f3, f5, f7, g1, c1, e5, l0, hx, lx0, hi1, b1, lx3, lit, ea]
        exact hid_mk ⟨(i + 1, out ++ [l[i]], true, s2), ⟨f2, f3, f4, rfl, f6, rfl, hlt, by simp only [List.length_append, List.length_cons, List.length_nil]; omega, a4.conv (by rw [List.flatMap_append]; simp), by rw [← hw1]; simp [wout, hne], by rw [← hw2]; simp [wout]⟩, by simp only; omega⟩
    | false =>
      by_cases hle : c.at_ ≤ l[i].at_
      · have b0 : decide (c.at_ ≤ l[i].at_) = true := by simpa using hle
        have lit4 := litCR h1 c
        obtain ⟨s4, h4, ea4, o4, kp4, d4⟩ := append_elemM (P := Tryz.prog) sl_38 (by decide) a1.own (xs := celE c) rfl rfl (fun m hm => by
          change m * 3 = _ + 3 at hm
          rw [rows_len celE_len] at hm
          exact ⟨by simp only [lim]; (try simp only [List.length_append, List.length_cons, List.length_nil] at hm); omega, by simp only [lim]; (try simp only [List.length_append, List.length_cons, List.length_nil] at hm); omega⟩)
        have a4 := a1.step o4 kp4 d4
        have g4 := (a4.keep.get h.n (by omega) (fun h => h)).trans g0
        have c4 := (a4.keep.get (h.n + 1) (by omega) (fun h => h)).trans gc
        have a5 := a4.conv (show _ = (out ++ [c]).flatMap celE by rw [List.flatMap_append]; simp)
        refine SWp.drawnS none_ [] (.q 0 (.q 1 (.q 2 (.q 3 (.q 4 (.q 5 (.q 6 (.q 7 (.q 8 (.q 9 (.q 10 (.q 11 (.q 12 .done))))))))))))) (by kernel_rfl) (by kernel_rfl) (by kernel_rfl) ?_
        simp only [bW, bS, Nat.reduceEqDiff, ft_40_2, ft_51_0, lt_3, lt_38, lt_51, f2, f3, f5, f6, f7, g1, c1, e5, l0, hx, lx0, b0, l3, lit4, ea4]
        refine SWp.drawnS none_ [] (.q 0 (.q 1 (.q 2 (.q 3 (.q 4 (.q 5 (.q 6 (.q 7 (.q 8 .done))))))))) (by kernel_rfl) (by kernel_rfl) (by kernel_rfl) ?_
        by_cases hne : l[i].at_ = c.at_
        · have b1 : (l[i].at_ != c.at_) = false := by simpa using hne
          simp only [bW, bS, Nat.reduceEqDiff, ft_40_2, ft_51_0, lt_3, lt_38, f2, f3, f7, g4, c4, e5, l0, hx, lx0, hi1, b1]
          exact hid_mk ⟨(i + 1, out ++ [c], true, s4), ⟨f2, f3, f4, rfl, rfl, rfl, hlt, by simp only [List.length_append, List.length_cons, List.length_nil]; omega, a5, by rw [← hw1]; simp [wout, hne], by rw [← hw2]; simp [wout, hle]⟩, by simp only; omega⟩
        · have b1 : (l[i].at_ != c.at_) = true := by simpa using hne
          have lit6 := litCR h4 l[i]
          obtain ⟨s6, h6, ea6, o6, kp6, d6⟩ := append_elemM (P := Tryz.prog) sl_38 (by decide) a5.own (xs := celE l[i]) rfl rfl (fun m hm => by
            change m * 3 = _ + 3 at hm
            rw [rows_len celE_len] at hm
            exact ⟨by simp only [lim]; (try simp only [List.length_append, List.length_cons, List.length_nil] at hm); omega, by simp only [lim]; (try simp only [List.length_append, List.length_cons, List.length_nil] at hm); omega⟩)
          have a6 := a5.step o6 kp6 d6
          simp only [bW, bS, Nat.reduceEqDiff, ft_40_2, ft_51_0, lt_3, lt_38, lt_51, f2, f3, f5, f7, g4, c4, e5, l0, hx, lx0, hi1, b1, lx3, lit6, ea6]
          exact hid_mk ⟨(i + 1, out ++ [c] ++ [l[i]], true, s6), ⟨f2, f3, f4, rfl, rfl, rfl, hlt, by simp only [List.length_append, List.length_cons, List.length_nil]; omega, a6.conv (by rw [List.flatMap_append]; simp), by rw [← hw1]; simp [wout, hne, hle], by rw [← hw2]; simp [wout, hle]⟩, by simp only; omega⟩
      · have b0 : decide (c.at_ ≤ l[i].at_) = false := by simpa using hle
        refine SWp.drawnS none_ [] (.q 0 (.q 1 (.q 2 (.q 3 (.q 4 (.q 5 (.q 6 (.q 7 (.q 8 (.q 9 (.q 10 (.q 11 (.q 12 .done))))))))))))) (by kernel_rfl) (by kernel_rfl) (by kernel_rfl) ?_
        simp only [bW, bS, Nat.reduceEqDiff, ft_40_2, ft_51_0, lt_3, lt_38, f2, f3, f6, f7, g1, c1, e5, l0, hx, lx0, b0]
        refine SWp.drawnS none_ [] (.q 0 (.q 1 (.q 2 (.q 3 (.q 4 (.q 5 (.q 6 (.q 7 (.q 8 .done))))))))) (by kernel_rfl) (by kernel_rfl) (by kernel_rfl) ?_
        have hne : l[i].at_ ≠ c.at_ := by omega
        have b1 : (l[i].at_ != c.at_) = true := by simpa using hne
        have lit4 := litCR h1 l[i]
        obtain ⟨s4, h4, ea4, o4, kp4, d4⟩ := append_elemM (P := Tryz.prog) sl_38 (by decide) a1.own (xs := celE l[i]) rfl rfl (fun m hm => by
          change m * 3 = _ + 3 at hm
          rw [rows_len celE_len] at hm
          exact ⟨by simp only [lim]; (try simp only [List.length_append, List.length_cons, List.length_nil] at hm); omega, by simp only [lim]; (try simp only [List.length_append, List.length_cons, List.length_nil] at hm); omega⟩)
        have a4 := a1.step o4 kp4 d4
        simp only [bW, bS, Nat.reduceEqDiff, ft_40_2, ft_51_0, lt_3, lt_38, lt_51, f2, f3, f5, f7, g1, c1, e5, l0, hx, lx0, hi1, b1, lx3, lit4, ea4]
        exact hid_mk ⟨(i + 1, out ++ [l[i]], false, s4), ⟨f2, f3, f4, rfl, f6, rfl, hlt, by simp only [List.length_append, List.length_cons, List.length_nil]; omega, a4.conv (by rw [List.flatMap_append]; simp), by rw [← hw1]; simp [wout, hne, hle], by rw [← hw2]; simp [wout, hle]⟩, by simp only; omega⟩
  · have d1 : decide ((i : Int) < ((l.length : Nat) : Int)) = false := by simp; omega
    have hdr : l.drop i = [] := List.drop_of_length_le (by omega)
    rw [hdr] at hw1 hw2
    have hfin := wout_rise c l hr
    rw [← hw1, ← hw2] at hfin
    simp only [wout, List.append_nil] at hfin
    have gz1 := (a1.keep.get (h.n + 2) (by omega) (fun h => h)).trans gz
    have hset : ∀ w : V, w.one = true → setC (some 6) (AObj.cells [.int .i64 0, .snil, .snil, .int .i64 0, .int .i64 0, .snil] 40 none) 0 [.int .i64 room, .imm s.length (bytesV s), .imm m.length (bytesV m), .int .i64 torn, .int .i64 ep, w] = some (.cells [.int .i64 room, .imm s.length (bytesV s), .imm m.length (bytesV m), .int .i64 torn, .int .i64 ep, w] 40 none) := fun w hw => by
      rw [setC_row (n := 6) rfl (by simp [hw]; exact ⟨rfl, rfl, rfl, rfl, rfl⟩), if_pos (by decide)]; rfl
    cases d with
    | true =>
      have hL : out = rwith l c := by simpa using hfin
      obtain ⟨v1, v2⟩ := one_of_own a1.own
      have hset := hset v v2
      have gz2 : ∀ o, (h1.set h.n o).get (h.n + 2) = .cells [.int .i64 0, .snil, .snil, .int .i64 0, .int .i64 0, .snil] 40 none := fun o => (get_set_ne (by omega)).trans gz1
      have cE : ((V.agg (rnE room s m torn (ep, l))).cells) = some (rnE room s m torn (ep, l)) := rfl
      unfold rnE at g1 e5
      simp only [bW, Nat.reduceEqDiff, Nat.reduceAdd, ft_40_2, kt_38, lt_38, lt_40, zt_38, zt_40, f2, f4, f5, f6, f7, g1, e5, d1, gz2, v1, v2, hset, retA_ret, Tryz.results89, resultsC_1, resultA_cell]
      exact hid_mk (by rw [← hL]; exact finW room s m torn ep out k0 n0 a1 _ _)
    | false =>
      have hL : out ++ [c] = rwith l c := by simpa using hfin
      have lit4 := litCR h1 c
      obtain ⟨s4, h4, ea4, o4, kp4, d4⟩ := append_elemM (P := Tryz.prog) sl_38 (by decide) a1.own (xs := celE c) rfl rfl (fun m hm => by
        change m * 3 = _ + 3 at hm
        rw [rows_len celE_len] at hm
        exact ⟨by simp only [lim]; (try simp only [List.length_append, List.length_cons, List.length_nil] at hm); omega, by simp only [lim]; (try simp only [List.length_append, List.length_cons, List.length_nil] at hm); omega⟩)
      have a4 := a1.step o4 kp4 d4
      have g4 := (a4.keep.get h.n (by omega) (fun h => h)).trans g0
      have gz4 := (a4.keep.get (h.n + 2) (by omega) (fun h => h)).trans gz
      have a5 := a4.conv (show _ = (out ++ [c]).flatMap celE by rw [List.flatMap_append]; simp)
      obtain ⟨v1, v2⟩ := one_of_own a5.own
      have hset := hset s4 v2
      have gz2 : ∀ o, (h4.set h.n o).get (h.n + 2) = .cells [.int .i64 0, .snil, .snil, .int .i64 0, .int .i64 0, .snil] 40 none := fun o => (get_set_ne (by omega)).trans gz4
      unfold rnE at g1 e5 g4
      simp only [bW, Nat.reduceEqDiff, Nat.reduceAdd, ft_40_2, kt_38, lt_38, lt_40, lt_51, zt_38, zt_40, f2, f3, f4, f5, f6, f7, g1, c1, e5, d1, l3, lit4, ea4, g4, gz2, v1, v2, hset, retA_ret, Tryz.results89, resultsC_1, resultA_cell]
      exact hid_mk (by rw [← hL]; exact finW room s m torn ep (out ++ [c]) k0 n0 a5 _ _)
end Go.Proofs.YtilgpaibolollaaGreat.Pk
namespace Go.Proofs.YtilgpaibolollaaGreat.Pk
open Go Go.Proofs Go.Proofs.YtilgpaibolollaaGreat.Ab
set_option linter.unusedVariables false
/-! ### The reference's own decoding of a payload is the program's (pure) -/
def redoD (n : RNd) (p : List Nat) : RNd :=
  if (dec p 0 0).2.2 ≠ 0 ∨ (dec (numR p) 0 0).2.2 ≠ 0 ∨ 1048576 < (dec (numR p) 0 0).1 ∨ ((dec (numR p) 0 0).1 : Int) < n.1 then n
  else if (dec p 0 0).1 = 2 ∧ numR (numR p) = [] then (((dec (numR p) 0 0).1 : Nat), n.2)
  else if (dec p 0 0).1 ≠ 1 then n
  else if (dec (numR (numR p)) 0 0).2.2 ≠ 0 ∨ 4095 < (dec (numR (numR p)) 0 0).1 then n
  else if (getBytes (numR (numR (numR p)))).2.2 ≠ 0 ∨ (getBytes (numR (numR (numR p)))).2.1 ≠ [] ∨ 2048 < (getBytes (numR (numR (numR p)))).1.length then n
  else match rfind n.2 ((dec (numR (numR p)) 0 0).1 : Nat) with
    | some c => if ((dec (numR p) 0 0).1 : Int) ≤ c.epoch then n else (n.1, rwith n.2 ⟨((dec (numR (numR p)) 0 0).1 : Nat), ((dec (numR p) 0 0).1 : Nat), (getBytes (numR (numR (numR p)))).1⟩)
    | none => (n.1, rwith n.2 ⟨((dec (numR (numR p)) 0 0).1 : Nat), ((dec (numR p) 0 0).1 : Nat), (getBytes (numR (numR (numR p)))).1⟩)
theorem redoR_no {n : RNd} {p : List Nat} (h : (readC p).2 = false ∨ folR n (readC p).1 = false) : redoR n p = n := by
  unfold redoR
  rcases h with h | h <;> simp [h]
theorem redoD_eq (n : RNd) (p : List Nat) : redoD n p = redoR n p := by
  obtain ⟨N, l⟩ := n
  have e1 : numN p = if (dec p 0 0).2.2 ≠ 0 ∨ 1048576 < (dec p 0 0).1 then 1048577 else (dec p 0 0).1 := rfl
  have e2 : numN (numR p) = if (dec (numR p) 0 0).2.2 ≠ 0 ∨ 1048576 < (dec (numR p) 0 0).1 then 1048577 else (dec (numR p) 0 0).1 := rfl
  have e3 : numN (numR (numR p)) = if (dec (numR (numR p)) 0 0).2.2 ≠ 0 ∨ 1048576 < (dec (numR (numR p)) 0 0).1 then 1048577 else (dec (numR (numR p)) 0 0).1 := rfl
  have eC : readC p = if numN p = 2 then (⟨2, numN (numR p), 0, []⟩, mayEp (numN (numR p)) && decide (numR (numR p) = []))
    else if numN p = 1 then
      (⟨1, numN (numR p), numN (numR (numR p)), (getBytes (numR (numR (numR p)))).1⟩,
        decide ((getBytes (numR (numR (numR p)))).2.2 = 0) && mayWr ⟨1, numN (numR p), numN (numR (numR p)), (getBytes (numR (numR (numR p)))).1⟩ && decide ((getBytes (numR (numR (numR p)))).2.1 = []))
    else (⟨0, 0, 0, []⟩, false) := rfl
  unfold redoD
  generalize getBytes (numR (numR (numR p))) = G at eC ⊢
  generalize numN (numR (numR p)) = n3 at *
  generalize numN (numR p) = n2 at *
  generalize numN p = n1 at *
  generalize dec (numR (numR p)) 0 0 = D3 at *
  generalize dec (numR p) 0 0 = D2 at *
  generalize dec p 0 0 = D1 at *
  generalize numR (numR p) = R2 at *
  obtain ⟨x1, u1, b1⟩ := D1
  obtain ⟨x2, u2, b2⟩ := D2
  obtain ⟨x3, u3, b3⟩ := D3
  obtain ⟨g1, g2, g3⟩ := G
  simp only at *
  by_cases h1 : b1 ≠ 0 ∨ b2 ≠ 0 ∨ 1048576 < x2 ∨ (x2 : Int) < N
  · rw [if_pos h1]
    refine (redoR_no ?_).symm
    rw [eC]
    by_cases k1 : b1 = 0
    · by_cases k2 : b2 = 0 ∧ x2 ≤ 1048576
      · have hlt : (x2 : Int) < N := by omega
        rw [if_neg (by omega)] at e2
        right
        split
        · simp [folR]; omega
        split
        · simp only [folR]; rw [if_neg (by decide)]; rw [decide_eq_false (by omega)]; rfl
        · simp only [folR]; rw [if_neg (by decide)]
          by_cases z : N ≤ 0
          · omega
          · rw [decide_eq_false z]; rfl
      · rw [if_pos (by omega)] at e2
        left
        split
        · simp [mayEp, e2]
        split
        · simp [mayWr, mayEp, e2]
        · rfl
    · rw [if_pos (.inl k1)] at e1
      left
      rw [if_neg (by omega), if_neg (by omega)]
  rw [if_neg h1]
  have hb1 : b1 = 0 := by omega
  have hb2 : b2 = 0 := by omega
  have hx2 : x2 ≤ 1048576 := by omega
  have hN : N ≤ (x2 : Int) := by omega
  rw [if_neg (by omega)] at e2
  subst e2
  have m2 : mayEp (n2 : Int) = true := by simp [mayEp]; omega
  by_cases h2 : x1 = 2 ∧ R2 = []
  · rw [if_pos h2]
    rw [if_neg (by omega)] at e1
    rw [if_pos (e1.trans h2.1)] at eC
    unfold redoR
    rw [eC]
    simp [folR, m2, h2.2, hN]
  rw [if_neg h2]
  by_cases h3 : x1 = 1
  · rw [if_neg (by omega)]
    rw [if_neg (by omega)] at e1
    rw [if_neg (by omega), if_pos (by omega)] at eC
    by_cases h4 : b3 ≠ 0 ∨ 4095 < x3
    · rw [if_pos h4]
      refine (redoR_no (.inl ?_)).symm
      rw [eC]
      have : ¬ ((n3 : Int) < 4096) := by
        split at e3 <;> omega
      simp [mayWr, this]
    rw [if_neg h4]
    rw [if_neg (by omega)] at e3
    subst e3
    by_cases h5 : g3 ≠ 0 ∨ g2 ≠ [] ∨ 2048 < g1.length
    · rw [if_pos h5]
      refine (redoR_no (.inl ?_)).symm
      rw [eC]
      rcases h5 with h5 | h5 | h5
      · simp [h5]
      · simp [h5]
      · simp [mayWr]; omega
    rw [if_neg h5]
    have hg3 : g3 = 0 := by omega
    have hg2 : g2 = [] := by
      by_cases z : g2 = []
      · exact z
      · exact absurd (.inr (.inl z)) h5
    have hg1 : g1.length ≤ 2048 := by omega
    have m3 : mayWr ⟨1, n2, n3, g1⟩ = true := by simp [mayWr, m2, hg1]; omega
    unfold redoR
    rw [eC]
    simp only [m3, hg3, hg2, decide_true, Bool.true_and, Bool.and_self]
    simp only [folR]
    rw [if_neg (show ¬ ((1 : Int) = 2) by decide), if_neg (show ¬ ((1 : Int) = 2) by decide), decide_eq_true hN, Bool.true_and]
    cases hf : rfind l (n3 : Int) with
    | none => rfl
    | some c =>
      simp only
      by_cases hc : (n2 : Int) ≤ c.epoch
      · rw [if_pos hc, if_neg (by simp; omega)]
      · rw [if_neg hc, if_pos (by simp; omega)]
  · rw [if_pos h3]
    refine (redoR_no (.inl ?_)).symm
    rw [eC]
    by_cases z : n1 = 2
    · rw [if_pos z]
      split at e1
      · omega
      · have : R2 ≠ [] := fun q => h2 ⟨by omega, q⟩
        simp [this]
    · rw [if_neg z, if_neg (by split at e1 <;> omega)]
end Go.Proofs.YtilgpaibolollaaGreat.Pk
namespace Go.Proofs.YtilgpaibolollaaGreat.Pk
open Go Go.Proofs Go.Proofs.YtilgpaibolollaaGreat.Ab
set_option maxRecDepth 10000
set_option linter.unusedVariables false
set_option linter.unusedSimpArgs false
/-! ### What is scanned of any bytes are frames; a node opened on any bytes -/
theorem openC_back {b : List Nat} (hb : ∀ x ∈ b, x < 256) (h : (openC b).2.2 = 0) : (openC b).1.length ≤ 4096 ∧ frame (openC b).1 = b.take (openC b).2.1 := by
  rw [← openR_eq hb] at h ⊢
  unfold openR at h ⊢
  by_cases h0 : (dec b 0 0).2.2 ≠ 0
  · rw [if_pos h0] at h; exact absurd h h0
  rw [if_neg h0] at h ⊢
  by_cases h1 : 4096 < (dec b 0 0).1
  · rw [if_pos h1] at h; exact absurd h (by decide)
  rw [if_neg h1] at h ⊢
  by_cases h2 : (b.drop (dec b 0 0).2.1).length < (dec b 0 0).1 + 4
  · rw [if_pos h2] at h; exact absurd h (by decide)
  rw [if_neg h2] at h ⊢
  split at h
  · rename_i h3
    rw [if_pos h3]
    refine ⟨?_, h3⟩
    simp only [List.length_take]
    omega
  · exact absurd h (by decide)
theorem scan_back : ∀ (k : Nat) (b : List Nat), (∀ x ∈ b, x < 256) → b.take (scanF k b).2 = (scanF k b).1.flatMap frame ∧ ∀ p ∈ (scanF k b).1, p.length ≤ 4096
  | 0, b, hb => ⟨rfl, fun p hp => by cases hp⟩
  | k + 1, b, hb => by
    unfold scanF
    split
    · exact ⟨rfl, fun p hp => by cases hp⟩
    · rename_i hn
      have h0 : (openC b).2.2 = 0 := by
        by_cases z : (openC b).2.2 = 0
        · exact z
        · exact absurd (.inr z) hn
      obtain ⟨o1, o2⟩ := openC_back hb h0
      obtain ⟨i1, i2⟩ := scan_back k (b.drop (openC b).2.1) fun x hx => hb x (List.mem_of_mem_drop hx)
      refine ⟨?_, fun p hp => ?_⟩
      · simp only
        rw [List.take_add, i1, List.flatMap_cons, o2]
      · rcases List.mem_cons.1 hp with rfl | hp
        · exact o1
        · exact i2 p hp
theorem NOk.redo {s : NSt} (w : NOk s) (p : List Nat) (hp : ∀ x ∈ p, x < 256) : NOk (Pk.redo s p) := by
  unfold Pk.redo
  split
  · rename_i h
    simp only [Bool.and_eq_true] at h
    obtain ⟨h, _⟩ := h
    have hx : ∀ (a : Act) (r : Bool), readC p = (a, r) → r = true → (a.kind = 2 ∨ a.kind = 1 ∧ mayWr a = true ∧ ∀ x ∈ a.bytes, x < 256) := by
      intro a r e hr
      subst hr
      unfold readC at e
      split at e
      · simp only [Prod.mk.injEq] at e
        exact .inl (by rw [← e.1])
      split at e
      · simp only [Prod.mk.injEq, Bool.and_eq_true] at e
        obtain ⟨e1, ⟨_, e2⟩, _⟩ := e
        rw [e1] at e2
        refine .inr ⟨by rw [← e1], e2, ?_⟩
        rw [← e1]
        simp only
        intro x hx
        unfold getBytes at hx
        split at hx
        · cases hx
        split at hx
        · cases hx
        · exact hp x (List.mem_of_mem_drop (List.mem_of_mem_drop (List.mem_of_mem_drop (List.mem_of_mem_drop (List.mem_of_mem_take hx)))))
      · simp at e
    generalize hC : readC p = C at h
    obtain ⟨a, r⟩ := C
    simp only at h ⊢
    rcases hx a r hC h with h2 | ⟨h1, h3, h4⟩
    · obtain ⟨w1, w2, w3⟩ := w
      exact ⟨by simpa [appC, appK, h2] using w1, by simpa [appC, h2] using w2, by simpa [appC, h2] using w3⟩
    · obtain ⟨kd, ep, at_, b⟩ := a
      simp only at h1
      subst h1
      exact w.write ep at_ b h4 h3
  · exact w
theorem NOk.all : ∀ (l : List (List Nat)) {s : NSt}, NOk s → (∀ p ∈ l, ∀ x ∈ p, x < 256) → NOk (l.foldl Pk.redo s)
  | [], s, w, _ => w
  | p :: l, s, w, h => NOk.all l (w.redo p (h p (by simp))) fun q hq => h q (by simp [hq])
end Go.Proofs.YtilgpaibolollaaGreat.Pk
