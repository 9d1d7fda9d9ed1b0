/-
  What functions of the program do, told of abstract states. Conditions: as each theorem says.
-/
import Derived.Test.YtilgpaibolollaaGreatNb
import Derived.Test.YtilgpaibolollaaGreatAcD
import Derived.Shelf.SlSortCmp.WholeK
import Derived.Test.YtilgpaibolollaaGreatProg
import Derived.Test.YtilgpaibolollaaGreatNa
namespace Go.Proofs.YtilgpaibolollaaGreat.Pk
open Go Go.Proofs Go.Proofs.YtilgpaibolollaaGreat.Ab
set_option maxRecDepth 10000
set_option linter.unusedVariables false
set_option linter.unusedSimpArgs false
theorem Cast.agg {l l2 : List V} {h h2 : AHeap} (a : CastL l h l2 h2) : Cast (.agg l) h (.agg l2) h2 := fun ρ B w0 w r' hw hv => by
  cases hv with
  | agg hs hx =>
    obtain ⟨ρ1, l1, w1, v1⟩ := a ρ B w0 w _ hw (ARel.list ⟨hs, hx⟩)
    exact ⟨ρ1, l1, w1, v1.arr'.agg⟩
/-- What is left behind a number. -/
def numR (bs : List Nat) : List Nat := bs.drop (dec bs 0 0).2.1
theorem numR_len (bs : List Nat) : (numR bs).length ≤ bs.length := by unfold numR; rw [List.length_drop]; omega
theorem numR_lt {bs : List Nat} (hb : ∀ b ∈ bs, b < 256) : ∀ b ∈ numR bs, b < 256 := fun b hx => hb b (List.mem_of_mem_drop hx)
/-- The act of a payload, and whether it is one. -/
def readC (bs : List Nat) : Act × Bool :=
  if numN bs = 2 then (⟨2, numN (numR bs), 0, []⟩, mayEp (numN (numR bs)) && decide (numR (numR bs) = []))
  else if numN bs = 1 then
    (⟨1, numN (numR bs), numN (numR (numR bs)), (getBytes (numR (numR (numR bs)))).1⟩,
      decide ((getBytes (numR (numR (numR bs)))).2.2 = 0) && mayWr ⟨1, numN (numR bs), numN (numR (numR bs)), (getBytes (numR (numR (numR bs)))).1⟩ && decide ((getBytes (numR (numR (numR bs)))).2.1 = []))
  else (⟨0, 0, 0, []⟩, false)
set_option maxRecDepth 10000 in
theorem pReadA (bs : List Nat) (h : AHeap) (hb : ∀ b ∈ bs, b < 256) (hl : bs.length ≤ 2 ^ 40) : Pure Tryz.prog 42 [.imm bs.length (bytesV bs)] h (.tuple [.agg (actE (readC bs).1), .bool (readC bs).2]) := by
  refine Pure.of (Clo.tuple (CloL.cons (Clo.agg (actE_clo _)) (CloL.cons (Clo.bool _) CloL.nil))) ?_
  refine SCalls.enterI (c := _) Tryz.func42 rfl (by kernel_rfl) (by simp) ?_
  have z1 : ∀ (h : AHeap) (k e : Int) (b : Bool), Cast (.tuple [.agg [.int .i64 k, .int .i64 e, .int .i64 0, .snil], .bool b]) h (.tuple [.agg (actE ⟨k, e, 0, []⟩), .bool b]) h := fun h k e b =>
    Cast.tuple (CastL.cons (Cast.agg (CastL.cons (Cast.refl _ _) (CastL.cons (Cast.refl _ _) (CastL.cons (Cast.refl _ _) (CastL.cons (Cast.snil0 h) (CastL.refl _ _)))))) (CastL.refl _ _))
  have k0 : Keep h (h.push (.cells [.int .i64 0, .int .i64 0, .int .i64 0, .snil] 104 none)) none_ := Keep.push _ _ _
  have g0 : (h.push (.cells [.int .i64 0, .int .i64 0, .int .i64 0, .snil] 104 none)).get h.n = .cells [.int .i64 0, .int .i64 0, .int .i64 0, .snil] 104 none := get_push_new
  have n0 : (h.push (.cells [.int .i64 0, .int .i64 0, .int .i64 0, .snil] 104 none)).n = h.n + 1 := rfl
  simp only [bW, Nat.reduceEqDiff, reduceCtorEq, zc_104]
  generalize h.push (.cells [.int .i64 0, .int .i64 0, .int .i64 0, .snil] 104 none) = H0 at k0 g0 n0 ⊢
  refine callI_of cal81 (From _ bs H0 (Rd.imm _ _) (by omega)) fun r1 H1 ⟨e1, rd1, k1⟩ => ?_
  subst e1
  simp only [bW, Nat.reduceEqDiff]
  refine callI_of cal82 (number_ _ _ bs H1 rd1 hb (by omega)) fun r2 H2 ⟨e2, rd2, k2⟩ => ?_
  subst e2
  have hb2 := numR_lt hb
  have hl2 := numR_len bs
  change IsRd H2 _ H0.n (numR bs) at rd2
  have q2 := k2.n
  have q1 := k1.n
  have q0 := rd1.2.1
  simp only [bW, Nat.reduceEqDiff, Nat.reduceAdd, Nat.reduceLeDiff, pl_104, zc_104, zt_104]
  have k3 : Keep H2 (H2.push (.cells [.int .i64 (numN bs : Nat), .int .i64 0, .int .i64 0, .snil] 104 none)) none_ := Keep.push _ _ _
  have g3 : (H2.push (.cells [.int .i64 (numN bs : Nat), .int .i64 0, .int .i64 0, .snil] 104 none)).get H2.n = .cells [.int .i64 (numN bs : Nat), .int .i64 0, .int .i64 0, .snil] 104 none := get_push_new
  have q3 : (H2.push (.cells [.int .i64 (numN bs : Nat), .int .i64 0, .int .i64 0, .snil] 104 none)).n = H2.n + 1 := rfl
  generalize H2.push (.cells [.int .i64 (numN bs : Nat), .int .i64 0, .int .i64 0, .snil] 104 none) = H3 at k3 g3 q3 ⊢
  have rd3 : IsRd H3 _ H0.n (numR bs) := rd2.keep k3 (fun h => h)
  refine callI_of cal82 (number_ _ _ (numR bs) H3 rd3 hb2 (by omega)) fun r4 H4 ⟨e4, rd4, k4⟩ => ?_
  subst e4
  change IsRd H4 _ H0.n (numR (numR bs)) at rd4
  have hb4 := numR_lt hb2
  have hl4 := numR_len (numR bs)
  have g4 := (k4.get H2.n (by omega) (by omega)).trans g3
  have q4 := k4.n
  simp only [bW, Nat.reduceEqDiff, Nat.reduceAdd, Nat.reduceLeDiff, ft_104_0, ft_104_1, lt_3, zt_3, g4]
  have k5 : Keep H4 (H4.set H2.n (.cells [.int .i64 (numN bs : Nat), .int .i64 (numN (numR bs) : Nat), .int .i64 0, .snil] 104 none)) (fun q => q = H2.n) := Keep.set _ _ _
  have g5 : (H4.set H2.n (.cells [.int .i64 (numN bs : Nat), .int .i64 (numN (numR bs) : Nat), .int .i64 0, .snil] 104 none)).get H2.n = .cells [.int .i64 (numN bs : Nat), .int .i64 (numN (numR bs) : Nat), .int .i64 0, .snil] 104 none := get_set_same
  have kA : Keep h H4 none_ := ((k0.trans k1 fun _ _ h => h).trans k2 (fun x hx hh => by omega)).trans ((k3.mono fun _ h => False.elim h).trans k4 fun _ _ h => h) (fun x hx hh => by omega)
  have gz := (k4.get h.n (by omega) (by omega)).trans ((k3.get h.n (by omega) (fun h => h)).trans ((k2.get h.n (by omega) (by omega)).trans ((k1.get h.n (by omega) (fun h => h)).trans g0)))
  have gz5 : (H4.set H2.n (.cells [.int .i64 (numN bs : Nat), .int .i64 (numN (numR bs) : Nat), .int .i64 0, .snil] 104 none)).get h.n = _ := (k5.get h.n (by omega) (by omega)).trans gz
  have q5 : (H4.set H2.n (.cells [.int .i64 (numN bs : Nat), .int .i64 (numN (numR bs) : Nat), .int .i64 0, .snil] 104 none)).n = H4.n := rfl
  have rd5 : IsRd (H4.set H2.n (.cells [.int .i64 (numN bs : Nat), .int .i64 (numN (numR bs) : Nat), .int .i64 0, .snil] 104 none)) _ H0.n (numR (numR bs)) := rd4.keep k5 (by omega)
  have kB : Keep h (H4.set H2.n (.cells [.int .i64 (numN bs : Nat), .int .i64 (numN (numR bs) : Nat), .int .i64 0, .snil] 104 none)) none_ := kA.trans k5 (fun x hx hh => by omega)
  unfold readC
  generalize hk : numN bs = K at *
  generalize he : numN (numR bs) = E at *
  generalize H4.set H2.n (.cells [.int .i64 (K : Nat), .int .i64 (E : Nat), .int .i64 0, .snil] 104 none) = H5 at *
  have d0 : dropC (.cells [.int .i64 (K : Nat), .int .i64 (E : Nat), .int .i64 0, .snil] 104 none) 0 = some [.int .i64 (K : Nat), .int .i64 (E : Nat), .int .i64 0, .snil] := rfl
  have d1 : dropC (.cells [.int .i64 (K : Nat), .int .i64 (E : Nat), .int .i64 0, .snil] 104 none) 1 = some [.int .i64 (E : Nat), .int .i64 0, .snil] := rfl
  by_cases h2 : K = 2
  · have c1 : ((K : Int) == 2) = true := by rw [h2]; rfl
    rw [if_pos h2]
    simp only [bW, c1]
    refine SWp.drawnS (fun q => q = h.n) [9] (.q 0 (.q 1 (.q 2 (.c 3 (.q 4 (.q 5 (.c 6 (.q 7 (.q 8 (.e 9 (.q 10 .done) .stop)))))))))) (by kernel_rfl) (by kernel_rfl) (by kernel_rfl) ?_
    have f1 : (H2.n = h.n) = False := eq_false (by omega)
    have f2 : (H0.n = h.n) = False := eq_false (by omega)
    simp only [bW, bS, bM, Nat.reduceEqDiff, Nat.reduceAdd, ft_104_1, lt_104, lt_3, g5, d0, d1, f1]
    refine siI_c rfl rfl rfl (fun h' _ => pMayEpoch (E : Int) h') ?_
    have hst : setC (some 4) (AObj.cells [.int .i64 0, .int .i64 0, .int .i64 0, .snil] 104 none) 0 [.int .i64 (K : Nat), .int .i64 (E : Nat), .int .i64 0, .snil] = some (.cells [.int .i64 (K : Nat), .int .i64 (E : Nat), .int .i64 0, .snil] 104 none) := by
      rw [setC_row (n := 4) rfl rfl, if_pos (by decide)]; rfl
    have hcl : (V.agg [.int .i64 (K : Nat), .int .i64 (E : Nat), .int .i64 0, .snil]).cells = some [.int .i64 (K : Nat), .int .i64 (E : Nat), .int .i64 0, .snil] := rfl
    have kst : Keep H5 (H5.set h.n (.cells [.int .i64 (K : Nat), .int .i64 (E : Nat), .int .i64 0, .snil] 104 none)) (fun q => q = h.n) := Keep.set _ _ _
    have dd : dropC (.cells [.int .i64 (K : Nat), .int .i64 (E : Nat), .int .i64 0, .snil] 104 none) 0 = some [.int .i64 (K : Nat), .int .i64 (E : Nat), .int .i64 0, .snil] := rfl
    have kF : Keep h (H5.set h.n (.cells [.int .i64 (K : Nat), .int .i64 (E : Nat), .int .i64 0, .snil] 104 none)) none_ := kB.trans (Keep.set _ _ _) (fun x hx hh => by omega)
    subst h2
    have hlz : ((((numR (numR bs)).length : Nat) : Int) == 0) = decide (numR (numR bs) = []) := by
      rw [Bool.eq_iff_iff, beq_iff_eq, decide_eq_true_iff, ← List.length_eq_zero_iff]
      omega
    cases hm : mayEp (E : Int)
    · simp only [bW, bS, bM, Nat.reduceEqDiff]
      refine siI_cskip rfl rfl ?_
      simp only [bW, bS, bM, Nat.reduceEqDiff, Nat.reduceAdd, lt_104, zt_104, d0, gz5, hst, hcl, kst, retA_ret, Tryz.results42, resultsC_2, resultA_tmp, resultA_cell, res2_some]
      exact hid_mk ⟨_, z1 _ _ _ _, kF⟩
    · simp only [bW, bS, bM, Nat.reduceEqDiff]
      refine siI_c rfl rfl rfl (fun h' hk => Left h' _ _ (numR (numR bs)) (hk.elim (fun hk => rd5.keep hk (by omega)) (fun e => e ▸ rd5))) ?_
      simp only [bW, bS, bM, Nat.reduceEqDiff, Nat.reduceAdd, lt_104, zt_104, d0, gz5, hst, hcl, kst, hlz, retA_ret, Tryz.results42, resultsC_2, resultA_tmp, resultA_cell, res2_some]
      exact hid_mk ⟨_, z1 _ _ _ _, kF⟩
  rw [if_neg h2]
  have c1 : ((K : Int) == 2) = false := by rw [beq_eq_false_iff_ne]; omega
  by_cases h1 : K = 1
  case neg =>
    have c2 : ((K : Int) == 1) = false := by rw [beq_eq_false_iff_ne]; omega
    rw [if_neg h1]
    have hst : setC (some 4) (AObj.cells [.int .i64 0, .int .i64 0, .int .i64 0, .snil] 104 none) 0 [.int .i64 0, .int .i64 0, .int .i64 0, .snil] = some (.cells [.int .i64 0, .int .i64 0, .int .i64 0, .snil] 104 none) := by
      rw [setC_row (n := 4) rfl rfl, if_pos (by decide)]; rfl
    have dd : dropC (.cells [.int .i64 0, .int .i64 0, .int .i64 0, .snil] 104 none) 0 = some [.int .i64 0, .int .i64 0, .int .i64 0, .snil] := rfl
    have kF : Keep h (H5.set h.n (.cells [.int .i64 0, .int .i64 0, .int .i64 0, .snil] 104 none)) none_ := kB.trans (Keep.set _ _ _) (fun x hx hh => by omega)
    simp only [bW, Nat.reduceEqDiff, Nat.reduceAdd, lt_104, pl_104, zc_104, zt_104, c1, c2, gz5, hst, dd, retA_ret, Tryz.results42, resultsC_2, resultA_tmp, resultA_cell, res2_some]
    exact hid_mk ⟨_, z1 _ _ _ _, kF⟩
  rw [if_pos h1]
  subst h1
  have c2 : (((1 : Nat) : Int) == 1) = true := rfl
  simp only [bW, Nat.reduceEqDiff, c1, c2]
  refine callI_of cal82 (number_ _ _ (numR (numR bs)) H5 rd5 hb4 (by omega)) fun r6 H6 ⟨e6, rd6, k6⟩ => ?_
  subst e6
  change IsRd H6 _ H0.n (numR (numR (numR bs))) at rd6
  have hb6 := numR_lt hb4
  have hl6 := numR_len (numR (numR bs))
  generalize numR (numR (numR bs)) = R at *
  generalize numN (numR (numR bs)) = A at *
  have q6 := k6.n
  have g6 := (k6.get H2.n (by omega) (by omega)).trans g5
  have gz6 := (k6.get h.n (by omega) (by omega)).trans gz5
  simp only [bW, Nat.reduceEqDiff, Nat.reduceAdd, Nat.reduceLeDiff, ft_104_2, zt_3, g6]
  have k7 : Keep H6 (H6.set H2.n (.cells [.int .i64 ((1 : Nat) : Int), .int .i64 (E : Nat), .int .i64 (A : Nat), .snil] 104 none)) (fun q => q = H2.n) := Keep.set _ _ _
  have g7 : (H6.set H2.n (.cells [.int .i64 ((1 : Nat) : Int), .int .i64 (E : Nat), .int .i64 (A : Nat), .snil] 104 none)).get H2.n = .cells [.int .i64 ((1 : Nat) : Int), .int .i64 (E : Nat), .int .i64 (A : Nat), .snil] 104 none := get_set_same
  have gz7 := (k7.get h.n (by omega) (by omega)).trans gz6
  have rd7 := rd6.keep k7 (by omega)
  have kC : Keep h (H6.set H2.n (.cells [.int .i64 ((1 : Nat) : Int), .int .i64 (E : Nat), .int .i64 (A : Nat), .snil] 104 none)) none_ := (kB.trans k6 (fun x hx hh => by omega)).trans k7 (fun x hx hh => by omega)
  have q7 : (H6.set H2.n (.cells [.int .i64 ((1 : Nat) : Int), .int .i64 (E : Nat), .int .i64 (A : Nat), .snil] 104 none)).n = H6.n := rfl
  generalize H6.set H2.n (.cells [.int .i64 ((1 : Nat) : Int), .int .i64 (E : Nat), .int .i64 (A : Nat), .snil] 104 none) = H7 at *
  refine callI_of cal84 (RBytes _ _ R H7 rd7 hb6 (by omega)) fun r8 H8 ⟨e8, rd8, k8⟩ => ?_
  subst e8
  have hgl : (getBytes R).1.length ≤ 2 ^ 40 := by
    unfold getBytes
    split
    · simp
    · split
      · simp
      · simp only [List.length_take, List.length_drop]; omega
  generalize getBytes R = G at *
  obtain ⟨x, rest, bad⟩ := G
  simp only at rd8 hgl ⊢
  have q8 := k8.n
  have g8 := (k8.get H2.n (by omega) (by omega)).trans g7
  have gz8 := (k8.get h.n (by omega) (by omega)).trans gz7
  simp only [bW, Nat.reduceEqDiff, Nat.reduceAdd, ft_104_3, zt_29, g8]
  generalize hcs : [V.int .i64 ((1 : Nat) : Int), .int .i64 (E : Nat), .int .i64 (A : Nat), .imm x.length (bytesV x)] = cs
  have hcE : cs = actE ⟨1, E, A, x⟩ := hcs.symm
  have k9 : Keep H8 (H8.set H2.n (.cells cs 104 none)) (fun q => q = H2.n) := Keep.set _ _ _
  have g9 : (H8.set H2.n (.cells cs 104 none)).get H2.n = .cells cs 104 none := get_set_same
  have gz9 := (k9.get h.n (by omega) (by omega)).trans gz8
  have rd9 := rd8.keep k9 (by omega)
  have kD : Keep h (H8.set H2.n (.cells cs 104 none)) none_ := (kC.trans k8 (fun x hx hh => by omega)).trans k9 (fun x hx hh => by omega)
  have q9 : (H8.set H2.n (.cells cs 104 none)).n = H8.n := rfl
  generalize H8.set H2.n (.cells cs 104 none) = H9 at *
  have hlen : cs.length = 4 := by rw [hcE]; rfl
  have hone : cs.all (·.one) = true := by rw [hcE]; rfl
  have hst : setC (some 4) (AObj.cells [.int .i64 0, .int .i64 0, .int .i64 0, .snil] 104 none) 0 cs = some (.cells cs 104 none) := by
    rw [setC_row (n := 4) hlen hone, if_pos (by decide), hcE]; rfl
  have hcl : (V.agg cs).cells = some cs := by rw [hcE]; rfl
  have dd : dropC (.cells cs 104 none) 0 = some cs := rfl
  have hld : loadGo (some (some 4)) (some cs) = some (.agg cs) := by rw [hcE]; rfl
  have kst : Keep H9 (H9.set h.n (.cells cs 104 none)) (fun q => q = h.n) := Keep.set _ _ _
  have kF : Keep h (H9.set h.n (.cells cs 104 none)) none_ := kD.trans (Keep.set _ _ _) (fun x hx hh => by omega)
  have f1 : (H2.n = h.n) = False := eq_false (by omega)
  have f2 : (H0.n = h.n) = False := eq_false (by omega)
  have hlz : (((rest.length : Nat) : Int) == 0) = decide (rest = []) := by
    rw [Bool.eq_iff_iff, beq_iff_eq, decide_eq_true_iff, ← List.length_eq_zero_iff]
    omega
  have hend : ∀ b : Bool, Cast (.tuple [.agg cs, .bool b]) (H9.set h.n (.cells cs 104 none)) (.tuple [.agg (actE ⟨1, E, A, x⟩), .bool b]) (H9.set h.n (.cells cs 104 none)) := fun b => by rw [hcE]; exact Cast.refl _ _
  refine SWp.drawnS (fun q => q = h.n) [12] (.q 0 (.q 1 (.q 2 (.q 3 (.q 4 (.c 5 (.q 6 (.q 7 (.q 8 (.c 9 (.q 10 (.q 11 (.e 12 (.q 13 .done) .stop))))))))))))) (by kernel_rfl) (by kernel_rfl) (by kernel_rfl) ?_
  by_cases hbad : bad = 0
  case neg =>
    have c3 : (((bad : Nat) : Int) == 0) = false := by rw [beq_eq_false_iff_ne]; omega
    simp only [bW, bS, bM, Nat.reduceEqDiff, lt_104, g9, dd, hld, f1, c3]
    refine siI_cskip rfl rfl ?_
    simp only [bW, bS, bM, Nat.reduceEqDiff]
    refine siI_cskip rfl rfl ?_
    simp only [bW, bS, bM, Nat.reduceEqDiff, lt_104, zt_104, dd, hld, gz9, hst, hcl, kst, retA_ret, Tryz.results42, resultsC_2, resultA_tmp, resultA_cell, res2_some]
    rw [decide_eq_false hbad]
    exact hid_mk ⟨_, hend _, kF⟩
  subst hbad
  have c3 : (((0 : Nat) : Int) == 0) = true := rfl
  simp only [bW, bS, bM, Nat.reduceEqDiff, lt_104, g9, dd, hld, f1, c3]
  refine siI_c rfl rfl rfl (fun h' hk => by rw [hcE]; exact pMayWrite ⟨1, E, A, x⟩ h' (Nat.le_trans hgl (by decide))) ?_
  cases hm : mayWr ⟨1, E, A, x⟩
  · simp only [bW, bS, bM, Nat.reduceEqDiff]
    refine siI_cskip rfl rfl ?_
    simp only [bW, bS, bM, Nat.reduceEqDiff, lt_104, zt_104, dd, hld, gz9, hst, hcl, kst, retA_ret, Tryz.results42, resultsC_2, resultA_tmp, resultA_cell, res2_some]
    exact hid_mk ⟨_, hend _, kF⟩
  · simp only [bW, bS, bM, Nat.reduceEqDiff]
    refine siI_c rfl rfl rfl (fun h' hk => Left h' _ _ rest (hk.elim (fun hk => rd9.keep hk (by omega)) (fun e => e ▸ rd9))) ?_
    simp only [bW, bS, bM, Nat.reduceEqDiff, lt_104, zt_104, dd, hld, gz9, hst, hcl, kst, hlz, retA_ret, Tryz.results42, resultsC_2, resultA_tmp, resultA_cell, res2_some]
    exact hid_mk ⟨_, hend _, kF⟩
end Go.Proofs.YtilgpaibolollaaGreat.Pk
namespace Go.Proofs.YtilgpaibolollaaGreat.Pk
open Go Go.Proofs Go.Proofs.YtilgpaibolollaaGreat.Ab
set_option maxRecDepth 10000
set_option linter.unusedVariables false
set_option linter.unusedSimpArgs false
/-! ### A node: its epoch, its cells -/
abbrev Ces := List (Nat × Int × Cel)
def celV (c : Cel) : V := .agg (celE c)
structure IsNod (h : AHeap) (a m k : Nat) (ep : Int) (es : Ces) (cl : Nat) : Prop where
  lt : a < h.n
  get : h.get a = .cells [.ptr k 0, .int .i64 ep, .map m] 100 none
  ml : m < h.n
  map : h.get m = .map (mapK (V.int .i64) celV es) cl
  ne : a ≠ m
theorem IsNod.keep {h h' : AHeap} {a m k cl : Nat} {ep : Int} {es : Ces} (d : IsNod h a m k ep es cl) {own : Nat → Prop} (hk : Keep h h' own) (ha : ¬ own a) (hm : ¬ own m) : IsNod h' a m k ep es cl :=
  ⟨Nat.lt_of_lt_of_le d.lt hk.n, (hk.get a d.lt ha).trans d.get, Nat.lt_of_lt_of_le d.ml hk.n, (hk.get m d.ml hm).trans d.map, d.ne⟩
theorem lookCel {h : AHeap} {m cl : Nat} {es : Ces} (hg : h.get m = .map (mapK (V.int .i64) celV es) cl) (k : Int) : aLookup Tryz.prog 98 (.map m) (.int .i64 k) true h =
    some (match kget es k with | some c => .tuple [.agg (celE c), .bool true] | none => .tuple [.agg [.int .i64 0, .int .i64 0, .snil], .bool false]) := by
  have hz : ∃ z, zeroT Tryz.prog 48 = some z ∧ absV z = .agg [.int .i64 0, .int .i64 0, .snil] := ⟨.agg #[.int .i64 0, .int .i64 0, .slice none 0 0], by kernel_rfl, rfl⟩
  obtain ⟨z, hz1, hz2⟩ := hz
  have := lookup_k (enc := celV) (ok := true) (KeyEnc.ofInt mt_98) (k := k) mt_98 hz1 hg
  rw [this, hz2]
  cases kget es k <;> rfl
theorem updCel {h : AHeap} {m cl : Nat} {es : Ces} (hg : h.get m = .map (mapK (V.int .i64) celV es) cl) (k : Int) (c : Cel) : aUpdate Tryz.prog 98 (.map m) (.int .i64 k) (.agg (celE c)) h =
    some (h.set m (.map (mapK (V.int .i64) celV (kset cl es k c)) (kclk cl es k))) :=
  update_k (enc := celV) (KeyEnc.ofInt mt_98) (k := k) mt_98 hg rfl
/-- Does an act take effect at a node? -/
def folB (ep : Int) (es : Ces) (a : Act) : Bool :=
  if a.kind = 2 then decide (ep < a.epoch) else decide (ep ≤ a.epoch) && (match kget es a.at_ with | some c => decide (c.epoch < a.epoch) | none => true)
set_option maxRecDepth 10000 in
theorem pFollows (h : AHeap) (n m k cl : Nat) (ep : Int) (es : Ces) (d : IsNod h n m k ep es cl) (a : Act) : Pure Tryz.prog 43 [.ptr n 0, .agg (actE a)] h (.bool (folB ep es a)) := by
  obtain ⟨kind, epoch, at_, bytes⟩ := a
  refine Pure.val (Clo.bool _) ?_
  have k0 : Keep h (h.push (.cells (actE ⟨kind, epoch, at_, bytes⟩) 104 none)) none_ := Keep.push _ _ _
  have d0 := d.keep k0 (fun h => h) (fun h => h)
  have g0 : (h.push (.cells (actE ⟨kind, epoch, at_, bytes⟩) 104 none)).get h.n = .cells (actE ⟨kind, epoch, at_, bytes⟩) 104 none := get_push_new
  have e0 : dropC (.cells (actE ⟨kind, epoch, at_, bytes⟩) 104 none) 0 = some [.int .i64 kind, .int .i64 epoch, .int .i64 at_, .imm bytes.length (bytesV bytes)] := rfl
  have e1 : dropC (.cells (actE ⟨kind, epoch, at_, bytes⟩) 104 none) 1 = some [.int .i64 epoch, .int .i64 at_, .imm bytes.length (bytesV bytes)] := rfl
  have e2 : dropC (.cells (actE ⟨kind, epoch, at_, bytes⟩) 104 none) 2 = some [.int .i64 at_, .imm bytes.length (bytesV bytes)] := rfl
  have hcl : (V.agg (actE ⟨kind, epoch, at_, bytes⟩)).cells = some (actE ⟨kind, epoch, at_, bytes⟩) := rfl
  refine SCalls.enterI (c := _) Tryz.func43 rfl (by kernel_rfl) (by simp) ?_
  have l0 : loadGo (some none) (some (actE ⟨kind, epoch, at_, bytes⟩)) = some (.int .i64 kind) := rfl
  have v0 := d0.get
  have vm := d0.map
  have q0 : (h.push (.cells (actE ⟨kind, epoch, at_, bytes⟩) 104 none)).n = h.n + 1 := rfl
  have dn := d.lt
  have dm := d.ml
  by_cases hk : kind = 2
  · have c1 : (kind == 2) = true := by rw [hk]; rfl
    have hF : folB ep es ⟨kind, epoch, at_, bytes⟩ = decide (ep < epoch) := by unfold folB; rw [if_pos hk]
    simp only [bW, Nat.reduceEqDiff, ft_104_0, lt_3, hcl, l0, c1]
    generalize h.push (.cells (actE ⟨kind, epoch, at_, bytes⟩) 104 none) = H0 at *
    refine SWp.drawnS none_ [] (.q 0 (.q 1 (.q 2 (.q 3 (.q 4 (.q 5 (.q 6 (.q 7 .done)))))))) (by kernel_rfl) (by kernel_rfl) (by kernel_rfl) ?_
    simp only [bW, bS, Nat.reduceEqDiff, Nat.reduceAdd, Nat.reduceLeDiff, reduceCtorEq, ft_100_1, ft_104_1, lt_3, g0, e1, v0, retA_ret, Tryz.results43, resultsA_1]
    exact hid_mk ⟨by rw [hF], k0⟩
  have c1 : (kind == 2) = false := by rw [beq_eq_false_iff_ne]; exact hk
  have lk := lookCel vm at_
  simp only [bW, Nat.reduceEqDiff, ft_104_0, lt_3, hcl, l0, c1]
  generalize h.push (.cells (actE ⟨kind, epoch, at_, bytes⟩) 104 none) = H0 at *
  refine SWp.drawnS none_ [10, 11] (.q 0 (.q 1 (.q 2 (.q 3 (.q 4 (.q 5 (.q 6 (.q 7 (.q 8 (.q 9 (.e 10 (.e 11 (.q 12 .done) .stop) .stop))))))))))) (by kernel_rfl) (by kernel_rfl) (by kernel_rfl) ?_
  simp only [bW, bS, Nat.reduceEqDiff, Nat.reduceAdd, Nat.reduceLeDiff, reduceCtorEq, ft_100_2, ft_104_2, lt_3, lt_98, g0, e2, v0, lk]
  cases hg : kget es at_ with
  | none =>
    have hF : folB ep es ⟨kind, epoch, at_, bytes⟩ = (decide (ep ≤ epoch) && true) := by unfold folB; rw [if_neg hk]; simp only [hg]
    simp only [bW, bS, Nat.reduceEqDiff, Nat.reduceAdd, zc_48, zt_48]
    have k1 : Keep H0 (H0.push (.cells [.int .i64 0, .int .i64 0, .snil] 48 none)) none_ := Keep.push _ _ _
    have g1 := (k1.get h.n (by omega) (fun h => h)).trans g0
    have v1 := (d0.keep k1 (fun h => h) (fun h => h)).get
    have kF := k0.trans k1 fun _ _ h => h
    generalize H0.push (.cells [.int .i64 0, .int .i64 0, .snil] 48 none) = H1 at *
    refine SWp.drawnS none_ [] (.q 0 (.q 1 (.q 2 (.q 3 (.q 4 (.q 5 (.q 6 (.q 7 (.q 8 (.q 9 (.q 10 (.q 11 (.q 12 (.q 13 (.q 14 (.q 15 (.q 16 (.q 17 (.q 18 .done))))))))))))))))))) (by kernel_rfl) (by kernel_rfl) (by kernel_rfl) ?_
    by_cases c2 : ep ≤ epoch
    · simp only [bW, bS, Nat.reduceEqDiff, Nat.reduceAdd, Nat.reduceLeDiff, reduceCtorEq, ft_100_1, ft_104_1, lt_3, g1, e1, v1, c2, retA_ret, Tryz.results43, resultsA_1]
      exact hid_mk ⟨by rw [hF]; simp [c2], kF⟩
    · simp only [bW, bS, Nat.reduceEqDiff, Nat.reduceAdd, Nat.reduceLeDiff, reduceCtorEq, ft_100_1, ft_104_1, lt_3, g1, e1, v1, c2, retA_ret, Tryz.results43, resultsA_1]
      exact hid_mk ⟨by rw [hF]; simp [c2], kF⟩
  | some c =>
    obtain ⟨ca, ce, cb⟩ := c
    have hF : folB ep es ⟨kind, epoch, at_, bytes⟩ = (decide (ep ≤ epoch) && decide (ce < epoch)) := by unfold folB; rw [if_neg hk]; simp only [hg]
    have hst : setC (some 3) (AObj.cells [.int .i64 0, .int .i64 0, .snil] 48 none) 0 (celE ⟨ca, ce, cb⟩) = some (.cells (celE ⟨ca, ce, cb⟩) 48 none) := by
      rw [setC_row (n := 3) rfl rfl, if_pos (by decide)]; rfl
    have hcc : (V.agg (celE ⟨ca, ce, cb⟩)).cells = some (celE ⟨ca, ce, cb⟩) := rfl
    simp only [bW, bS, Nat.reduceEqDiff, zc_48, zt_48, hst, hcc]
    have k1 : Keep H0 (H0.push (.cells (celE ⟨ca, ce, cb⟩) 48 none)) none_ := Keep.push _ _ _
    have g1 := (k1.get h.n (by omega) (fun h => h)).trans g0
    have v1 := (d0.keep k1 (fun h => h) (fun h => h)).get
    have w1 : (H0.push (.cells (celE ⟨ca, ce, cb⟩) 48 none)).get H0.n = .cells (celE ⟨ca, ce, cb⟩) 48 none := get_push_new
    have w1d : dropC (.cells (celE ⟨ca, ce, cb⟩) 48 none) 1 = some [.int .i64 ce, .imm cb.length (bytesV cb)] := rfl
    have kF := k0.trans k1 fun _ _ h => h
    generalize H0.push (.cells (celE ⟨ca, ce, cb⟩) 48 none) = H1 at *
    refine SWp.drawnS none_ [] (.q 0 (.q 1 (.q 2 (.q 3 (.q 4 (.q 5 (.q 6 (.q 7 (.q 8 (.q 9 (.q 10 (.q 11 (.q 12 (.q 13 (.q 14 (.q 15 (.q 16 (.q 17 (.q 18 .done))))))))))))))))))) (by kernel_rfl) (by kernel_rfl) (by kernel_rfl) ?_
    by_cases c2 : ep ≤ epoch
    · simp only [bW, bS, Nat.reduceEqDiff, Nat.reduceAdd, Nat.reduceLeDiff, reduceCtorEq, ft_100_1, ft_104_1, ft_48_1, lt_3, g1, e1, v1, w1, w1d, c2, retA_ret, Tryz.results43, resultsA_1]
      exact hid_mk ⟨by rw [hF]; simp [c2], kF⟩
    · simp only [bW, bS, Nat.reduceEqDiff, Nat.reduceAdd, Nat.reduceLeDiff, reduceCtorEq, ft_100_1, ft_104_1, lt_3, g1, e1, v1, c2, retA_ret, Tryz.results43, resultsA_1]
      exact hid_mk ⟨by rw [hF]; simp [c2], kF⟩
end Go.Proofs.YtilgpaibolollaaGreat.Pk
namespace Go.Proofs.YtilgpaibolollaaGreat.Pk
open Go Go.Proofs Go.Proofs.YtilgpaibolollaaGreat.Ab
set_option maxRecDepth 10000
set_option linter.unusedVariables false
set_option linter.unusedSimpArgs false
def appE (ep : Int) (a : Act) : Int := if a.kind = 2 then a.epoch else ep
def appC (cl : Nat) (es : Ces) (a : Act) : Ces := if a.kind = 2 then es else kset cl es a.at_ ⟨a.at_, a.epoch, a.bytes⟩
def appK (cl : Nat) (es : Ces) (a : Act) : Nat := if a.kind = 2 then cl else kclk cl es a.at_
set_option maxRecDepth 10000 in
theorem sApply (h : AHeap) (n m k cl : Nat) (ep : Int) (es : Ces) (d : IsNod h n m k ep es cl) (a : Act) (hl : a.bytes.length ≤ 2 ^ 40) :
    SCalls Tryz.prog 44 [.ptr n 0, .agg (actE a)] h (fun r h' => IsNod h' n m k (appE ep a) (appC cl es a) (appK cl es a) ∧ Keep h h' (fun q => q = n ∨ q = m)) := by
  obtain ⟨kind, epoch, at_, bytes⟩ := a
  simp only at hl
  have k0 : Keep h (h.push (.cells (actE ⟨kind, epoch, at_, bytes⟩) 104 none)) none_ := Keep.push _ _ _
  have d0 := d.keep k0 (fun h => h) (fun h => h)
  have g0 : (h.push (.cells (actE ⟨kind, epoch, at_, bytes⟩) 104 none)).get h.n = .cells (actE ⟨kind, epoch, at_, bytes⟩) 104 none := get_push_new
  have e1 : dropC (.cells (actE ⟨kind, epoch, at_, bytes⟩) 104 none) 1 = some [.int .i64 epoch, .int .i64 at_, .imm bytes.length (bytesV bytes)] := rfl
  have e2 : dropC (.cells (actE ⟨kind, epoch, at_, bytes⟩) 104 none) 2 = some [.int .i64 at_, .imm bytes.length (bytesV bytes)] := rfl
  have e3 : dropC (.cells (actE ⟨kind, epoch, at_, bytes⟩) 104 none) 3 = some [.imm bytes.length (bytesV bytes)] := rfl
  have hcl : (V.agg (actE ⟨kind, epoch, at_, bytes⟩)).cells = some (actE ⟨kind, epoch, at_, bytes⟩) := rfl
  have l0 : loadGo (some none) (some (actE ⟨kind, epoch, at_, bytes⟩)) = some (.int .i64 kind) := rfl
  have v0 := d0.get
  have vm := d0.map
  have q0 : (h.push (.cells (actE ⟨kind, epoch, at_, bytes⟩) 104 none)).n = h.n + 1 := rfl
  have dn := d.lt
  have dm := d.ml
  refine SCalls.enterI (c := _) Tryz.func44 rfl (by kernel_rfl) (by simp) ?_
  by_cases hk : kind = 2
  · have c1 : (kind == 2) = true := by rw [hk]; rfl
    simp only [bW, Nat.reduceEqDiff, Nat.reduceAdd, Nat.reduceLeDiff, reduceCtorEq, ft_100_1, ft_104_0, ft_104_1, lt_3, zt_3, hcl, l0, c1, g0, e1, v0, retA_ret, Tryz.results44, resultsA_0]
    generalize h.push (.cells (actE ⟨kind, epoch, at_, bytes⟩) 104 none) = H0 at *
    refine hid_mk ⟨?_, (k0.mono fun _ h => False.elim h).trans (Keep.set _ _ _) fun x _ hx => .inl hx⟩
    have hE : appE ep ⟨kind, epoch, at_, bytes⟩ = epoch := by unfold appE; rw [if_pos hk]
    have hC : appC cl es ⟨kind, epoch, at_, bytes⟩ = es := by unfold appC; rw [if_pos hk]
    have hK : appK cl es ⟨kind, epoch, at_, bytes⟩ = cl := by unfold appK; rw [if_pos hk]
    rw [hE, hC, hK]
    exact ⟨by rw [set_n]; exact d0.lt, get_set_same, by rw [set_n]; exact d0.ml, (get_set_ne d.ne.symm).trans vm, d.ne⟩
  have c1 : (kind == 2) = false := by rw [beq_eq_false_iff_ne]; exact hk
  simp only [bW, Nat.reduceEqDiff, ft_104_0, lt_3, hcl, l0, c1]
  generalize h.push (.cells (actE ⟨kind, epoch, at_, bytes⟩) 104 none) = H0 at *
  have hup := updCel vm at_ ⟨at_, epoch, bytes⟩
  have hce : ∀ v w, V.agg [.int .i64 v, .int .i64 w, .imm bytes.length (bytesV bytes)] = .agg (celE ⟨v, w, bytes⟩) := fun _ _ => rfl
  refine SWp.drawnS none_ [14] (.q 0 (.q 1 (.q 2 (.q 3 (.q 4 (.q 5 (.q 6 (.q 7 (.q 8 (.q 9 (.q 10 (.q 11 (.q 12 (.c 13 (.a 14 .done))))))))))))))) (by kernel_rfl) (by kernel_rfl) (by kernel_rfl) ?_
  simp only [bW, bS, Nat.reduceEqDiff, Nat.reduceAdd, Nat.reduceLeDiff, reduceCtorEq, ft_100_2, ft_104_1, ft_104_2, ft_104_3, lt_29, lt_3, lt_98, pl_48, zc_48, g0, e1, e2, e3, v0]
  refine siI_c rfl rfl rfl (fun h' _ => pOwn ⟨at_, epoch, bytes⟩ h' hl) ?_
  simp only [bW, bS, Nat.reduceEqDiff, hup, retA_normal, Tryz.results44, resultsA_0]
  refine hid_mk ⟨?_, (k0.mono fun _ h => False.elim h).trans (Keep.set _ _ _) fun x _ hx => .inr hx⟩
  have hE : appE ep ⟨kind, epoch, at_, bytes⟩ = ep := by unfold appE; rw [if_neg hk]
  have hC : appC cl es ⟨kind, epoch, at_, bytes⟩ = kset cl es at_ ⟨at_, epoch, bytes⟩ := by unfold appC; rw [if_neg hk]
  have hK : appK cl es ⟨kind, epoch, at_, bytes⟩ = kclk cl es at_ := by unfold appK; rw [if_neg hk]
  rw [hE, hC, hK]
  exact ⟨by rw [set_n]; exact d0.lt, (get_set_ne d.ne).trans v0, by rw [set_n]; exact d0.ml, get_set_same, d.ne⟩
end Go.Proofs.YtilgpaibolollaaGreat.Pk
namespace Go.Proofs.YtilgpaibolollaaGreat.Pk
open Go Go.Proofs Go.Proofs.YtilgpaibolollaaGreat.Ab
set_option maxRecDepth 10000
set_option linter.unusedVariables false
set_option linter.unusedSimpArgs false
/-! ### Opening a node -/
abbrev NSt := Int × Ces × Nat
/-- What a payload makes of a node. -/
def redo (s : NSt) (p : List Nat) : NSt := if (readC p).2 && folB s.1 s.2.1 (readC p).1 then (appE s.1 (readC p).1, appC s.2.2 s.2.1 (readC p).1, appK s.2.2 s.2.1 (readC p).1) else s
def redoL (l : List (List Nat)) : NSt := l.foldl redo (0, [], 0)
theorem redoL_take {l : List (List Nat)} {i : Nat} (hi : i < l.length) : redoL (l.take (i + 1)) = redo (redoL (l.take i)) l[i] := by
  unfold redoL
  rw [List.take_succ_eq_append_getElem hi, List.foldl_append]
  rfl
theorem openC_mem (b : List Nat) (hb : ∀ x ∈ b, x < 256) : (openC b).1.length ≤ b.length ∧ ∀ x ∈ (openC b).1, x < 256 := by
  unfold openC
  split
  · exact ⟨Nat.zero_le _, fun x hx => by cases hx⟩
  split
  · exact ⟨Nat.zero_le _, fun x hx => by cases hx⟩
  split
  · exact ⟨Nat.zero_le _, fun x hx => by cases hx⟩
  split
  · refine ⟨?_, fun x hx => hb x (List.mem_of_mem_drop (List.mem_of_mem_take hx))⟩
    rw [List.length_take, List.length_drop]
    omega
  · exact ⟨Nat.zero_le _, fun x hx => by cases hx⟩
theorem scanF_mem : ∀ (k : Nat) (b : List Nat), (∀ x ∈ b, x < 256) → ∀ p ∈ (scanF k b).1, p.length ≤ b.length ∧ ∀ x ∈ p, x < 256
  | 0, b, hb, p, hp => by cases hp
  | k + 1, b, hb, p, hp => by
    unfold scanF at hp
    split at hp
    · cases hp
    · rcases List.mem_cons.1 hp with rfl | hp
      · exact openC_mem b hb
      · obtain ⟨h1, h2⟩ := scanF_mem k _ (fun x hx => hb x (List.mem_of_mem_drop hx)) p hp
        rw [List.length_drop] at h1
        exact ⟨by omega, h2⟩
theorem scanF_len : ∀ (k : Nat) (b : List Nat), (scanF k b).1.length ≤ k
  | 0, b => Nat.le_refl _
  | k + 1, b => by
    unfold scanF
    split
    · exact Nat.zero_le _
    · have := scanF_len k (b.drop (openC b).2.1)
      simp only [List.length_cons]
      omega
theorem readC_len (p : List Nat) : (readC p).1.bytes.length ≤ p.length := by
  unfold readC
  split
  · exact Nat.zero_le _
  split
  · have h1 := numR_len p
    have h2 := numR_len (numR p)
    have h3 := numR_len (numR (numR p))
    simp only
    unfold getBytes
    split
    · exact Nat.zero_le _
    split
    · exact Nat.zero_le _
    · simp only [List.length_take, List.length_drop]
      omega
  · exact Nat.zero_le _
/-- A node whole. -/
structure IsNode (h : AHeap) (a m k j i : Nat) (room : Int) (bs : List Nat) (safe : Int) (v pv : V) (l : List (List Nat)) (torn : Int) (s : NSt) : Prop where
  nod : IsNod h a m k s.1 s.2.1 s.2.2
  seg : IsSeg h k j i room bs safe v pv l torn
  na : ¬ SegP k j i v pv a
  nm : ¬ SegP k j i v pv m
theorem IsSeg.parts_lt {h : AHeap} {k j i : Nat} {room safe torn : Int} {bs : List Nat} {v pv : V} {l : List (List Nat)} (s : IsSeg h k j i room bs safe v pv l torn) : ∀ x, SegP k j i v pv x → x < h.n := fun x hx => by
  rcases hx with hx | hx | hx | hx | hx
  · rw [hx]; exact s.lt
  · rw [hx]; exact s.ltj
  · rw [hx]; exact s.disk.lt
  · exact s.disk.own.lt _ hx
  · exact s.row.lt _ hx
set_option maxRecDepth 10000 in
theorem nOpen (h : AHeap) (i : Nat) (room : Int) (bs : List Nat) (hb : ∀ x ∈ bs, x < 256) (safe : Int) (v : V) (d : IsDisk h (.ptr i 0) room (nI bs) safe i v) :
    SCalls Tryz.prog 8 [.ptr i 0] h (fun r h' => ∃ a m k j v' pv, r = .ptr a 0 ∧ IsNode h' a m k j i room (bs.take (scanF bs.length bs).2) ((scanF bs.length bs).2 : Nat) v' pv (scanF bs.length bs).1 ((bs.length : Int) - ((scanF bs.length bs).2 : Nat)) (redoL (scanF bs.length bs).1) ∧
      idOf v' = idOf v ∧ h.n ≤ a ∧ h.n ≤ m ∧ h.n ≤ k ∧ h.n ≤ j ∧ (∀ x, idOf pv = some x → h.n ≤ x) ∧ Keep h h' (Parts i v)) := by
  have hbl : bs.length ≤ 1048576 := by have := d.len; have := d.most; rw [nI_len] at *; omega
  have hi := d.lt
  have hvl := d.own.lt
  refine SCalls.enterI (c := _) Tryz.func8 rfl (by kernel_rfl) (by simp) ?_
  simp only [bW, Nat.reduceEqDiff, reduceCtorEq]
  refine callI_of cal39 (sOpen h i room bs hb safe v d) fun r1 h1 ⟨k, j, v1, pv, e1, s1, i1, hk, hj, hp, k1⟩ => ?_
  subst e1
  have hmem := scanF_mem bs.length bs hb
  have hll := scanF_len bs.length bs
  generalize scanF bs.length bs = S at *
  obtain ⟨l, n⟩ := S
  simp only at s1 hmem hll ⊢
  simp only [bW, Nat.reduceEqDiff, Nat.reduceAdd, Nat.reduceLeDiff, ft_100_0, lt_96, pl_100, zc_100]
  have gm0 : ((h1.push (.map [] 0)).push (.cells [.ptr k 0, .int .i64 0, .map h1.n] 100 none)).get h1.n = .map [] 0 := get_push2'
  have ga0 : ((h1.push (.map [] 0)).push (.cells [.ptr k 0, .int .i64 0, .map h1.n] 100 none)).get (h1.n + 1) = .cells [.ptr k 0, .int .i64 0, .map h1.n] 100 none := get_push2
  have kp : Keep h1 ((h1.push (.map [] 0)).push (.cells [.ptr k 0, .int .i64 0, .map h1.n] 100 none)) none_ := (Keep.push _ _ _).trans (Keep.push _ _ _) fun _ _ h => h
  have q0 : ((h1.push (.map [] 0)).push (.cells [.ptr k 0, .int .i64 0, .map h1.n] 100 none)).n = h1.n + 2 := rfl
  generalize (h1.push (.map [] 0)).push (.cells [.ptr k 0, .int .i64 0, .map h1.n] 100 none) = H0 at gm0 ga0 kp q0 ⊢
  have s0 := s1.keepN kp
  have pl := s1.parts_lt
  have hL : l.length ≤ 2 ^ 40 := by omega
  refine callI_pure cal40 (sLen H0 k j i room _ _ _ v1 pv l s0 hL) ?_
  simp only [bW]
  have kn := k1.n
  refine SWp.loopG (α := Nat) (fun x f h' => f 3 = .ptr (h1.n + 1) 0 ∧ f 18 = .int .i64 (l.length : Nat) ∧ f 19 = .int .i64 (x : Nat) ∧ x ≤ l.length ∧ IsNod h' (h1.n + 1) h1.n k (redoL (l.take x)).1 (redoL (l.take x)).2.1 (redoL (l.take x)).2.2 ∧
    Keep H0 h' (fun q => q = h1.n + 1 ∨ q = h1.n)) (fun x => l.length - x) 0
    ⟨rfl, rfl, rfl, Nat.zero_le _, ⟨by omega, ga0, by omega, gm0, by omega⟩, Keep.refl _ _⟩ ?_
  rintro x f h' ⟨f3, f18, f19, hx, nd, kH⟩
  have hnp : ∀ q, SegP k j i v1 pv q → ¬ (q = h1.n + 1 ∨ q = h1.n) := fun q hq hh => by have := pl q hq; omega
  have sg := s0.keep kH hnp
  refine wpI_sound (by kernel_rfl) ?_
  by_cases hlt : x < l.length
  · have d1 : decide ((x : Int) < ((l.length : Nat) : Int)) = true := by rw [decide_eq_true_iff]; omega
    have hw : IntKind.i64.wrap ((x : Int) + 1) = ((x + 1 : Nat) : Int) := by rw [Go.IntWalk.i64_in _ (by omega)]; rfl
    obtain ⟨hpl, hpb⟩ := hmem l[x] (List.getElem_mem hlt)
    have hT := redoL_take hlt
    have ng := nd.get
    simp only [bW, Nat.reduceEqDiff, Nat.reduceAdd, ft_100_0, lt_96, f3, f18, f19, d1, ng]
    refine callI_pure cal41 (sGet h' k j i room _ _ _ v1 pv l sg hL x hlt (by omega)) ?_
    simp only [bW, Nat.reduceEqDiff]
    refine callI_pure cal42 (pReadA l[x] h' hpb (by omega)) ?_
    have hrl := readC_len l[x]
    unfold redo at hT
    generalize readC l[x] = O at hT hrl ⊢
    obtain ⟨a, ok⟩ := O
    simp only at hT hrl
    generalize redoL (l.take x) = S at *
    obtain ⟨ep, es, cl⟩ := S
    simp only at hT nd ng
    have hcl : (V.agg (actE a)).cells = some (actE a) := rfl
    have hst : setC (some 4) (AObj.cells [.int .i64 0, .int .i64 0, .int .i64 0, .snil] 104 none) 0 (actE a) = some (.cells (actE a) 104 none) := by
      rw [setC_row (n := 4) rfl rfl, if_pos (by decide)]; rfl
    have dd : dropC (.cells (actE a) 104 none) 0 = some (actE a) := rfl
    have hld : loadGo (some (some 4)) (some (actE a)) = some (.agg (actE a)) := rfl
    have k2 : Keep h' (h'.push (.cells (actE a) 104 none)) none_ := Keep.push _ _ _
    have g2 : (h'.push (.cells (actE a) 104 none)).get h'.n = .cells (actE a) 104 none := get_push_new
    have nd2 := nd.keep k2 (fun h => h) (fun h => h)
    cases ok
    · rw [if_neg (by simp)] at hT
      simp only [bW, Nat.reduceEqDiff, zc_104, zt_104, f19, hcl, hst, hw]
      refine hid_mk ⟨x + 1, ⟨f3, f18, rfl, hlt, ?_, kH.trans (k2.mono fun _ h => False.elim h) fun _ _ h => h⟩, by omega⟩
      rw [hT]
      exact nd2
    · simp only [bW, Nat.reduceEqDiff, lt_104, zc_104, zt_104, f3, hcl, hst, g2, dd, hld]
      refine callI_pure cal43 (pFollows _ (h1.n + 1) h1.n k cl ep es nd2 a) ?_
      cases hf : folB ep es a
      · rw [hf, if_neg (by simp)] at hT
        simp only [bW, Nat.reduceEqDiff, f19, hw]
        refine hid_mk ⟨x + 1, ⟨f3, f18, rfl, hlt, ?_, kH.trans (k2.mono fun _ h => False.elim h) fun _ _ h => h⟩, by omega⟩
        rw [hT]
        exact nd2
      · rw [hf, if_pos (show (true && true) = true from rfl)] at hT
        simp only [bW, Nat.reduceEqDiff, lt_104, f3, g2, dd, hld]
        refine callI_of cal44 (sApply _ (h1.n + 1) h1.n k cl ep es nd2 a (by omega)) fun r3 h3 ⟨nd3, k3⟩ => ?_
        simp only [bW, Nat.reduceEqDiff, f19, hw]
        refine hid_mk ⟨x + 1, ⟨f3, f18, rfl, hlt, ?_, (kH.trans (k2.mono fun _ h => False.elim h) fun _ _ h => h).trans k3 fun _ _ h => h⟩, by omega⟩
        rw [hT]
        exact nd3
  · have d1 : decide ((x : Int) < ((l.length : Nat) : Int)) = false := by rw [decide_eq_false_iff_not]; omega
    have hxl : l.take x = l := by rw [List.take_of_length_le (by omega)]
    rw [hxl] at nd
    simp only [bW, Nat.reduceEqDiff, f3, f18, f19, d1, retA_ret, Tryz.results8, resultsA_1]
    refine hid_mk ⟨h1.n + 1, h1.n, k, j, v1, pv, rfl, ⟨nd, sg, fun hh => hnp _ hh (.inl rfl), fun hh => hnp _ hh (.inr rfl)⟩, i1, by omega, by omega, hk, hj, hp, ?_⟩
    exact (k1.trans ((kp.mono fun _ h => False.elim h)) fun _ _ h => h).trans kH fun q hq hh => by omega
end Go.Proofs.YtilgpaibolollaaGreat.Pk
namespace Go.Proofs.YtilgpaibolollaaGreat.Pk
open Go Go.Proofs Go.Proofs.YtilgpaibolollaaGreat.Ab
set_option maxRecDepth 10000
set_option linter.unusedVariables false
set_option linter.unusedSimpArgs false
def appS (s : NSt) (x : Act) : NSt := (appE s.1 x, appC s.2.2 s.2.1 x, appK s.2.2 s.2.1 x)
/-- What belongs to a node. -/
def NodP (a m k j i : Nat) (v pv : V) : Nat → Prop := fun q => q = a ∨ q = m ∨ SegP k j i v pv q
theorem IsNode.keep {h h' : AHeap} {a m k j i : Nat} {room safe torn : Int} {bs : List Nat} {v pv : V} {l : List (List Nat)} {s : NSt} (d : IsNode h a m k j i room bs safe v pv l torn s) {own : Nat → Prop} (hk : Keep h h' own) (hne : ∀ q, NodP a m k j i v pv q → ¬ own q) : IsNode h' a m k j i room bs safe v pv l torn s :=
  ⟨d.nod.keep hk (hne a (.inl rfl)) (hne m (.inr (.inl rfl))), d.seg.keep hk fun q hq => hne q (.inr (.inr hq)), d.na, d.nm⟩
theorem IsNode.keepN {h h' : AHeap} {a m k j i : Nat} {room safe torn : Int} {bs : List Nat} {v pv : V} {l : List (List Nat)} {s : NSt} (d : IsNode h a m k j i room bs safe v pv l torn s) (hk : Keep h h' none_) : IsNode h' a m k j i room bs safe v pv l torn s := d.keep hk fun _ _ h => h
theorem IsNode.parts_lt {h : AHeap} {a m k j i : Nat} {room safe torn : Int} {bs : List Nat} {v pv : V} {l : List (List Nat)} {s : NSt} (d : IsNode h a m k j i room bs safe v pv l torn s) : ∀ q, NodP a m k j i v pv q → q < h.n := fun q hq => by
  rcases hq with hq | hq | hq
  · rw [hq]; exact d.nod.lt
  · rw [hq]; exact d.nod.ml
  · exact d.seg.parts_lt q hq
def okAct (x : Act) : Prop := (0 ≤ x.kind ∧ x.kind < 2 ^ 62) ∧ (0 ≤ x.epoch ∧ x.epoch < 2 ^ 62) ∧ (0 ≤ x.at_ ∧ x.at_ < 2 ^ 62) ∧ x.bytes.length ≤ 2048
theorem payN_len (x : Act) (ho : okAct x) : (payN x).length ≤ 2 ^ 40 := by
  obtain ⟨h1, h2, h3, h4⟩ := ho
  have e1 := enc_le x.kind.toNat (by omega)
  have e2 := enc_le x.epoch.toNat (by omega)
  have e3 := enc_le x.at_.toNat (by omega)
  have e4 := enc_le x.bytes.length (by omega)
  unfold payN encBytes
  split <;> simp only [List.length_append] <;> omega
set_option maxRecDepth 10000 in
theorem nDo (h : AHeap) (a m k j i : Nat) (room safe torn : Int) (bs : List Nat) (v pv : V) (l : List (List Nat)) (s : NSt) (d : IsNode h a m k j i room bs safe v pv l torn s) (hl : l.length ≤ 2 ^ 30) (x : Act) (ho : okAct x) :
    SCalls Tryz.prog 50 [.ptr a 0, .agg (actE x)] h (fun r h' => r = .int .i64 (putBad room bs (payN x)) ∧
      if putBad room bs (payN x) = 0 then ∃ v' pv', IsNode h' a m k j i room (bs ++ frame (payN x)) ((bs ++ frame (payN x)).length : Nat) v' pv' (l ++ [payN x]) torn (appS s x) ∧ NewP h i v v' ∧ (idOf pv' = idOf pv ∨ ∀ y, idOf pv' = some y → h.n ≤ y) ∧ Keep h h' (NodP a m k j i v pv)
      else IsNode h' a m k j i room bs safe v pv l torn s ∧ Keep h h' none_) := by
  have k0 : Keep h (h.push (.cells (actE x) 104 none)) none_ := Keep.push _ _ _
  have d0 := d.keepN k0
  have g0 : (h.push (.cells (actE x) 104 none)).get h.n = .cells (actE x) 104 none := get_push_new
  have q0 : (h.push (.cells (actE x) 104 none)).n = h.n + 1 := rfl
  have dd : dropC (.cells (actE x) 104 none) 0 = some (actE x) := rfl
  have hld : loadGo (some (some 4)) (some (actE x)) = some (.agg (actE x)) := rfl
  have hcl : (V.agg (actE x)).cells = some (actE x) := rfl
  have plt := d.parts_lt
  have hpl := payN_len x ho
  refine SCalls.enterI (c := _) Tryz.func50 rfl (by kernel_rfl) (by simp) ?_
  simp only [bW, hcl]
  generalize h.push (.cells (actE x) 104 none) = H0 at *
  have v0 := d0.nod.get
  refine SWp.drawnS (fun q => SegP k j i v pv q) [6] (.q 0 (.q 1 (.q 2 (.q 3 (.q 4 (.c 5 (.a 6 (.q 7 .done)))))))) (by kernel_rfl) (by kernel_rfl) (by kernel_rfl) ?_
  have f1 : SegP k j i v pv a = False := eq_false d.na
  have f2 : SegP k j i v pv h.n = False := eq_false fun hh => by have := plt h.n (.inr (.inr hh)); omega
  simp only [bW, bS, bM, Nat.reduceEqDiff, Nat.reduceAdd, reduceCtorEq, ft_100_0, lt_104, lt_96, v0, g0, dd, hld, f1, f2]
  refine siI_c rfl rfl rfl (fun h' _ => pPayload x h' (by have := ho.2.2.2; omega) ho.1 ho.2.1 ho.2.2.1) ?_
  simp only [bW, bS, bM, Nat.reduceEqDiff]
  refine callI_of cal90 (sPut H0 k j i room safe torn bs v pv l d0.seg hl (payN x) hpl) fun r1 h1 ⟨e1, hp⟩ => ?_
  subst e1
  by_cases hP : putBad room bs (payN x) = 0
  case neg =>
    have c1 : (putBad room bs (payN x) != 0) = true := by simp [hP]
    rw [if_neg hP] at hp
    subst hp
    simp only [bW, bS, bM, Nat.reduceEqDiff, c1, retA_ret, Tryz.results50, resultsA_1, Nat.reduceEqDiff]
    refine hid_mk ⟨rfl, ?_⟩
    rw [if_neg hP]
    exact ⟨d0, k0⟩
  rw [if_pos hP] at hp
  obtain ⟨v1, pv1, s1, n1, p1, k1⟩ := hp
  have nd1 := d0.nod.keep k1 d.na d.nm
  have va1 := nd1.get
  have b1 := (k1.get h.n (by omega) (by rw [f2]; exact id)).trans g0
  have c1 : ((0 : Int) != 0) = false := rfl
  have q1 := k1.n
  rw [hP]
  simp only [bW, bS, bM, Nat.reduceEqDiff, Nat.reduceAdd, reduceCtorEq, ft_100_0, lt_96, va1, Nat.reduceEqDiff, Nat.reduceAdd, reduceCtorEq]
  refine callI_of cal92 (sSync h1 k j i room _ torn _ v1 pv1 _ s1) fun r2 h2 ⟨s2, k2⟩ => ?_
  have sp1 : ∀ q, SegP k j i v1 pv1 q → SegP k j i v pv q ∨ H0.n ≤ q := fun q hq => by
    rcases hq with hq | hq | hq | hq | hq
    · exact .inl (.inl hq)
    · exact .inl (.inr (.inl hq))
    · exact .inl (.inr (.inr (.inl hq)))
    · rcases n1 with n1 | n1
      · exact .inl (.inr (.inr (.inr (.inl (n1 ▸ hq)))))
      · exact .inr (n1 q hq)
    · rcases p1 with p1 | p1
      · exact .inl (.inr (.inr (.inr (.inr (p1 ▸ hq)))))
      · exact .inr (p1 q hq)
  have na1 : ¬ SegP k j i v1 pv1 a := fun hh => (sp1 a hh).elim d.na fun e => by have := d.nod.lt; omega
  have nm1 : ¬ SegP k j i v1 pv1 m := fun hh => (sp1 m hh).elim d.nm fun e => by have := d.nod.ml; omega
  have nb1 : ¬ SegP k j i v1 pv1 h.n := fun hh => (sp1 h.n hh).elim (fun e => by rw [f2] at e; exact e) fun e => by omega
  have ip : ∀ q, Parts i v1 q → SegP k j i v1 pv1 q := fun q hq => hq.elim (fun e => .inr (.inr (.inl e))) fun e => .inr (.inr (.inr (.inl e)))
  have nd2 := nd1.keep k2 (fun e => na1 (ip _ e)) (fun e => nm1 (ip _ e))
  have va2 := nd2.get
  have b2 := (k2.get h.n (by omega) (fun e => nb1 (ip _ e))).trans b1
  simp only [bW, Nat.reduceEqDiff, reduceCtorEq, lt_104, b2, dd, hld]
  refine callI_of cal44 (sApply h2 a m k _ _ _ nd2 x (by have := ho.2.2.2; omega)) fun r3 h3 ⟨nd3, k3⟩ => ?_
  have s3 := s2.keep k3 fun q hq hh => by
    rcases hh with hh | hh
    · subst hh; exact na1 hq
    · subst hh; exact nm1 hq
  simp only [bW, Nat.reduceEqDiff, retA_ret, Tryz.results50, resultsA_1]
  refine hid_mk ⟨rfl, ?_⟩
  rw [if_pos rfl]
  refine ⟨v1, pv1, ⟨nd3, s3, na1, nm1⟩, ?_, ?_, ?_⟩
  · rcases n1 with n1 | n1
    · exact .inl n1
    · exact .inr fun q hq => by have := n1 q hq; omega
  · rcases p1 with p1 | p1
    · exact .inl p1
    · exact .inr fun q hq => by have := p1 q hq; omega
  · refine (((k0.mono fun _ h => False.elim h).trans k1 fun q _ hq => .inr (.inr hq)).trans k2 fun q hlt hq => ?_).trans k3 fun q _ hq => ?_
    · rcases sp1 q (ip q hq) with e | e
      · exact .inr (.inr e)
      · omega
    · exact hq.elim .inl fun e => .inr (.inl e)
end Go.Proofs.YtilgpaibolollaaGreat.Pk
namespace Go.Proofs.YtilgpaibolollaaGreat.Pk
open Go Go.Proofs Go.Proofs.YtilgpaibolollaaGreat.Ab
set_option maxRecDepth 10000
set_option linter.unusedVariables false
set_option linter.unusedSimpArgs false
theorem strB_list (l : List Nat) : (strB l).toList = l.map fun n => UInt8.ofNat n := by
  rw [ByteArray.toList_eq, strB, strOfNums_data, List.map_map]
  rfl

theorem strB_eq {a b : List Nat} (ha : ∀ n ∈ a, n < 256) (hb : ∀ n ∈ b, n < 256) : ((strB a).toList == (strB b).toList) = decide (a = b) := by
  rw [strB_list, strB_list, Bool.eq_iff_iff]
  simp only [beq_iff_eq, decide_eq_true_eq]
  refine ⟨fun h => ?_, fun h => by rw [h]⟩
  have h2 := congrArg (List.map UInt8.toNat) h
  rw [List.map_map, List.map_map] at h2
  have e : ∀ l : List Nat, (∀ n ∈ l, n < 256) → l.map (UInt8.toNat ∘ fun n => UInt8.ofNat n) = l := fun l hl => by
    conv => rhs; rw [← List.map_id l]
    refine List.map_congr_left fun n hn => ?_
    have := hl n hn
    simp
    omega
  rw [e a ha, e b hb] at h2
  exact h2
theorem pEqual (x y : List Nat) (h : AHeap) (hx : ∀ n ∈ x, n < 256) (hy : ∀ n ∈ y, n < 256) : Pure Tryz.prog 49 [.imm x.length (bytesV x), .imm y.length (bytesV y)] h (.bool (decide (x = y))) := by
  refine SCalls.enterI (c := _) Tryz.func49 rfl (by kernel_rfl) (by simp) ?_
  have e := strB_eq hx hy
  simp only [bW, Nat.reduceEqDiff, reduceCtorEq, convB, e, retA_ret, Tryz.results49, resultsA_1]
  exact hid_mk ⟨rfl, rfl⟩
/-- What a write answers at once; none: it is done. -/
def wrI (s : NSt) (ep at_ : Int) (b : List Nat) : Option Int :=
  if mayWr ⟨1, ep, at_, b⟩ = false then some 2 else if ep < s.1 then some 7 else
  match kget s.2.1 at_ with
  | some c => if ep ≤ c.epoch then (if c.epoch = ep ∧ c.bytes = b then some 0 else some 12) else none
  | none => none
set_option maxRecDepth 10000 in
theorem nWrite (h : AHeap) (a m k j i : Nat) (room safe torn : Int) (bs : List Nat) (v pv : V) (l : List (List Nat)) (s : NSt) (d : IsNode h a m k j i room bs safe v pv l torn s) (hl : l.length ≤ 2 ^ 30)
    (ep at_ : Int) (b : List Nat) (hb : ∀ n ∈ b, n < 256) (hbl : b.length ≤ 2 ^ 50) (hc : ∀ c, kget s.2.1 at_ = some c → ∀ n ∈ c.bytes, n < 256) :
    SCalls Tryz.prog 10 [.ptr a 0, .int .i64 ep, .int .i64 at_, .imm b.length (bytesV b)] h (fun r h' => match wrI s ep at_ b with
      | some e => r = .int .i64 e ∧ IsNode h' a m k j i room bs safe v pv l torn s ∧ Keep h h' none_
      | none => r = .int .i64 (putBad room bs (payN ⟨1, ep, at_, b⟩)) ∧
        if putBad room bs (payN ⟨1, ep, at_, b⟩) = 0 then ∃ v' pv', IsNode h' a m k j i room (bs ++ frame (payN ⟨1, ep, at_, b⟩)) ((bs ++ frame (payN ⟨1, ep, at_, b⟩)).length : Nat) v' pv' (l ++ [payN ⟨1, ep, at_, b⟩]) torn (appS s ⟨1, ep, at_, b⟩) ∧ NewP h i v v' ∧ (idOf pv' = idOf pv ∨ ∀ y, idOf pv' = some y → h.n ≤ y) ∧ Keep h h' (NodP a m k j i v pv)
        else IsNode h' a m k j i room bs safe v pv l torn s ∧ Keep h h' none_) := by
  have k0 : Keep h (h.push (.cells (actE ⟨1, ep, at_, b⟩) 104 none)) none_ := Keep.push _ _ _
  have d0 := d.keepN k0
  have g0 : (h.push (.cells (actE ⟨1, ep, at_, b⟩) 104 none)).get h.n = .cells (actE ⟨1, ep, at_, b⟩) 104 none := get_push_new
  have q0 : (h.push (.cells (actE ⟨1, ep, at_, b⟩) 104 none)).n = h.n + 1 := rfl
  have dd : dropC (.cells (actE ⟨1, ep, at_, b⟩) 104 none) 0 = some (actE ⟨1, ep, at_, b⟩) := rfl
  have hld : loadGo (some (some 4)) (some (actE ⟨1, ep, at_, b⟩)) = some (.agg (actE ⟨1, ep, at_, b⟩)) := rfl
  have hae : [V.int .i64 1, .int .i64 ep, .int .i64 at_, .imm b.length (bytesV b)] = actE ⟨1, ep, at_, b⟩ := rfl
  have hcl : (V.agg (actE ⟨1, ep, at_, b⟩)).cells = some (actE ⟨1, ep, at_, b⟩) := rfl
  have hst : setC (some 4) (AObj.cells [.int .i64 0, .int .i64 0, .int .i64 0, .snil] 104 none) 0 (actE ⟨1, ep, at_, b⟩) = some (.cells (actE ⟨1, ep, at_, b⟩) 104 none) := by
    rw [setC_row (n := 4) rfl rfl, if_pos (by decide)]; rfl
  have v0 := d0.nod.get
  refine SCalls.enterI (c := _) Tryz.func10 rfl (by kernel_rfl) (by simp) ?_
  simp only [bW, Nat.reduceEqDiff, Nat.reduceAdd, Nat.reduceLeDiff, reduceCtorEq, kt_34, lt_104, pl_104, zc_104, zt_104, hae, hcl, hst, g0, dd, hld]
  refine callI_pure cal48 (pMayWrite ⟨1, ep, at_, b⟩ _ hbl) ?_
  generalize h.push (.cells (actE ⟨1, ep, at_, b⟩) 104 none) = H0 at *
  cases hm : mayWr ⟨1, ep, at_, b⟩
  · have hW : wrI s ep at_ b = some 2 := by unfold wrI; rw [if_pos hm]
    simp only [bW, Nat.reduceEqDiff, retA_ret, Tryz.results10, resultsA_1]
    rw [hW]
    exact hid_mk ⟨rfl, d0, k0⟩
  have hok : okAct ⟨1, ep, at_, b⟩ := by
    have hm' := hm
    unfold mayWr mayEp at hm'
    simp only [Bool.and_eq_true, decide_eq_true_eq] at hm'
    obtain ⟨⟨⟨m1, m2⟩, m3, m4⟩, m5⟩ := hm'
    exact ⟨by simp only; omega, by simp only; omega, by simp only; omega, m5⟩
  by_cases hlt : ep < s.1
  · have hW : wrI s ep at_ b = some 7 := by unfold wrI; rw [if_neg (by rw [hm]; decide), if_pos hlt]
    simp only [bW, Nat.reduceEqDiff, Nat.reduceAdd, Nat.reduceLeDiff, reduceCtorEq, ft_100_1, lt_3, v0, hlt, retA_ret, Tryz.results10, resultsA_1]
    rw [hW]
    exact hid_mk ⟨rfl, d0, k0⟩
  have lk := lookCel d0.nod.map at_
  have plt := d.parts_lt
  have fin : ∀ (H1 h' : AHeap), Keep h H1 none_ → (if putBad room bs (payN ⟨1, ep, at_, b⟩) = 0 then ∃ v' pv', IsNode h' a m k j i room (bs ++ frame (payN ⟨1, ep, at_, b⟩)) ((bs ++ frame (payN ⟨1, ep, at_, b⟩)).length : Nat) v' pv' (l ++ [payN ⟨1, ep, at_, b⟩]) torn (appS s ⟨1, ep, at_, b⟩) ∧ NewP H1 i v v' ∧ (idOf pv' = idOf pv ∨ ∀ y, idOf pv' = some y → H1.n ≤ y) ∧ Keep H1 h' (NodP a m k j i v pv)
      else IsNode h' a m k j i room bs safe v pv l torn s ∧ Keep H1 h' none_) →
      (if putBad room bs (payN ⟨1, ep, at_, b⟩) = 0 then ∃ v' pv', IsNode h' a m k j i room (bs ++ frame (payN ⟨1, ep, at_, b⟩)) ((bs ++ frame (payN ⟨1, ep, at_, b⟩)).length : Nat) v' pv' (l ++ [payN ⟨1, ep, at_, b⟩]) torn (appS s ⟨1, ep, at_, b⟩) ∧ NewP h i v v' ∧ (idOf pv' = idOf pv ∨ ∀ y, idOf pv' = some y → h.n ≤ y) ∧ Keep h h' (NodP a m k j i v pv)
        else IsNode h' a m k j i room bs safe v pv l torn s ∧ Keep h h' none_) := fun H1 h' kx hp => by
    have qx := kx.n
    by_cases hP : putBad room bs (payN ⟨1, ep, at_, b⟩) = 0
    · rw [if_pos hP] at hp ⊢
      obtain ⟨v', pv', n1, n2, n3, n4⟩ := hp
      refine ⟨v', pv', n1, ?_, ?_, (kx.mono fun _ h => False.elim h).trans n4 fun _ _ h => h⟩
      · exact n2.elim .inl fun e => .inr fun q hq => by have := e q hq; omega
      · exact n3.elim .inl fun e => .inr fun q hq => by have := e q hq; omega
    · rw [if_neg hP] at hp ⊢
      exact ⟨hp.1, kx.trans hp.2 fun _ _ h => h⟩
  cases hg : kget s.2.1 at_ with
  | none =>
    have hW : wrI s ep at_ b = none := by unfold wrI; rw [if_neg (by rw [hm]; decide), if_neg hlt, hg]
    rw [hg] at lk
    simp only [bW, Nat.reduceEqDiff, Nat.reduceAdd, Nat.reduceLeDiff, reduceCtorEq, ft_100_1, ft_100_2, lt_104, lt_3, lt_98, zc_48, zt_48, v0, hlt, lk]
    have k1 : Keep H0 (H0.push (.cells [.int .i64 0, .int .i64 0, .snil] 48 none)) none_ := Keep.push _ _ _
    have g1 := (k1.get h.n (by omega) (fun h => h)).trans g0
    have d1 := d0.keepN k1
    generalize H0.push (.cells [.int .i64 0, .int .i64 0, .snil] 48 none) = H1 at *
    simp only [bW, Nat.reduceEqDiff, g1, dd, hld]
    refine callI_of cal50 (nDo H1 a m k j i room safe torn bs v pv l s d1 hl ⟨1, ep, at_, b⟩ hok) fun r h' ⟨e, hp⟩ => ?_
    subst e
    simp only [bW, Nat.reduceEqDiff, retA_ret, Tryz.results10, resultsA_1]
    rw [hW]
    exact hid_mk ⟨rfl, fin H1 h' (k0.trans k1 fun _ _ h => h) hp⟩
  | some c =>
    obtain ⟨ca, ce, cb⟩ := c
    have hcb := hc _ hg
    rw [hg] at lk
    have hst2 : setC (some 3) (AObj.cells [.int .i64 0, .int .i64 0, .snil] 48 none) 0 (celE ⟨ca, ce, cb⟩) = some (.cells (celE ⟨ca, ce, cb⟩) 48 none) := by
      rw [setC_row (n := 3) rfl rfl, if_pos (by decide)]; rfl
    have hcc : (V.agg (celE ⟨ca, ce, cb⟩)).cells = some (celE ⟨ca, ce, cb⟩) := rfl
    have w1d : dropC (.cells (celE ⟨ca, ce, cb⟩) 48 none) 1 = some [.int .i64 ce, .imm cb.length (bytesV cb)] := rfl
    have w2d : dropC (.cells (celE ⟨ca, ce, cb⟩) 48 none) 2 = some [.imm cb.length (bytesV cb)] := rfl
    have l3 : (celE ⟨ca, ce, cb⟩).length = 3 := rfl
    have p1 : List.drop 1 (celE ⟨ca, ce, cb⟩) = [.int .i64 ce, .imm cb.length (bytesV cb)] := rfl
    simp only [bW, Nat.reduceEqDiff, Nat.reduceAdd, Nat.reduceLeDiff, reduceCtorEq, ft_100_1, ft_100_2, ft_48_1, lt_3, lt_98, zc_48, zt_48, v0, hlt, lk, hst2, hcc, w1d]
    have k1 : Keep H0 (H0.push (.cells (celE ⟨ca, ce, cb⟩) 48 none)) none_ := Keep.push _ _ _
    have g1 := (k1.get h.n (by omega) (fun h => h)).trans g0
    have w1 : (H0.push (.cells (celE ⟨ca, ce, cb⟩) 48 none)).get H0.n = .cells (celE ⟨ca, ce, cb⟩) 48 none := get_push_new
    have d1 := d0.keepN k1
    have kF := k0.trans k1 fun _ _ h => h
    generalize H0.push (.cells (celE ⟨ca, ce, cb⟩) 48 none) = H1 at *
    by_cases hge : ep ≤ ce
    · by_cases heq : ce = ep
      · have c4 : (ce == ep) = true := by rw [heq]; simp
        simp only [bW, Nat.reduceEqDiff, ft_48_1, ft_48_2, lt_29, lt_3, w1, w1d, w2d, hge, c4]
        refine callI_pure cal49 (pEqual cb b H1 hcb hb) ?_
        by_cases hbb : cb = b
        · have hW : wrI s ep at_ b = some 0 := by unfold wrI; rw [if_neg (by rw [hm]; decide), if_neg hlt, hg]; simp only; rw [if_pos hge, if_pos ⟨heq, hbb⟩]
          simp only [bW, Nat.reduceEqDiff, hbb, retA_ret, Tryz.results10, resultsA_1]
          rw [hW]
          exact hid_mk ⟨rfl, d1, kF⟩
        · have hW : wrI s ep at_ b = some 12 := by unfold wrI; rw [if_neg (by rw [hm]; decide), if_neg hlt, hg]; simp only; rw [if_pos hge, if_neg fun e => hbb e.2]
          have hd : decide (cb = b) = false := decide_eq_false hbb
          simp only [bW, Nat.reduceEqDiff, hd, retA_ret, Tryz.results10, resultsA_1]
          rw [hW]
          exact hid_mk ⟨rfl, d1, kF⟩
      · have c4 : (ce == ep) = false := by rw [beq_eq_false_iff_ne]; exact heq
        have hW : wrI s ep at_ b = some 12 := by unfold wrI; rw [if_neg (by rw [hm]; decide), if_neg hlt, hg]; simp only; rw [if_pos hge, if_neg fun e => heq e.1]
        simp only [bW, Nat.reduceEqDiff, ft_48_1, lt_3, w1, w1d, hge, c4, retA_ret, Tryz.results10, resultsA_1]
        rw [hW]
        exact hid_mk ⟨rfl, d1, kF⟩
    · have hW : wrI s ep at_ b = none := by unfold wrI; rw [if_neg (by rw [hm]; decide), if_neg hlt, hg]; simp only; rw [if_neg hge]
      simp only [bW, Nat.reduceEqDiff, reduceCtorEq, lt_104, hge, g1, dd, hld]
      refine callI_of cal50 (nDo H1 a m k j i room safe torn bs v pv l s d1 hl ⟨1, ep, at_, b⟩ hok) fun r h' ⟨e, hp⟩ => ?_
      subst e
      simp only [bW, Nat.reduceEqDiff, retA_ret, Tryz.results10, resultsA_1]
      rw [hW]
      exact hid_mk ⟨rfl, fin H1 h' kF hp⟩
end Go.Proofs.YtilgpaibolollaaGreat.Pk
namespace Go.Proofs.YtilgpaibolollaaGreat.Pk
open Go Go.Proofs Go.Proofs.YtilgpaibolollaaGreat.Ab
set_option maxRecDepth 10000
set_option linter.unusedVariables false
set_option linter.unusedSimpArgs false
end Go.Proofs.YtilgpaibolollaaGreat.Pk
namespace Go.Proofs.YtilgpaibolollaaGreat.Pk
open Go Go.Proofs Go.Proofs.YtilgpaibolollaaGreat.Ab
set_option maxRecDepth 10000
set_option linter.unusedVariables false
set_option linter.unusedSimpArgs false
/-- What holds of a node's state at all times. -/
structure NOk (s : NSt) : Prop where
  st : Stamps (mapK (V.int .i64) celV s.2.1) s.2.2
  nd : KNodup s.2.1
  sm : ∀ e ∈ s.2.1, e.2.2.bytes.length ≤ 2048 ∧ (∀ n ∈ e.2.2.bytes, n < 256) ∧ 0 ≤ e.2.1 ∧ e.2.1 < 4096 ∧ e.2.2.at_ = e.2.1
theorem celE_len (c : Cel) : (celE c).length = 3 := rfl
end Go.Proofs.YtilgpaibolollaaGreat.Pk
namespace Go.Proofs.YtilgpaibolollaaGreat.Pk
open Go Go.Proofs Go.Proofs.YtilgpaibolollaaGreat.Ab Go.Sort
set_option maxRecDepth 10000
set_option linter.unusedVariables false
set_option linter.unusedSimpArgs false
set_option maxRecDepth 20000 in
theorem then_eq {K : Kt} {x : Option V} {v : V} {d : Option Tmp} {f : AFrame} {h : AHeap} (e : x = some v) (g : @thenV (some v) d K f h) : @thenV x d K f h := e ▸ g
set_option maxRecDepth 20000 in
theorem len64 (h : AHeap) (n : Int) (hn : n = 0 ∨ n = 1) : Pure Tryz.prog 134 [.int .u64 n] h (.int .i64 n) := by
  refine Pure.val (Clo.int _ _) ?_
  refine SCalls.enterI (c := _) Tryz.func134 rfl (by kernel_rfl) (by simp) ?_
  have w00 : IntKind.u8.wrap 0 = 0 := by decide
  have w01 : IntKind.u8.wrap 1 = 1 := by decide
  have w1 : IntKind.i64.wrap 1 = 1 := by decide
  have w0 : IntKind.i64.wrap 0 = 0 := by decide
  have w2 : IntKind.i64.wrap (0 + 0) = 0 := by decide
  have w3 : IntKind.i64.wrap (0 + 1) = 1 := by decide
  rcases hn with rfl | rfl
  · simp only [bW, Int.reduceLE, Nat.reduceEqDiff, reduceCtorEq, it_117, it_5, w00]
    refine then_eq (v := .int .u8 0) (by kernel_rfl) ?_
    simp only [bW, Nat.reduceEqDiff, it_3, it_5, w0, w2, retA_ret, Tryz.results134, resultsA_1]
    exact hid_mk ⟨rfl, Keep.refl _ _⟩
  · simp only [bW, Int.reduceLE, Nat.reduceEqDiff, reduceCtorEq, it_117, it_5, w01]
    refine then_eq (v := .int .u8 1) (by kernel_rfl) ?_
    simp only [bW, Nat.reduceEqDiff, it_3, it_5, w1, w3, retA_ret, Tryz.results134, resultsA_1]
    exact hid_mk ⟨rfl, Keep.refl _ _⟩
set_option maxRecDepth 20000 in
theorem len1 (h : AHeap) (n : Int) (hn : n = 0 ∨ n = 1) : Pure Tryz.prog 116 [.int .u64 n] h (.int .i64 n) := by
  refine Pure.val (Clo.int _ _) ?_
  refine SCalls.enterI (c := _) Tryz.func116 rfl (by kernel_rfl) (by simp) ?_
  have hw : IntKind.u64.wrap n = n := by rcases hn with rfl | rfl <;> decide
  simp only [bW, Nat.reduceEqDiff, reduceCtorEq]
  refine callI_pure cal134 (len64 h n hn) ?_
  simp only [bW, Nat.reduceEqDiff, retA_ret, Tryz.results116, resultsA_1]
  exact hid_mk ⟨rfl, Keep.refl _ _⟩
end Go.Proofs.YtilgpaibolollaaGreat.Pk
namespace Go.Proofs.YtilgpaibolollaaGreat.Pk
open Go.Shelf
def sfC_ren : Go.Shelf.Ren := ⟨fun | 6 => 94 | 15 => 116 | 14 => 115 | 28 => 133 | 29 => 134 | 20 => 125 | 21 => 126 | 22 => 127 | 23 => 128 | 24 => 129 | 25 => 130 | 26 => 131 | 27 => 132 | 46 => 138 | 47 => 139 | 48 => 140 | 49 => 141 | 50 => 142 | 57 => 144 | n => n, fun | 22 => 55 | 24 => 48 | 25 => 172 | 3 => 3 | 39 => 193 | 0 => 0 | 53 => 204 | 55 => 117 | 4 => 4 | 46 => 208 | 45 => 207 | 50 => 212 | 5 => 5 | 9 => 9 | 66 => 222 | 70 => 226 | 76 => 228 | 77 => 229 | n => n, fun | n => n⟩
theorem sfC : Go.Proofs.SlLaysF0.n6 Tryz.prog sfC_ren := {
  mixed := by kernel_rfl
  f6 := ⟨Tryz.f94.name, by decide, Tryz.func94.trans (congrArg some (by kernel_rfl))⟩
  f14 := ⟨Tryz.f115.name, by decide, Tryz.func115.trans (congrArg some (by kernel_rfl))⟩
  f15 := Tryz.func116.trans (congrArg some (by kernel_rfl))
  f20 := ⟨Tryz.f125.name, by decide, Tryz.func125.trans (congrArg some (by kernel_rfl))⟩
  f21 := ⟨Tryz.f126.name, by decide, Tryz.func126.trans (congrArg some (by kernel_rfl))⟩
  f22 := ⟨Tryz.f127.name, by decide, Tryz.func127.trans (congrArg some (by kernel_rfl))⟩
  f23 := ⟨Tryz.f128.name, by decide, Tryz.func128.trans (congrArg some (by kernel_rfl))⟩
  f24 := ⟨Tryz.f129.name, by decide, Tryz.func129.trans (congrArg some (by kernel_rfl))⟩
  f25 := ⟨Tryz.f130.name, by decide, Tryz.func130.trans (congrArg some (by kernel_rfl))⟩
  f26 := ⟨Tryz.f131.name, by decide, Tryz.func131.trans (congrArg some (by kernel_rfl))⟩
  f27 := ⟨Tryz.f132.name, by decide, Tryz.func132.trans (congrArg some (by kernel_rfl))⟩
  f28 := Tryz.func133.trans (congrArg some (by kernel_rfl))
  f29 := Tryz.func134.trans (congrArg some (by kernel_rfl))
  f46 := ⟨Tryz.f138.name, by decide, Tryz.func138.trans (congrArg some (by kernel_rfl))⟩
  f47 := Tryz.func139.trans (congrArg some (by kernel_rfl))
  f48 := Tryz.func140.trans (congrArg some (by kernel_rfl))
  f49 := ⟨Tryz.f141.name, by decide, Tryz.func141.trans (congrArg some (by kernel_rfl))⟩
  f50 := ⟨Tryz.f142.name, by decide, Tryz.func142.trans (congrArg some (by kernel_rfl))⟩
  f57 := ⟨Tryz.f144.name, by decide, Tryz.func144.trans (congrArg some (by kernel_rfl))⟩
  t0 := Tryz.underlying0
  a0 := Tryz.isAgg0
  z0 := Tryz.sizeOf0
  v0 := Tryz.zeroValue0
  t3 := Tryz.underlying3
  a3 := Tryz.isAgg3
  z3 := Tryz.sizeOf3
  v3 := Tryz.zeroValue3
  t4 := Tryz.underlying4
  a4 := Tryz.isAgg4
  z4 := Tryz.sizeOf4
  v4 := Tryz.zeroValue4
  t5 := Tryz.underlying5
  a5 := Tryz.isAgg5
  z5 := Tryz.sizeOf5
  v5 := Tryz.zeroValue5
  t9 := Tryz.underlying9
  a9 := Tryz.isAgg9
  z9 := Tryz.sizeOf9
  v9 := Tryz.zeroValue9
  t22 := Tryz.underlying55
  a22 := Tryz.isAgg55
  z22 := Tryz.sizeOf55
  v22 := Tryz.zeroValue55
  t25 := Tryz.underlying172
  a25 := Tryz.isAgg172
  z25 := Tryz.sizeOf172
  v25 := Tryz.zeroValue172
  t39 := Tryz.underlying193
  a39 := Tryz.isAgg193
  z39 := Tryz.sizeOf193
  v39 := Tryz.zeroValue193
  t45 := Tryz.underlying207
  a45 := Tryz.isAgg207
  z45 := Tryz.sizeOf207
  v45 := Tryz.zeroValue207
  t46 := Tryz.underlying208
  a46 := Tryz.isAgg208
  z46 := Tryz.sizeOf208
  v46 := Tryz.zeroValue208
  t50 := Tryz.underlying212
  a50 := Tryz.isAgg212
  z50 := Tryz.sizeOf212
  v50 := Tryz.zeroValue212
  t53 := Tryz.underlying204
  a53 := Tryz.isAgg204
  z53 := Tryz.sizeOf204
  v53 := Tryz.zeroValue204
  t55 := Tryz.underlying117
  a55 := Tryz.isAgg117
  z55 := Tryz.sizeOf117
  v55 := Tryz.zeroValue117
  t66 := Tryz.underlying222
  a66 := Tryz.isAgg222
  z66 := Tryz.sizeOf222
  v66 := Tryz.zeroValue222
  t70 := Tryz.underlying226
  a70 := Tryz.isAgg226
  z70 := Tryz.sizeOf226
  v70 := Tryz.zeroValue226
  t76 := Tryz.underlying228
  a76 := Tryz.isAgg228
  z76 := Tryz.sizeOf228
  v76 := Tryz.zeroValue228
  t77 := Tryz.underlying229
  a77 := Tryz.isAgg229
  z77 := Tryz.sizeOf229
  v77 := Tryz.zeroValue229 }
end Go.Proofs.YtilgpaibolollaaGreat.Pk
namespace Go.Proofs.YtilgpaibolollaaGreat.Pk
open Go Go.Proofs Go.Proofs.YtilgpaibolollaaGreat.Ab Go.Sort
set_option maxRecDepth 10000
set_option linter.unusedVariables false
set_option linter.unusedSimpArgs false
set_option maxRecDepth 20000 in
theorem ins1C (h : AHeap) (x c : V) (n lim : Int) (hn : n ≤ 1) (h0 : 0 ≤ n) : Pure Tryz.prog 125 [x, .int .i64 0, .int .i64 n, c] h (.tuple []) := by
  refine Pure.val (Clo.tuple CloL.nil) ?_
  refine SCalls.enterI (c := _) Tryz.func125 rfl (by kernel_rfl) (by simp) ?_
  have hz : IntKind.i64.wrap (0 + 1) = 1 := by decide
  simp only [bW, Nat.reduceEqDiff, hz]
  refine SWp.loopG (α := Unit) (fun _ f h' => f 8 = .int .i64 1 ∧ f 2 = .int .i64 n ∧ h' = h) (fun _ => 0) () ⟨rfl, rfl, rfl⟩ ?_
  rintro _ f h' ⟨f8, f2, rfl⟩
  refine wpI_sound (by kernel_rfl) ?_
  have d1 : decide (1 < n) = false := decide_eq_false (by omega)
  simp only [bW, Nat.reduceEqDiff, f8, f2, d1, retA_normal, Tryz.results125, resultsA_0]
  exact hid_mk ⟨rfl, Keep.refl _ _⟩
set_option maxRecDepth 20000 in
theorem pdq1C (h : AHeap) (x c : V) (n l : Int) (hn : n ≤ 1) (h0 : 0 ≤ n) : Pure Tryz.prog 115 [x, .int .i64 0, .int .i64 n, .int .i64 l, c] h (.tuple []) := by
  refine Pure.val (Clo.tuple CloL.nil) ?_
  refine SCalls.enterI (c := _) Tryz.func115 rfl (by kernel_rfl) (by simp) ?_
  simp only [bW]
  refine SWp.loopG (α := Unit) (fun _ f h' => f 0 = x ∧ f 1 = .int .i64 0 ∧ f 2 = .int .i64 n ∧ f 4 = c ∧ h' = h) (fun _ => 0) () ⟨rfl, rfl, rfl, rfl, rfl⟩ ?_
  rintro _ f h' ⟨f0, f1, f2, f4, rfl⟩
  refine wpI_sound (by kernel_rfl) ?_
  have hw : IntKind.i64.wrap (n - 0) = n := by rw [Go.IntWalk.i64_in _ (by omega)]; omega
  have d1 : decide (n ≤ 12) = true := decide_eq_true (by omega)
  simp only [bW, Nat.reduceEqDiff, reduceCtorEq, f0, f1, f2, f4, hw, d1]
  refine callI_pure cal125 (ins1C _ x c n 0 hn h0) ?_
  simp only [bW, retA_ret, Tryz.results115, resultsA_0]
  exact hid_mk ⟨rfl, Keep.refl _ _⟩
set_option maxRecDepth 20000 in
theorem sort1C (h : AHeap) (x c : V) (n : Int) (hn : n = 0 ∨ n = 1) (hl : aLen Tryz.prog 55 x h = some (.int .i64 n)) : Pure Tryz.prog 94 [x, c] h (.tuple []) := by
  refine Pure.val (Clo.tuple CloL.nil) ?_
  refine SCalls.enterI (c := _) Tryz.func94 rfl (by kernel_rfl) (by simp) ?_
  have hw : IntKind.u64.wrap n = n := by rcases hn with rfl | rfl <;> decide
  simp only [bW, Nat.reduceEqDiff, reduceCtorEq, it_193, it_3, hl, hw]
  refine callI_pure cal116 (len1 h n hn) ?_
  simp only [bW, Nat.reduceEqDiff]
  refine callI_pure cal115 (pdq1C h x c n n (by omega) (by omega)) ?_
  simp only [bW, retA_normal, Tryz.results94, resultsA_0]
  exact hid_mk ⟨rfl, Keep.refl _ _⟩
/-! ### SortFunc, whatever the comparator -/
theorem sortOfC {g : FuncId} {cf : Cel → Cel → Int} (hO : SWO (ltOf cf)) (hcmp : ∀ a b, SCalls Tryz.prog g [.agg (celE a), .agg (celE b)] noHeap fun r _ => r = .int .i64 (cf a b))
    (eg : ∀ args w, (callFunc g args).run Tryz.prog w = .ok (.enter g args) w) (h : AHeap) (x : V) (l : List Cel) (ho : Own h 48 3 x (l.flatMap celE)) (hl : l.length ≤ 2 ^ 40) :
    SCalls Tryz.prog 94 [x, .func (.func g) [] []] h fun r h' => r = .tuple [] ∧ Keep h h' (isId x) ∧ ∃ l' : List Cel, l'.Perm l ∧ (l'.Pairwise fun a b => ltOf cf b a = false) ∧ Own h' 48 3 x (l'.flatMap celE) := by
  refine sortF_own (by decide) celE_len (fun x => rfl) celE_clo hO hcmp
    (fun n enc hk h1 cf hO blk cap d w hc hH hb hs => AnyQ.slices_SortFunc sfC 3 Tryz.isAgg48 Tryz.sizeOf48 enc hk h1 cf hO g #[] blk 0 cap d w eg hc hH hb hs) (fun hn => ?_) ho (by omega)
  subst hn
  have hlen : aLen Tryz.prog 55 x h = some (.int .i64 0) := by
    rcases ho with ⟨rfl | rfl, _⟩ | ⟨i, len, cap, c, ex, rfl, _, _, hl, _⟩
    · exact aLen_snil kt_55
    · exact aLen_z0 kt_55
    · have : len = 0 := by simp at hl; omega
      subst this
      exact aLen_sl kt_55
  exact sort1C h x _ 0 (.inl rfl) hlen
end Go.Proofs.YtilgpaibolollaaGreat.Pk
namespace Go.Proofs.YtilgpaibolollaaGreat.Pk
open Go Go.Proofs Go.Proofs.YtilgpaibolollaaGreat.Ab Go.Sort
set_option maxRecDepth 10000
set_option linter.unusedVariables false
set_option linter.unusedSimpArgs false
/-! ### The comparator -/
def cmpI (x y : Int) : Int := if x < y then -1 else if y < x then 1 else 0
set_option maxRecDepth 10000 in
theorem nan64 (h : AHeap) (x : Int) : Pure Tryz.prog 117 [.int .i64 x] h (.bool false) := by
  refine Pure.val (Clo.bool _) ?_
  refine SCalls.enterI (c := _) Tryz.func117 rfl (by kernel_rfl) (by simp) ?_
  have e : (x != x) = false := by simp
  simp only [bW, Nat.reduceEqDiff, reduceCtorEq, retA_ret, Tryz.results117, resultsA_1]
  exact hid_mk ⟨rfl, Keep.refl _ _⟩
set_option maxRecDepth 10000 in
theorem cmp64 (h : AHeap) (x y : Int) : Pure Tryz.prog 96 [.int .i64 x, .int .i64 y] h (.int .i64 (cmpI x y)) := by
  refine Pure.val (Clo.int _ _) ?_
  refine SCalls.enterI (c := _) Tryz.func96 rfl (by kernel_rfl) (by simp) ?_
  simp only [bW, Int.reduceNeg, Nat.reduceEqDiff, reduceCtorEq]
  refine callI_pure cal117 (nan64 h x) ?_
  simp only [bW, Int.reduceNeg, Nat.reduceEqDiff]
  refine callI_pure cal117 (nan64 h y) ?_
  by_cases h1 : x < y
  · have d1 : decide (x < y) = true := decide_eq_true h1
    simp only [bW, Int.reduceNeg, Nat.reduceEqDiff, reduceCtorEq, d1, retA_ret, Tryz.results96, resultsA_1]
    exact hid_mk ⟨by rw [cmpI, if_pos h1], Keep.refl _ _⟩
  · have d1 : decide (x < y) = false := decide_eq_false h1
    by_cases h2 : y < x
    · have d2 : decide (y < x) = true := decide_eq_true h2
      simp only [bW, Int.reduceNeg, Nat.reduceEqDiff, reduceCtorEq, d1, d2, retA_ret, Tryz.results96, resultsA_1]
      exact hid_mk ⟨by rw [cmpI, if_neg h1, if_pos h2], Keep.refl _ _⟩
    · have d2 : decide (y < x) = false := decide_eq_false h2
      simp only [bW, Int.reduceNeg, Nat.reduceEqDiff, reduceCtorEq, d1, d2, retA_ret, Tryz.results96, resultsA_1]
      exact hid_mk ⟨by rw [cmpI, if_neg h1, if_neg h2], Keep.refl _ _⟩
set_option maxRecDepth 20000 in
theorem byCel (a b : Cel) (h : AHeap) : Pure Tryz.prog 95 [.agg (celE a), .agg (celE b)] h (.int .i64 (cmpI a.at_ b.at_)) := by
  refine Pure.val (Clo.int _ _) ?_
  refine SCalls.enterI (c := _) Tryz.func95 rfl (by kernel_rfl) (by simp) ?_
  have ca : (V.agg (celE a)).cells = some (celE a) := rfl
  have cb : (V.agg (celE b)).cells = some (celE b) := rfl
  have da : dropC (AObj.cells (celE a) 48 none) 0 = some (celE a) := rfl
  have db : dropC (AObj.cells (celE b) 48 none) 0 = some (celE b) := rfl
  have la : loadGo (some none) (some (celE a)) = some (.int .i64 a.at_) := rfl
  have lb : loadGo (some none) (some (celE b)) = some (.int .i64 b.at_) := rfl
  have k2 : Keep h ((h.push (.cells (celE a) 48 none)).push (.cells (celE b) 48 none)) none_ := (Keep.push _ _ _).trans' (Keep.push _ _ _)
  simp only [bW, Nat.reduceEqDiff, ft_48_0, lt_3, ca, cb, da, db, la, lb]
  refine callI_pure cal96 (cmp64 _ a.at_ b.at_) ?_
  simp only [bW, Nat.reduceEqDiff, retA_ret, Tryz.results95, resultsA_1]
  exact hid_mk ⟨rfl, k2⟩
theorem sortbyCel (h : AHeap) (x : V) (l : List Cel) (ho : Own h 48 3 x (l.flatMap celE)) (hl : l.length ≤ 2 ^ 40) :
    SCalls Tryz.prog 94 [x, .func (.func 95) [] []] h fun r h' => r = .tuple [] ∧ Keep h h' (isId x) ∧ ∃ l' : List Cel, l'.Perm l ∧ (l'.Pairwise fun a b => ¬ b.at_ < a.at_) ∧ Own h' 48 3 x (l'.flatMap celE) := by
  have e : ∀ a b : Cel, ltOf (fun a b : Cel => cmpI a.at_ b.at_) a b = decide (a.at_ < b.at_) := fun a b => by
    unfold ltOf cmpI
    rw [Bool.eq_iff_iff]
    simp only [decide_eq_true_eq]
    split <;> (try split) <;> omega
  refine (sortOfC (cf := fun a b => cmpI a.at_ b.at_) ⟨fun a => by rw [e]; simp, fun a b c h1 h2 => by rw [e] at *; simp at *; omega, fun a b c h1 h2 => by rw [e] at *; simp at *; omega⟩
    (fun a b => (byCel a b noHeap).mono fun r h' hh => hh.1) (enters_of Tryz.func95 (by kernel_rfl) rfl) h x l ho hl).mono fun r h' ⟨h1, h2, l', hp, hs, ho⟩ => ⟨h1, h2, l', hp, hs.imp fun {a b} hab => by rw [e] at hab; simpa using hab, ho⟩
theorem litC1 (h : AHeap) (c : Cel) : aBuildSlice Tryz.prog 55 1 [(0, .agg (celE c))] h = some (.sl h.n 0 1 1, h.push (.cells (celE c) 48 none)) := by rw [buildSlice_go sl_55]; rfl
set_option maxHeartbeats 4000000 in
set_option maxRecDepth 20000 in
theorem nAll (h : AHeap) (a m k : Nat) (s : NSt) (d : IsNod h a m k s.1 s.2.1 s.2.2) (w : NOk s) (hL : s.2.1.length ≤ 2 ^ 30) :
    SCalls Tryz.prog 58 [.ptr a 0] h (fun r h' => ∃ out : List Cel, out.Perm (s.2.1.map (·.2.2)) ∧ (out.Pairwise fun a b => ¬ b.at_ < a.at_) ∧ Acc h h' 48 3 r (out.flatMap celE)) := by
  obtain ⟨ep, es, cl⟩ := s
  have st := w.st
  have wnd := w.nd
  have wsm := w.sm
  simp only at d st wnd wsm hL ⊢
  have v0 := d.get
  have hrg := range_map mt_98 d.map
  have hsn : (es.map (·.1)).Nodup := by
    have := st.2
    rwa [show (mapK (V.int .i64) celV es).map (·.1) = es.map (·.1) from mapK_stamps es] at this
  have hml := d.ml
  refine SCalls.enterI (c := _) Tryz.func58 rfl (by kernel_rfl) (by simp) ?_
  simp only [bW, Nat.reduceEqDiff, Nat.reduceAdd, Nat.reduceLeDiff, reduceCtorEq, ft_100_2, lt_98, v0, hrg]
  refine SWp.loopG (α := Ces) (fun vis f h' => f 10 = .ptr h.n 0 ∧ h.n < h'.n ∧ h'.get h.n = .iter m cl (vis.map (·.1)) cl ∧ Acc h h' 48 3 (f 3) ((vis.map (·.2.2)).flatMap celE) ∧
    idOf (f 3) ≠ some h.n ∧ (∀ e ∈ vis, e ∈ es) ∧ (vis.map (·.1)).Nodup) (fun vis => (remOf (mapK (V.int .i64) celV es) (vis.map (·.1))).length) []
    ⟨rfl, by simp only [push_n]; omega, by simp [AHeap.push], Acc.nil (Keep.push _ _ _), (show idOf V.snil ≠ some h.n by simp [idOf]), by simp, by simp⟩ ?_
  rintro vis f h2 ⟨f10, n2, gi, acc, hd1, hvl, hvn⟩
  have gm : h2.get m = .map (mapK (V.int .i64) celV es) cl := (acc.keep.get m hml (fun h => h)).trans d.map
  refine wpI_sound (by kernel_rfl) ?_
  simp only [bW, f10]
  refine alts_ro gi gm st (fun hleft => ?_) fun e he => ?_
  · have hp := kvis_perm hsn hvn hvl (kvis_all hleft)
    have hpl := hp.length_eq
    simp only [bW, Nat.reduceEqDiff]
    refine callI_of cal94 (sortbyCel h2 (f 3) _ acc.own (by rw [List.length_map]; omega)) fun r h3 ⟨e1, k3, out, pl, sl, o2⟩ => ?_
    subst e1
    simp only [bW, Nat.reduceEqDiff, retA_ret, Tryz.results58, resultsA_1]
    exact hid_mk ⟨out, pl.trans (hp.map _), sl, o2, acc.keep.trans k3 fun q hq e => by have := acc.new q e; omega, acc.new⟩
  · obtain ⟨x, hx, rfl, hxn⟩ := kvis_next he
    have less := remOf_snoc he
    obtain ⟨n3, hvl2, hvlen⟩ := kvis_snoc hvn hvl hx hxn
    obtain ⟨xs, xk, xc⟩ := x
    obtain ⟨xl, _⟩ := wsm _ hx
    simp only at less he hxn xl
    generalize hH : h2.set h.n (.iter m cl (vis.map (·.1) ++ [xs]) cl) = H
    have aS : Acc h H 48 3 (f 3) ((vis.map (·.2.2)).flatMap celE) := by rw [← hH]; exact acc.set (Nat.le_refl _) hd1 _
    have nH : H.n = h2.n := by rw [← hH]; rfl
    have gr : H.get h.n = .iter m cl (vis.map (·.1) ++ [xs]) cl := by rw [← hH]; exact get_set_same
    have gmH : H.get m = .map (mapK (V.int .i64) celV es) cl := (aS.keep.get m hml (fun h => h)).trans d.map
    have hen := entry_ro gr gmH st (List.mem_filter.1 he).1
    simp only at hen
    have hcc : (celV xc).cells = some (celE xc) := rfl
    have hst : setC (some 3) (AObj.cells [.int .i64 0, .int .i64 0, .snil] 48 none) 0 (celE xc) = some (.cells (celE xc) 48 none) := by
      rw [setC_row (n := 3) rfl rfl, if_pos (by decide)]; rfl
    have dd : dropC (.cells (celE xc) 48 none) 0 = some (celE xc) := rfl
    have hld : loadGo (some (some 3)) (some (celE xc)) = some (.agg (celE xc)) := rfl
    simp only [bW, Nat.reduceEqDiff, lt_48, zc_48, zt_48, f10, hen, hcc, hst, dd, hld]
    generalize hH1 : H.push (.cells (celE xc) 48 none) = H1
    have k1 : Keep H H1 none_ := by rw [← hH1]; exact Keep.push _ _ _
    have nH1 : H1.n = H.n + 1 := by rw [← hH1]; rfl
    have aS1 := aS.on k1
    have gr1 := (k1.get h.n (by omega) (fun h => h)).trans gr
    refine callI_pure cal55 (pOwn xc H1 (by omega)) ?_
    have lit := litC1 H1 xc
    obtain ⟨s', h4, ea, o4, kp4, d4⟩ := append_elemM (P := Tryz.prog) sl_55 (by decide) aS1.own (xs := celE xc) rfl rfl (fun m hm => by
      change m * 3 = _ + 3 at hm
      rw [rows_len celE_len, List.length_map] at hm
      exact ⟨by simp only [lim]; omega, by simp only [lim]; omega⟩)
    have a4 := aS1.step o4 kp4 d4
    have n4' := kp4.n
    simp only [bW, Nat.reduceEqDiff, lit, ea]
    refine hid_mk ⟨vis ++ [(xs, xk, xc)], ⟨f10, by omega, ?_, a4.conv ?_, ?_, hvl2, n3⟩, ?_⟩
    · rw [kp4.get h.n (by omega) (fun hh => hd1 hh), gr1]; simp
    · rw [List.map_append, List.flatMap_append, List.map_cons, List.map_nil]
      simp
    · intro hh
      rcases d4 with d | d
      · exact hd1 (d ▸ hh)
      · have := d _ hh; omega
    · rw [List.map_append]; exact less
end Go.Proofs.YtilgpaibolollaaGreat.Pk
namespace Go.Proofs.YtilgpaibolollaaGreat.Pk
open Go Go.Proofs Go.Proofs.YtilgpaibolollaaGreat.Ab
set_option maxRecDepth 10000
set_option linter.unusedVariables false
set_option linter.unusedSimpArgs false
def selI (s : NSt) (ep : Int) : Option Int := if mayEp ep = false then some 2 else if ep ≤ s.1 then some 7 else none
def selA (ep : Int) : Act := ⟨2, ep, 0, []⟩
theorem selC (h : AHeap) (a : Nat) (ep : Int) : CastL [.ptr a 0, .agg [.int .i64 2, .int .i64 ep, .int .i64 0, .snil]] h [.ptr a 0, .agg (actE (selA ep))] h :=
  CastL.cons (Cast.refl _ _) (CastL.cons (Cast.agg (CastL.cons (Cast.refl _ _) (CastL.cons (Cast.refl _ _) (CastL.cons (Cast.refl _ _) (CastL.cons (Cast.snil0 h) (CastL.refl _ _)))))) (CastL.refl _ _))
set_option maxRecDepth 10000 in
theorem nSeal (h : AHeap) (a m k j i : Nat) (room safe torn : Int) (bs : List Nat) (v pv : V) (l : List (List Nat)) (s : NSt) (d : IsNode h a m k j i room bs safe v pv l torn s) (w : NOk s) (hl : l.length ≤ 2 ^ 30) (hL : s.2.1.length ≤ 2 ^ 30) (ep : Int) :
    SCalls Tryz.prog 15 [.ptr a 0, .int .i64 ep] h (fun r h' => match selI s ep with
      | some e => r = .tuple [.snil, .int .i64 e] ∧ IsNode h' a m k j i room bs safe v pv l torn s ∧ Keep h h' none_
      | none => if putBad room bs (payN (selA ep)) = 0 then ∃ (v' pv' rv : V) (out : List Cel), r = .tuple [rv, .int .i64 0] ∧ IsNode h' a m k j i room (bs ++ frame (payN (selA ep))) ((bs ++ frame (payN (selA ep))).length : Nat) v' pv' (l ++ [payN (selA ep)]) torn (appS s (selA ep)) ∧
          out.Perm (s.2.1.map (·.2.2)) ∧ (out.Pairwise fun a b => ¬ b.at_ < a.at_) ∧ Own h' 48 3 rv (out.flatMap celE) ∧ (∀ q, idOf rv = some q → h.n ≤ q ∧ ¬ NodP a m k j i v' pv' q) ∧
          NewP h i v v' ∧ (idOf pv' = idOf pv ∨ ∀ y, idOf pv' = some y → h.n ≤ y) ∧ Keep h h' (NodP a m k j i v pv)
        else r = .tuple [.snil, .int .i64 (putBad room bs (payN (selA ep)))] ∧ IsNode h' a m k j i room bs safe v pv l torn s ∧ Keep h h' none_) := by
  have v0 := d.nod.get
  refine SCalls.enterI (c := _) Tryz.func15 rfl (by kernel_rfl) (by simp) ?_
  simp only [bW, Nat.reduceEqDiff, reduceCtorEq, kt_34]
  refine callI_pure cal57 (pMayEpoch ep h) ?_
  cases hm : mayEp ep
  · have hS : selI s ep = some 2 := by unfold selI; rw [if_pos hm]
    simp only [bW, Nat.reduceEqDiff, retA_ret, Tryz.results15, resultsA_2]
    rw [hS]
    exact hid_mk ⟨rfl, d, Keep.refl _ _⟩
  by_cases hle : ep ≤ s.1
  · have hS : selI s ep = some 7 := by unfold selI; rw [if_neg (by rw [hm]; decide), if_pos hle]
    simp only [bW, Nat.reduceEqDiff, Nat.reduceAdd, Nat.reduceLeDiff, reduceCtorEq, ft_100_1, lt_3, v0, hle, retA_ret, Tryz.results15, resultsA_2]
    rw [hS]
    exact hid_mk ⟨rfl, d, Keep.refl _ _⟩
  have hS : selI s ep = none := by unfold selI; rw [if_neg (by rw [hm]; decide), if_neg hle]
  have hok : okAct (selA ep) := by
    unfold mayEp at hm
    simp only [Bool.and_eq_true, decide_eq_true_eq] at hm
    exact ⟨by simp only [selA]; omega, by simp only [selA]; omega, by simp only [selA]; omega, by simp [selA]⟩
  simp only [bW, Nat.reduceEqDiff, Nat.reduceAdd, Nat.reduceLeDiff, reduceCtorEq, ft_100_1, lt_3, pl_104, zc_104, v0, hle]
  refine callI_of cal50 (SCalls.args (selC h a ep) (nDo h a m k j i room safe torn bs v pv l s d hl (selA ep) hok)) fun r1 h1 ⟨e1, hp⟩ => ?_
  subst e1
  by_cases hP : putBad room bs (payN (selA ep)) = 0
  case neg =>
    have c1 : (putBad room bs (payN (selA ep)) != 0) = true := by simp [hP]
    rw [if_neg hP] at hp
    simp only [bW, Nat.reduceEqDiff, c1, retA_ret, Tryz.results15, resultsA_2]
    rw [hS]
    refine hid_mk ?_
    show if putBad room bs (payN (selA ep)) = 0 then _ else _
    rw [if_neg hP]
    exact ⟨rfl, hp⟩
  rw [if_pos hP] at hp
  obtain ⟨v1, pv1, d1, n1, p1, k1⟩ := hp
  have c1 : ((0 : Int) != 0) = false := rfl
  have q1 := k1.n
  have w1 : NOk (appS s (selA ep)) := ⟨w.st, w.nd, w.sm⟩
  have c2 : (putBad room bs (payN (selA ep)) != 0) = false := by rw [hP]; rfl
  simp only [bW, Nat.reduceEqDiff, reduceCtorEq, c2]
  refine callI_of cal58 (nAll h1 a m k (appS s (selA ep)) d1.nod w1 hL) fun r2 h2 ⟨out, pl, sl, ac⟩ => ?_
  simp only [bW, Nat.reduceEqDiff, retA_ret, Tryz.results15, resultsA_2]
  rw [hS]
  refine hid_mk ?_
  show if putBad room bs (payN (selA ep)) = 0 then _ else _
  rw [if_pos hP]
  exact ⟨v1, pv1, r2, out, rfl, d1.keepN ac.keep, pl, sl, ac.own, fun q hq => ⟨by have := ac.new q hq; omega, fun hh => by have := ac.new q hq; have := d1.parts_lt q hh; omega⟩, n1, p1, k1.trans (ac.keep.mono fun _ h => False.elim h) fun _ _ h => h⟩
end Go.Proofs.YtilgpaibolollaaGreat.Pk
namespace Go.Proofs.YtilgpaibolollaaGreat.Pk
open Go Go.Proofs Go.Proofs.YtilgpaibolollaaGreat.Ab
set_option maxRecDepth 10000
set_option linter.unusedVariables false
set_option linter.unusedSimpArgs false
theorem getBytes_app (x r : List Nat) (hx : x.length < 2 ^ 64) : getBytes (encBytes x ++ r) = (x, r, 0) := by
  unfold getBytes encBytes
  rw [List.append_assoc, dec_app _ hx]
  simp
end Go.Proofs.YtilgpaibolollaaGreat.Pk
namespace Go.Proofs.YtilgpaibolollaaGreat.Pk
open Go Go.Proofs Go.Proofs.YtilgpaibolollaaGreat.Ab
set_option maxRecDepth 10000
set_option linter.unusedVariables false
set_option linter.unusedSimpArgs false
/-! ### Frames, there and back -/
theorem sumL_len (p : List Nat) : (sumL p).length = 4 := rfl
theorem openC_frame (p r : List Nat) (hp : p.length ≤ 4096) : openC (frame p ++ r) = (p, (frame p).length, 0) := by
  have he := enc_le p.length (by omega)
  have hb : frame p ++ r = enc p.length ++ (p ++ (sumL p ++ r)) := by unfold frame encBytes; simp [List.append_assoc]
  have ht : (frame p ++ r).take 10 = enc p.length ++ (p ++ (sumL p ++ r)).take (10 - (enc p.length).length) := by
    rw [hb, List.take_append, List.take_of_length_le (by omega)]
  have hd : dec ((frame p ++ r).take 10) 0 0 = (p.length, (enc p.length).length, 0) := by rw [ht]; exact dec_app _ (by omega) _
  have hlen : (frame p).length = (enc p.length).length + p.length + 4 := by
    unfold frame encBytes
    rw [List.length_append, List.length_append, sumL_len]
  have hdr : (frame p ++ r).drop (enc p.length).length = p ++ (sumL p ++ r) := by
    rw [hb, List.drop_left]
  have hpl : ((frame p ++ r).drop (enc p.length).length).take p.length = p := by
    rw [hdr, List.take_left]
  have hsm : ((frame p ++ r).drop ((enc p.length).length + p.length)).take 4 = sumL p := by
    rw [← List.drop_drop, hdr, List.drop_left]
    exact List.take_left (l₁ := sumL p)
  unfold openC
  rw [hd]
  simp only
  rw [if_neg (by simp), if_neg (by omega), if_neg (by rw [List.length_append, hlen]; omega), hpl, if_pos hsm, hlen]
theorem frame_pos (p : List Nat) : 0 < (frame p).length := by
  unfold frame
  rw [List.length_append, sumL_len]
  omega
theorem scan_frames : ∀ (l : List (List Nat)) (k : Nat), (∀ p ∈ l, p.length ≤ 4096) → l.length ≤ k → scanF k (l.flatMap frame) = (l, (l.flatMap frame).length)
  | [], 0, _, _ => rfl
  | [], k + 1, _, _ => by unfold scanF; rw [if_pos (.inl rfl)]; rfl
  | p :: l, 0, _, hk => by simp at hk
  | p :: l, k + 1, hl, hk => by
    have ho := openC_frame p (l.flatMap frame) (hl p (by simp))
    have ih := scan_frames l k (fun q hq => hl q (by simp [hq])) (by simp at hk; omega)
    have hb : (p :: l).flatMap frame = frame p ++ l.flatMap frame := rfl
    have hne : frame p ++ l.flatMap frame ≠ [] := fun hh => by
      have h1 := congrArg List.length hh
      rw [List.length_append, List.length_nil] at h1
      have := frame_pos p
      omega
    unfold scanF
    rw [hb, ho, if_neg (by simp [hne]), List.drop_left, ih]
    simp
theorem frames_len (l : List (List Nat)) : l.length ≤ (l.flatMap frame).length := by
  induction l with
  | nil => simp
  | cons p l ih =>
    have := frame_pos p
    rw [List.flatMap_cons, List.length_append, List.length_cons]
    omega
theorem scan_all (l : List (List Nat)) (hl : ∀ p ∈ l, p.length ≤ 4096) : scanF (l.flatMap frame).length (l.flatMap frame) = (l, (l.flatMap frame).length) := scan_frames l _ hl (frames_len l)
/-! ### Payloads, there and back -/
theorem numN_app (n : Nat) (r : List Nat) (hn : n ≤ 1048576) : numN (enc n ++ r) = n ∧ numR (enc n ++ r) = r := by
  have hd := dec_app n (by omega) r
  constructor
  · unfold numN; rw [hd]; rw [if_neg (by simp; omega)]
  · unfold numR; rw [hd]; exact List.drop_left
theorem readC_seal (ep : Nat) (h : ep ≤ 1048576) : readC (payN (selA ep)) = (selA ep, true) := by
  have hp : payN (selA ep) = enc 2 ++ (enc ep ++ []) := by unfold payN selA; simp
  obtain ⟨a1, a2⟩ := numN_app 2 (enc ep ++ []) (by omega)
  obtain ⟨b1, b2⟩ := numN_app ep [] h
  unfold readC
  rw [hp, a1, a2, b1, b2, if_pos rfl]
  simp [selA, mayEp]
  omega
theorem readC_write (ep at_ : Nat) (b : List Nat) (hm : mayWr ⟨1, ep, at_, b⟩ = true) : readC (payN ⟨1, ep, at_, b⟩) = (⟨1, ep, at_, b⟩, true) := by
  have hm' := hm
  unfold mayWr mayEp at hm'
  simp only [Bool.and_eq_true, decide_eq_true_eq] at hm'
  obtain ⟨⟨⟨m1, m2⟩, m3, m4⟩, m5⟩ := hm'
  have hp : payN ⟨1, ep, at_, b⟩ = enc 1 ++ (enc ep ++ (enc at_ ++ (encBytes b ++ []))) := by unfold payN; simp
  obtain ⟨a1, a2⟩ := numN_app 1 (enc ep ++ (enc at_ ++ (encBytes b ++ []))) (by omega)
  obtain ⟨b1, b2⟩ := numN_app ep (enc at_ ++ (encBytes b ++ [])) (by omega)
  obtain ⟨c1, c2⟩ := numN_app at_ (encBytes b ++ []) (by omega)
  have hg := getBytes_app b [] (by omega)
  unfold readC
  rw [hp, a1, a2, b1, b2, c1, c2, hg, if_neg (by decide), if_pos rfl]
  simp only [Prod.mk.injEq] at *
  simp [hm]
end Go.Proofs.YtilgpaibolollaaGreat.Pk
namespace Go.Proofs.YtilgpaibolollaaGreat.Pk
open Go Go.Proofs Go.Proofs.YtilgpaibolollaaGreat.Ab
set_option maxRecDepth 10000
set_option linter.unusedVariables false
set_option linter.unusedSimpArgs false
theorem NOk.nil : NOk (0, [], 0) := ⟨Stamps.nil _, KNodup.nil, by simp⟩
theorem NOk.sealed {s : NSt} (w : NOk s) (ep : Int) : NOk (appS s (selA ep)) := ⟨w.st, w.nd, w.sm⟩
theorem kset_mem {κ α : Type} [DecidableEq κ] : ∀ {l : List (Nat × κ × α)} {cl : Nat} {k : κ} {a : α} {e : Nat × κ × α}, e ∈ kset cl l k a → (e.2.1 = k ∧ e.2.2 = a) ∨ e ∈ l
  | [], cl, k, a, e, he => by
    simp [kset] at he
    subst he
    exact .inl ⟨rfl, rfl⟩
  | x :: l, cl, k, a, e, he => by
    unfold kset at he
    split at he
    · rcases List.mem_cons.1 he with rfl | he
      · exact .inl ⟨rfl, rfl⟩
      · exact .inr (List.mem_cons_of_mem _ he)
    · rcases List.mem_cons.1 he with rfl | he
      · exact .inr (List.mem_cons_self ..)
      · exact (kset_mem he).imp id (List.mem_cons_of_mem _)
theorem NOk.write {s : NSt} (w : NOk s) (ep at_ : Int) (b : List Nat) (hb : ∀ n ∈ b, n < 256) (hm : mayWr ⟨1, ep, at_, b⟩ = true) : NOk (appS s ⟨1, ep, at_, b⟩) := by
  unfold mayWr mayEp at hm
  simp only [Bool.and_eq_true, decide_eq_true_eq] at hm
  obtain ⟨⟨⟨m1, m2⟩, m3, m4⟩, m5⟩ := hm
  refine ⟨Stamps.kset w.st at_ ⟨at_, ep, b⟩, w.nd.set _ at_ ⟨at_, ep, b⟩, fun e he => ?_⟩
  rcases kset_mem he with ⟨h1, h2⟩ | he
  · rw [h2, h1]; exact ⟨m5, hb, m1, m2, rfl⟩
  · exact w.sm e he
theorem redoL_snoc (l : List (List Nat)) (p : List Nat) : redoL (l ++ [p]) = redo (redoL l) p := by unfold redoL; rw [List.foldl_append]; rfl
theorem redo_seal (s : NSt) (ep : Nat) (h : ep ≤ 1048576) (hs : s.1 < ep) : redo s (payN (selA ep)) = appS s (selA ep) := by
  unfold redo
  rw [readC_seal ep h]
  have hf : folB s.1 s.2.1 (selA ep) = true := by unfold folB selA; rw [if_pos rfl]; simpa using hs
  simp only [hf, Bool.and_self, if_true]
  rfl
theorem redo_write (s : NSt) (ep at_ : Nat) (b : List Nat) (hw : wrI s ep at_ b = none) : redo s (payN ⟨1, ep, at_, b⟩) = appS s ⟨1, ep, at_, b⟩ := by
  have hm : mayWr ⟨1, ep, at_, b⟩ = true := by
    cases hm : mayWr ⟨1, ep, at_, b⟩
    · unfold wrI at hw; rw [if_pos hm] at hw; cases hw
    · rfl
  have hf : folB s.1 s.2.1 ⟨1, ep, at_, b⟩ = true := by
    unfold wrI at hw
    rw [if_neg (by rw [hm]; decide)] at hw
    split at hw
    · cases hw
    rename_i hlt
    unfold folB
    rw [if_neg (show ¬ ((1 : Int) = 2) by decide), decide_eq_true (show s.1 ≤ (ep : Int) by omega), Bool.true_and]
    simp only
    cases hg : kget s.2.1 (at_ : Int) with
    | none => rfl
    | some c =>
      rw [hg] at hw
      simp only at hw ⊢
      split at hw
      · split at hw <;> cases hw
      · rename_i hh
        rw [decide_eq_true_iff]
        omega
  unfold redo
  rw [readC_write ep at_ b hm]
  simp only [hf, Bool.and_self, if_true]
  rfl
end Go.Proofs.YtilgpaibolollaaGreat.Pk
namespace Go.Proofs.YtilgpaibolollaaGreat.Pk
open Go Go.Proofs Go.Proofs.YtilgpaibolollaaGreat.Ab
set_option maxRecDepth 10000
set_option linter.unusedVariables false
set_option linter.unusedSimpArgs false
/-! ### A node on a disk of its own -/
structure Nd (h0 h : AHeap) (a m k j i : Nat) (room : Int) (v pv : V) (l : List (List Nat)) (torn : Int) : Prop where
  nd : IsNode h a m k j i room (l.flatMap frame) ((l.flatMap frame).length : Nat) v pv l torn (redoL l)
  ok : NOk (redoL l)
  pl : ∀ p ∈ l, p.length ≤ 4096 ∧ ∀ x ∈ p, x < 256
  new : ∀ q, NodP a m k j i v pv q → h0.n ≤ q
  keep : Keep h0 h none_
theorem Nd.on {h0 h h' : AHeap} {a m k j i : Nat} {room torn : Int} {v pv : V} {l : List (List Nat)} (d : Nd h0 h a m k j i room v pv l torn) (hk : Keep h h' none_) : Nd h0 h' a m k j i room v pv l torn :=
  ⟨d.nd.keepN hk, d.ok, d.pl, d.new, d.keep.trans hk fun _ _ h => h⟩
theorem Nd.len {h0 h : AHeap} {a m k j i : Nat} {room torn : Int} {v pv : V} {l : List (List Nat)} (d : Nd h0 h a m k j i room v pv l torn) : l.length ≤ 1048576 := by
  have h1 := d.nd.seg.disk.len
  have h2 := d.nd.seg.disk.most
  have h3 := frames_len l
  rw [nI_len] at h1
  omega
theorem kset_len {κ α : Type} [DecidableEq κ] (l : List (Nat × κ × α)) (cl : Nat) (k : κ) (a : α) : (kset cl l k a).length ≤ l.length + 1 := by
  rw [klen_set]; split <;> omega
theorem redoL_len : ∀ (l : List (List Nat)) (s : NSt), (l.foldl redo s).2.1.length ≤ s.2.1.length + l.length
  | [], s => by simp
  | p :: l, s => by
    have ih := redoL_len l (redo s p)
    have h1 : (redo s p).2.1.length ≤ s.2.1.length + 1 := by
      unfold redo
      split
      · simp only [appC]
        split
        · omega
        · exact kset_len _ _ _ _
      · omega
    rw [List.foldl_cons, List.length_cons]
    omega
theorem Nd.step {h0 h h' : AHeap} {a m k j i : Nat} {room torn : Int} {v pv v' pv' : V} {l : List (List Nat)} {x : Act} (d : Nd h0 h a m k j i room v pv l torn)
    (n1 : IsNode h' a m k j i room (l.flatMap frame ++ frame (payN x)) ((l.flatMap frame ++ frame (payN x)).length : Nat) v' pv' (l ++ [payN x]) torn (appS (redoL l) x)) (n2 : NewP h i v v') (n3 : idOf pv' = idOf pv ∨ ∀ y, idOf pv' = some y → h.n ≤ y) (n4 : Keep h h' (NodP a m k j i v pv))
    (hx : redo (redoL l) (payN x) = appS (redoL l) x) (hw : NOk (appS (redoL l) x)) (hp : (payN x).length ≤ 4096 ∧ ∀ y ∈ payN x, y < 256) : Nd h0 h' a m k j i room v' pv' (l ++ [payN x]) torn := by
  have hR : redoL (l ++ [payN x]) = appS (redoL l) x := by rw [redoL_snoc, hx]
  have hF : (l ++ [payN x]).flatMap frame = l.flatMap frame ++ frame (payN x) := by simp
  have kn := d.keep.n
  refine ⟨by rw [hR, hF]; exact n1, by rw [hR]; exact hw, fun p hp' => ?_, fun q hq => ?_, d.keep.trans n4 fun q hq hh => by have := d.new q hh; omega⟩
  · rcases List.mem_append.1 hp' with h1 | h1
    · exact d.pl p h1
    · simp at h1; subst h1; exact hp
  · rcases hq with hq | hq | hq | hq | hq | hq | hq
    · exact d.new q (.inl hq)
    · exact d.new q (.inr (.inl hq))
    · exact d.new q (.inr (.inr (.inl hq)))
    · exact d.new q (.inr (.inr (.inr (.inl hq))))
    · exact d.new q (.inr (.inr (.inr (.inr (.inl hq)))))
    · rcases n2 with n2 | n2
      · exact d.new q (.inr (.inr (.inr (.inr (.inr (.inl (n2 ▸ hq)))))))
      · have := n2 q hq; omega
    · rcases n3 with n3 | n3
      · exact d.new q (.inr (.inr (.inr (.inr (.inr (.inr (n3 ▸ hq)))))))
      · have := n3 q hq; omega
theorem kget_ok {s : NSt} (w : NOk s) {at_ : Int} {c : Cel} (hg : kget s.2.1 at_ = some c) : c.bytes.length ≤ 2048 ∧ (∀ n ∈ c.bytes, n < 256) ∧ c.at_ = at_ := by
  obtain ⟨e, he, h2⟩ := kget_mem hg
  obtain ⟨s1, s2, _, _, s5⟩ := w.sm e he
  obtain ⟨e1, e2, e3⟩ := e
  simp only [Prod.mk.injEq] at h2 s1 s2 s5
  obtain ⟨rfl, rfl⟩ := h2
  exact ⟨s1, s2, s5⟩
theorem pay_ok (x : Act) (ho : okAct x) (hb : ∀ n ∈ x.bytes, n < 256) : (payN x).length ≤ 4096 ∧ ∀ y ∈ payN x, y < 256 := by
  obtain ⟨h1, h2, h3, h4⟩ := ho
  have e1 := enc_le x.kind.toNat (by omega)
  have e2 := enc_le x.epoch.toNat (by omega)
  have e3 := enc_le x.at_.toNat (by omega)
  have e4 := enc_le x.bytes.length (by omega)
  have l1 := enc_lt x.kind.toNat x.kind.toNat (Nat.le_refl _)
  have l2 := enc_lt x.epoch.toNat x.epoch.toNat (Nat.le_refl _)
  have l3 := enc_lt x.at_.toNat x.at_.toNat (Nat.le_refl _)
  have l4 := enc_lt x.bytes.length x.bytes.length (Nat.le_refl _)
  unfold payN encBytes
  split
  · refine ⟨by simp only [List.length_append]; omega, fun y hy => ?_⟩
    rcases List.mem_append.1 hy with hy | hy
    · exact l1 y hy
    · exact l2 y hy
  · refine ⟨by simp only [List.length_append]; omega, fun y hy => ?_⟩
    simp only [List.mem_append] at hy
    rcases hy with ((hy | hy) | hy) | hy | hy
    · exact l1 y hy
    · exact l2 y hy
    · exact l3 y hy
    · exact l4 y hy
    · exact hb y hy
end Go.Proofs.YtilgpaibolollaaGreat.Pk
namespace Go.Proofs.YtilgpaibolollaaGreat.Pk
open Go Go.Proofs Go.Proofs.YtilgpaibolollaaGreat.Ab
set_option maxRecDepth 10000
set_option linter.unusedVariables false
set_option linter.unusedSimpArgs false
theorem wr_ok {s : NSt} {ep at_ : Int} {b : List Nat} (hw : wrI s ep at_ b = none) : mayWr ⟨1, ep, at_, b⟩ = true := by
  cases hm : mayWr ⟨1, ep, at_, b⟩
  · unfold wrI at hw; rw [if_pos hm] at hw; cases hw
  · rfl
theorem wr_rng {ep at_ : Int} {b : List Nat} (hm : mayWr ⟨1, ep, at_, b⟩ = true) : (0 ≤ at_ ∧ at_ < 4096) ∧ (0 ≤ ep ∧ ep ≤ 1048576) ∧ b.length ≤ 2048 := by
  unfold mayWr mayEp at hm
  simp only [Bool.and_eq_true, decide_eq_true_eq] at hm
  obtain ⟨⟨⟨m1, m2⟩, m3, m4⟩, m5⟩ := hm
  exact ⟨⟨m1, m2⟩, ⟨m3, m4⟩, m5⟩
end Go.Proofs.YtilgpaibolollaaGreat.Pk
namespace Go.Proofs.YtilgpaibolollaaGreat.Pk
open Go Go.Proofs Go.Proofs.YtilgpaibolollaaGreat.Ab
set_option maxRecDepth 10000
set_option linter.unusedVariables false
set_option linter.unusedSimpArgs false
theorem crashed_safe (bs : List Int) (keep turn : Int) : crashed bs bs.length keep turn = bs := by
  have h0 : min (max keep 0) ((bs.length : Int) - bs.length) = 0 := by omega
  unfold crashed
  simp only [h0]
  rw [if_neg (by omega), Int.add_zero, Int.toNat_natCast, List.take_length]
/-! ### No node -/
end Go.Proofs.YtilgpaibolollaaGreat.Pk
