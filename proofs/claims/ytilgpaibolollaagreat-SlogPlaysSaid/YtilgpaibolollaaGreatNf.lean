/-
  What functions of the program do, told of abstract states. Conditions: as each theorem says.
-/
import Derived.Test.YtilgpaibolollaaGreatNe
import Derived.Test.YtilgpaibolollaaGreatAcD
import Derived.Test.YtilgpaibolollaaGreatNc
namespace Go.Proofs.YtilgpaibolollaaGreat.Pk
open Go Go.Proofs Go.Proofs.YtilgpaibolollaaGreat.Ab
set_option maxRecDepth 10000
set_option linter.unusedVariables false
set_option linter.unusedSimpArgs false
theorem ReadBytes (bs : List Nat) (h : AHeap) (hb : ∀ b ∈ bs, b < 256) (hc : bs.length ≤ 2 ^ 46) :
    Pure Tryz.prog 88 [.imm bs.length (bytesV bs)] h (.tuple [.imm (getBytes bs).1.length (bytesV (getBytes bs).1), .imm (getBytes bs).2.1.length (bytesV (getBytes bs).2.1), .int .i64 ((getBytes bs).2.2 : Nat)]) := by
  refine Pure.of (Clo.tuple (CloL.cons (Clo.imm (bytesV_clo _)) (CloL.cons (Clo.imm (bytesV_clo _)) (CloL.cons (Clo.int _ _) CloL.nil)))) ?_
  refine SCalls.enterI (c := _) Tryz.func88 rfl (by kernel_rfl) (by simp) ?_
  simp only [bW, Nat.reduceEqDiff, reduceCtorEq]
  refine callI_pure cal87 (ReadUint bs h hb (by omega)) ?_
  rw [gotC_eq]
  by_cases herr : (dec bs 0 0).2.2 = 0
  · have hne : ((((dec bs 0 0).2.2 : Nat) : Int) != 0) = false := by simp [herr]
    have hused := dec_used bs 0 0
    have hlt := dec_lt bs 0 0 (by omega) (by decide) hb
    have hul := wrap_natU (n := (bs.drop (dec bs 0 0).2.1).length) (by rw [List.length_drop]; omega)
    by_cases hfit : (bs.drop (dec bs 0 0).2.1).length < (dec bs 0 0).1
    · have c1 : decide ((((bs.drop (dec bs 0 0).2.1).length : Nat) : Int) < (((dec bs 0 0).1 : Nat) : Int)) = true := by simpa using hfit
      have hG : getBytes bs = ([], bs, 4) := by unfold getBytes; rw [if_neg (by omega), if_pos hfit]
      simp only [bW, Nat.reduceEqDiff, Nat.reduceAdd, Nat.reduceLeDiff, reduceCtorEq, ft_162_0, ft_162_1, ft_162_2, kt_29, lt_117, lt_29, lt_3, zc_162, zt_162, hne, aConv_int it_3 it_117, hul, c1, retA_ret, Tryz.results88, resultsA_3]
      exact hid_mk ⟨_, by rw [hG]; exact nil_cast _ _, Keep.push _ _ _⟩
    · have c1 : decide ((((bs.drop (dec bs 0 0).2.1).length : Nat) : Int) < (((dec bs 0 0).1 : Nat) : Int)) = false := by simp only [decide_eq_false_iff_not]; omega
      have hG : getBytes bs = ((bs.drop (dec bs 0 0).2.1).take (dec bs 0 0).1, (bs.drop (dec bs 0 0).2.1).drop (dec bs 0 0).1, 0) := by unfold getBytes; rw [if_neg (by omega), if_neg hfit]
      have s1 := slice_from (bs.drop (dec bs 0 0).2.1) (dec bs 0 0).1 (by omega) (kk := .u64)
      have s2 := slice_toK (bs.drop (dec bs 0 0).2.1) (dec bs 0 0).1 (by omega) (kk := .u64)
      simp only [bW, Nat.reduceEqDiff, Nat.reduceAdd, Nat.reduceLeDiff, ft_162_0, ft_162_1, ft_162_2, kt_29, lt_117, lt_29, lt_3, zc_162, zt_162, hne, aConv_int it_3 it_117, hul, c1]
      refine SWp.drawnI [] (by kernel_rfl) (by kernel_rfl) (by kernel_rfl) ?_
      simp only [bW, gI_nil, gI_cons, goI_rest, ggI_true, wantedA_none, idleOp, Bool.or_false, List.contains_nil, Nat.reduceEqDiff, Nat.reduceAdd, Nat.reduceLeDiff, ft_162_0, ft_162_1, lt_117, lt_29, s1, s2, retA_ret, Tryz.results88, resultsA_3]
      exact hid_mk ⟨_, by rw [hG]; exact Cast.refl _ _, Keep.push _ _ _⟩
  · have hne : ((((dec bs 0 0).2.2 : Nat) : Int) != 0) = true := by simp; omega
    have hG : getBytes bs = ([], bs, (dec bs 0 0).2.2) := by unfold getBytes; rw [if_pos herr]
    simp only [bW, Nat.reduceEqDiff, Nat.reduceAdd, Nat.reduceLeDiff, ft_162_2, lt_3, zc_162, zt_162, hne]
    refine SWp.drawnI [] (by kernel_rfl) (by kernel_rfl) (by kernel_rfl) ?_
    simp only [bW, gI_nil, gI_cons, goI_rest, ggI_true, wantedA_none, idleOp, Bool.or_false, List.contains_nil, Nat.reduceEqDiff, Nat.reduceAdd, Nat.reduceLeDiff, reduceCtorEq, ft_162_2, lt_3, retA_ret, Tryz.results88, resultsA_3]
    exact hid_mk ⟨_, by rw [hG]; exact nil_cast _ _, Keep.push _ _ _⟩
set_option maxRecDepth 60000 in
theorem pRedoR (room : Int) (s m : List Nat) (torn : Int) (n : RNd) (p : List Nat) (hr : Rise n.2) (hl : n.2.length ≤ 2 ^ 30) (hb : ∀ x ∈ p, x < 256) (hp : p.length ≤ 2 ^ 40) (h : AHeap) :
    Pure Tryz.prog 47 [.agg (rnE room s m torn n), .imm p.length (bytesV p)] h (.agg (rnE room s m torn (redoR n p))) := by
  rw [← redoD_eq]
  obtain ⟨q, hq⟩ : ∃ q, q = redoD n p := ⟨_, rfl⟩
  rw [← hq]
  unfold redoD at hq
  refine Pure.val (Clo.agg (rnE_clo _ _ _ _ _)) ?_
  refine SCalls.enterI (c := _) Tryz.func47 rfl (by kernel_rfl) (by simp) ?_
  have hcl : ∀ n, (V.agg (rnE room s m torn n)).cells = some (rnE room s m torn n) := fun n => rfl
  have e4 : dropC (AObj.cells (rnE room s m torn n) 40 none) 4 = some [.int .i64 n.1, .imm n.2.length (n.2.flatMap celE)] := rfl
  have e5 : dropC (AObj.cells (rnE room s m torn n) 40 none) 5 = some [.imm n.2.length (n.2.flatMap celE)] := rfl
  have hs6 : ∀ n, setC (some 6) (AObj.cells [.int .i64 0, .snil, .snil, .int .i64 0, .int .i64 0, .snil] 40 none) 0 (rnE room s m torn n) = some (.cells (rnE room s m torn n) 40 none) := fun n => rfl
  have hl6 : ∀ n, loadGo (some (some 6)) (some (rnE room s m torn n)) = some (.agg (rnE room s m torn n)) := fun n => rfl
  simp only [bW, Nat.reduceEqDiff, zc_40, hcl]
  refine callI_pure cal87 (ReadUint p _ hb (by omega)) ?_
  rw [gotC_eq, show p.drop (dec p 0 0).2.1 = numR p from rfl]
  simp only [bW, Nat.reduceEqDiff, Nat.reduceAdd, Nat.reduceLeDiff, ft_162_1, lt_29, zc_162, zt_162]
  refine callI_pure cal87 (ReadUint (numR p) _ (numR_lt hb) (by have := numR_len p; omega)) ?_
  rw [gotC_eq, show (numR p).drop (dec (numR p) 0 0).2.1 = numR (numR p) from rfl]
  have k0 : Keep h (((h.push (.cells (rnE room s m torn n) 40 none)).push (.cells [.int .i64 0, .snil, .snil, .int .i64 0, .int .i64 0, .snil] 40 none)).push (.cells [.int .u64 ((dec p 0 0).1 : Nat), .imm (numR p).length (bytesV (numR p)), .int .i64 ((dec p 0 0).2.2 : Nat)] 162 none)) none_ := ((Keep.push _ _ _).trans (Keep.push _ _ _) (fun _ _ h => h)).trans (Keep.push _ _ _) (fun _ _ h => h)
  have gN : (((h.push (.cells (rnE room s m torn n) 40 none)).push (.cells [.int .i64 0, .snil, .snil, .int .i64 0, .int .i64 0, .snil] 40 none)).push (.cells [.int .u64 ((dec p 0 0).1 : Nat), .imm (numR p).length (bytesV (numR p)), .int .i64 ((dec p 0 0).2.2 : Nat)] 162 none)).get h.n = .cells (rnE room s m torn n) 40 none := get_p3 _ _ _ _
  have gZ : (((h.push (.cells (rnE room s m torn n) 40 none)).push (.cells [.int .i64 0, .snil, .snil, .int .i64 0, .int .i64 0, .snil] 40 none)).push (.cells [.int .u64 ((dec p 0 0).1 : Nat), .imm (numR p).length (bytesV (numR p)), .int .i64 ((dec p 0 0).2.2 : Nat)] 162 none)).get (h.n + 1) = .cells [.int .i64 0, .snil, .snil, .int .i64 0, .int .i64 0, .snil] 40 none := get_p2 (h.push _) _ _
  have g1 : (((h.push (.cells (rnE room s m torn n) 40 none)).push (.cells [.int .i64 0, .snil, .snil, .int .i64 0, .int .i64 0, .snil] 40 none)).push (.cells [.int .u64 ((dec p 0 0).1 : Nat), .imm (numR p).length (bytesV (numR p)), .int .i64 ((dec p 0 0).2.2 : Nat)] 162 none)).get (h.n + 1 + 1) = .cells [.int .u64 ((dec p 0 0).1 : Nat), .imm (numR p).length (bytesV (numR p)), .int .i64 ((dec p 0 0).2.2 : Nat)] 162 none := get_push_new
  have n0 : (((h.push (.cells (rnE room s m torn n) 40 none)).push (.cells [.int .i64 0, .snil, .snil, .int .i64 0, .int .i64 0, .snil] 40 none)).push (.cells [.int .u64 ((dec p 0 0).1 : Nat), .imm (numR p).length (bytesV (numR p)), .int .i64 ((dec p 0 0).2.2 : Nat)] 162 none)).n = h.n + 3 := rfl
  generalize (((h.push (.cells (rnE room s m torn n) 40 none)).push (.cells [.int .i64 0, .snil, .snil, .int .i64 0, .int .i64 0, .snil] 40 none)).push (.cells [.int .u64 ((dec p 0 0).1 : Nat), .imm (numR p).length (bytesV (numR p)), .int .i64 ((dec p 0 0).2.2 : Nat)] 162 none)) = H at k0 gN gZ g1 n0 ⊢
  have hR1 := numR_len p
  have hR2 := numR_len (numR p)
  have hR3 := numR_len (numR (numR p))
  have hbR := numR_lt (numR_lt hb)
  have k2 : Keep H (H.push (.cells [.int .u64 ((dec (numR p) 0 0).1 : Nat), .imm (numR (numR p)).length (bytesV (numR (numR p))), .int .i64 ((dec (numR p) 0 0).2.2 : Nat)] 162 none)) none_ := Keep.push _ _ _
  have g2 : (H.push (.cells [.int .u64 ((dec (numR p) 0 0).1 : Nat), .imm (numR (numR p)).length (bytesV (numR (numR p))), .int .i64 ((dec (numR p) 0 0).2.2 : Nat)] 162 none)).get H.n = .cells [.int .u64 ((dec (numR p) 0 0).1 : Nat), .imm (numR (numR p)).length (bytesV (numR (numR p))), .int .i64 ((dec (numR p) 0 0).2.2 : Nat)] 162 none := get_push_new
  have n2 : (H.push (.cells [.int .u64 ((dec (numR p) 0 0).1 : Nat), .imm (numR (numR p)).length (bytesV (numR (numR p))), .int .i64 ((dec (numR p) 0 0).2.2 : Nat)] 162 none)).n = H.n + 1 := rfl
  have gN := (k2.get h.n (by omega) (fun h => h)).trans gN
  have gZ := (k2.get (h.n + 1) (by omega) (fun h => h)).trans gZ
  have g1 := (k2.get (h.n + 1 + 1) (by omega) (fun h => h)).trans g1
  have kk : ∀ o, Keep h ((H.push (.cells [.int .u64 ((dec (numR p) 0 0).1 : Nat), .imm (numR (numR p)).length (bytesV (numR (numR p))), .int .i64 ((dec (numR p) 0 0).2.2 : Nat)] 162 none)).set (h.n + 1) o) none_ := fun o => (k0.trans k2 fun _ _ h => h).setNew (by omega) _
  have lt1 : (dec p 0 0).1 < 2 ^ 64 := dec_lt p 0 0 (by omega) (by decide) hb
  simp only [bW, Nat.reduceEqDiff, Nat.reduceAdd, ft_162_2, lt_3, zc_162, zt_162]
  generalize H.push (.cells [.int .u64 ((dec (numR p) 0 0).1 : Nat), .imm (numR (numR p)).length (bytesV (numR (numR p))), .int .i64 ((dec (numR p) 0 0).2.2 : Nat)] 162 none) = H2 at k2 g2 n2 gN gZ g1 kk ⊢
  by_cases b1 : (dec p 0 0).2.2 = 0
  rotate_left
  · have d1 : ((((dec p 0 0).2.2 : Nat) : Int) != 0) = true := by simp; omega
    rw [if_pos (.inl b1)] at hq
    simp only [bW, Nat.reduceEqDiff, Nat.reduceAdd, Nat.reduceLeDiff, lt_40, zt_40, gN, gZ, g1, hl6, hcl, hs6, d1, retA_ret, Tryz.results47, resultsC_1, resultA_cell]
    exact hid_mk ⟨by rw [hq], kk _⟩
  have d1 : ((((dec p 0 0).2.2 : Nat) : Int) != 0) = false := by simp [b1]
  by_cases b2 : (dec (numR p) 0 0).2.2 = 0
  rotate_left
  · have d2 : ((((dec (numR p) 0 0).2.2 : Nat) : Int) != 0) = true := by simp; omega
    rw [if_pos (.inr (.inl b2))] at hq
    simp only [bW, Nat.reduceEqDiff, Nat.reduceAdd, Nat.reduceLeDiff, ft_162_2, lt_3, lt_40, zt_40, gN, gZ, g1, g2, hl6, hcl, hs6, d1, d2, retA_ret, Tryz.results47, resultsC_1, resultA_cell]
    exact hid_mk ⟨by rw [hq], kk _⟩
  have d2 : ((((dec (numR p) 0 0).2.2 : Nat) : Int) != 0) = false := by simp [b2]
  by_cases b3 : 1048576 < (dec (numR p) 0 0).1
  · have d3 : decide ((1048576 : Int) < ((dec (numR p) 0 0).1 : Nat)) = true := by simp; omega
    rw [if_pos (.inr (.inr (.inl b3)))] at hq
    simp only [bW, Nat.reduceEqDiff, Nat.reduceAdd, Nat.reduceLeDiff, ft_162_0, ft_162_2, lt_117, lt_3, lt_40, zt_40, gN, gZ, g1, g2, hl6, hcl, hs6, d1, d2, d3, retA_ret, Tryz.results47, resultsC_1, resultA_cell]
    exact hid_mk ⟨by rw [hq], kk _⟩
  have d3 : decide ((1048576 : Int) < ((dec (numR p) 0 0).1 : Nat)) = false := by simp; omega
  have w2 : IntKind.i64.wrap (((dec (numR p) 0 0).1 : Nat) : Int) = ((dec (numR p) 0 0).1 : Nat) := wrap_nat (by omega)
  by_cases b4 : (((dec (numR p) 0 0).1 : Nat) : Int) < n.1
  · have d4 : decide ((((dec (numR p) 0 0).1 : Nat) : Int) < n.1) = true := by simpa using b4
    rw [if_pos (.inr (.inr (.inr b4)))] at hq
    simp only [bW, Nat.reduceEqDiff, Nat.reduceAdd, Nat.reduceLeDiff, ft_162_0, ft_162_2, ft_40_1, lt_117, lt_3, lt_40, zt_40, gN, gZ, g1, g2, hl6, hcl, hs6, e4, d1, d2, d3, d4, w2, aConv_int it_117 it_3, retA_ret, Tryz.results47, resultsC_1, resultA_cell]
    exact hid_mk ⟨by rw [hq], kk _⟩
  have d4 : decide ((((dec (numR p) 0 0).1 : Nat) : Int) < n.1) = false := by simpa using b4
  rw [if_neg (by omega)] at hq
  have hempty : (((numR (numR p)).length : Int) == 0) = decide (numR (numR p) = []) := by
    rw [Bool.eq_iff_iff]
    simp [List.length_eq_zero_iff]
  by_cases b5 : (dec p 0 0).1 = 2 ∧ numR (numR p) = []
  · have d5 : ((((dec p 0 0).1 : Nat) : Int) == 2) = true := by simp; omega
    have d6 : (((numR (numR p)).length : Int) == 0) = true := by rw [hempty]; simpa using b5.2
    rw [if_pos b5] at hq
    have t4 : setC (some 1) (AObj.cells (rnE room s m torn n) 40 none) 4 [V.int .i64 ((dec (numR p) 0 0).1 : Nat)] = some (.cells (rnE room s m torn ((((dec (numR p) 0 0).1 : Nat) : Int), n.2)) 40 none) := rfl
    have g4 : ∀ o, (H2.set h.n o).get h.n = o := fun o => get_set_same
    have z4 : ∀ o, (H2.set h.n o).get (h.n + 1) = H2.get (h.n + 1) := fun o => get_set_ne (by omega)
    simp only [bW, Nat.reduceEqDiff, Nat.reduceAdd, Nat.reduceLeDiff, ft_162_0, ft_162_1, ft_162_2, ft_40_1, kt_29, lt_117, lt_29, lt_3, lt_40, zt_3, zt_40, gN, gZ, g1, g2, hl6, hcl, hs6, e4, d1, d2, d3, d4, w2, aConv_int it_117 it_3, d5, d6, t4, z4, retA_ret, Tryz.results47, resultsC_1, resultA_cell]
    exact hid_mk ⟨by rw [hq], ((k0.trans k2 fun _ _ h => h).setNew (Nat.le_refl _) _).setNew (by omega) _⟩
  rw [if_neg b5] at hq
  have d56 : ((((dec p 0 0).1 : Nat) : Int) == 2) = false ∨ ((((dec p 0 0).1 : Nat) : Int) == 2) = true ∧ (((numR (numR p)).length : Int) == 0) = false := by
    by_cases z : (dec p 0 0).1 = 2
    · right
      refine ⟨by simp; omega, ?_⟩
      rw [hempty]
      exact decide_eq_false fun y => b5 ⟨z, y⟩
    · left
      simp; omega
  by_cases b6 : (dec p 0 0).1 = 1
  rotate_left
  · have d7 : ((((dec p 0 0).1 : Nat) : Int) != 1) = true := by simp; omega
    rw [if_pos b6] at hq
    rcases d56 with d5 | ⟨d5, d6⟩
    · simp only [bW, Nat.reduceEqDiff, Nat.reduceAdd, Nat.reduceLeDiff, ft_162_0, ft_162_2, ft_40_1, lt_117, lt_3, lt_40, zt_40, gN, gZ, g1, g2, hl6, hcl, hs6, e4, d1, d2, d3, d4, w2, aConv_int it_117 it_3, d5, d7, retA_ret, Tryz.results47, resultsC_1, resultA_cell]
      exact hid_mk ⟨by rw [hq], kk _⟩
    · simp only [bW, Nat.reduceEqDiff, Nat.reduceAdd, Nat.reduceLeDiff, ft_162_0, ft_162_1, ft_162_2, ft_40_1, kt_29, lt_117, lt_29, lt_3, lt_40, zt_40, gN, gZ, g1, g2, hl6, hcl, hs6, e4, d1, d2, d3, d4, w2, aConv_int it_117 it_3, d5, d6, d7, retA_ret, Tryz.results47, resultsC_1, resultA_cell]
      exact hid_mk ⟨by rw [hq], kk _⟩
  rw [if_neg (by omega)] at hq
  have d5 : ((((dec p 0 0).1 : Nat) : Int) == 2) = false := by simp; omega
  have d7 : ((((dec p 0 0).1 : Nat) : Int) != 1) = false := by simp; omega
  simp only [bW, Nat.reduceEqDiff, Nat.reduceAdd, Nat.reduceLeDiff, ft_162_0, ft_162_1, ft_162_2, ft_40_1, lt_117, lt_29, lt_3, gN, g1, g2, e4, d1, d2, d3, d4, w2, aConv_int it_117 it_3, d5, d7]
  refine callI_pureG (fun f => f 2 = .ptr h.n 0 ∧ f 4 = .ptr (h.n + 1) 0 ∧ f 7 = .int .i64 ((dec (numR p) 0 0).1 : Nat) ∧ f 61 = .agg (gotC (numR (numR p)))) cal87 (ReadUint (numR (numR p)) _ hbR (by omega)) ⟨rfl, rfl, rfl, rfl⟩ ?_
  rintro f ⟨f2, f4, f7, f61⟩
  rw [gotC_eq, show (numR (numR p)).drop (dec (numR (numR p)) 0 0).2.1 = numR (numR (numR p)) from rfl] at f61
  simp only [bW, Nat.reduceEqDiff, Nat.reduceAdd, Nat.reduceLeDiff, ft_162_2, lt_3, zc_162, zt_162, f61]
  have k3 : Keep H2 (H2.push (.cells [.int .u64 ((dec (numR (numR p)) 0 0).1 : Nat), .imm (numR (numR (numR p))).length (bytesV (numR (numR (numR p)))), .int .i64 ((dec (numR (numR p)) 0 0).2.2 : Nat)] 162 none)) none_ := Keep.push _ _ _
  have g3 : (H2.push (.cells [.int .u64 ((dec (numR (numR p)) 0 0).1 : Nat), .imm (numR (numR (numR p))).length (bytesV (numR (numR (numR p)))), .int .i64 ((dec (numR (numR p)) 0 0).2.2 : Nat)] 162 none)).get H2.n = (.cells [.int .u64 ((dec (numR (numR p)) 0 0).1 : Nat), .imm (numR (numR (numR p))).length (bytesV (numR (numR (numR p)))), .int .i64 ((dec (numR (numR p)) 0 0).2.2 : Nat)] 162 none) := get_push_new
  have gN := (k3.get h.n (by omega) (fun h => h)).trans gN
  have gZ := (k3.get (h.n + 1) (by omega) (fun h => h)).trans gZ
  have kk : ∀ o, Keep h ((H2.push (.cells [.int .u64 ((dec (numR (numR p)) 0 0).1 : Nat), .imm (numR (numR (numR p))).length (bytesV (numR (numR (numR p)))), .int .i64 ((dec (numR (numR p)) 0 0).2.2 : Nat)] 162 none)).set (h.n + 1) o) none_ := fun o => ((k0.trans k2 fun _ _ h => h).trans k3 fun _ _ h => h).setNew (by omega) _
  generalize H2.push (.cells [.int .u64 ((dec (numR (numR p)) 0 0).1 : Nat), .imm (numR (numR (numR p))).length (bytesV (numR (numR (numR p)))), .int .i64 ((dec (numR (numR p)) 0 0).2.2 : Nat)] 162 none) = H3 at k3 g3 gN gZ kk ⊢
  by_cases b8 : (dec (numR (numR p)) 0 0).2.2 = 0
  rotate_left
  · have d8 : ((((dec (numR (numR p)) 0 0).2.2 : Nat) : Int) != 0) = true := by simp; omega
    rw [if_pos (.inl b8)] at hq
    simp only [bW, Nat.reduceEqDiff, lt_40, zt_40, gN, gZ, hl6, hcl, hs6, f2, f4, d8, retA_ret, Tryz.results47, resultsC_1, resultA_cell]
    exact hid_mk ⟨by rw [hq], kk _⟩
  have d8 : ((((dec (numR (numR p)) 0 0).2.2 : Nat) : Int) != 0) = false := by simp [b8]
  by_cases b9 : 4095 < (dec (numR (numR p)) 0 0).1
  · have d9 : decide ((4095 : Int) < ((dec (numR (numR p)) 0 0).1 : Nat)) = true := by simp; omega
    rw [if_pos (.inr b9)] at hq
    simp only [bW, Nat.reduceEqDiff, Nat.reduceAdd, ft_162_0, lt_117, lt_40, zt_40, gN, gZ, g3, hl6, hcl, hs6, f2, f4, d8, d9, retA_ret, Tryz.results47, resultsC_1, resultA_cell]
    exact hid_mk ⟨by rw [hq], kk _⟩
  have d9 : decide ((4095 : Int) < ((dec (numR (numR p)) 0 0).1 : Nat)) = false := by simp; omega
  rw [if_neg (by omega)] at hq
  have w3 : IntKind.i64.wrap (((dec (numR (numR p)) 0 0).1 : Nat) : Int) = ((dec (numR (numR p)) 0 0).1 : Nat) := wrap_nat (by omega)
  simp only [bW, Nat.reduceEqDiff, Nat.reduceAdd, Nat.reduceLeDiff, ft_162_0, ft_162_1, lt_117, lt_29, g3, d8, d9]
  refine callI_pureG (fun f => f 2 = .ptr h.n 0 ∧ f 4 = .ptr (h.n + 1) 0 ∧ f 7 = .int .i64 ((dec (numR p) 0 0).1 : Nat) ∧ f 8 = .ptr H2.n 0 ∧ f 74 = .tuple [.imm (getBytes (numR (numR (numR p)))).1.length (bytesV (getBytes (numR (numR (numR p)))).1), .imm (getBytes (numR (numR (numR p)))).2.1.length (bytesV (getBytes (numR (numR (numR p)))).2.1), .int .i64 ((getBytes (numR (numR (numR p)))).2.2 : Nat)]) cal88 (ReadBytes (numR (numR (numR p))) _ (numR_lt hbR) (by omega)) ⟨f2, f4, f7, rfl, rfl⟩ ?_
  clear f2 f4 f7 f61 f
  rintro f ⟨f2, f4, f7, f8, f74⟩
  have hgl : (getBytes (numR (numR (numR p)))).1.length ≤ 2 ^ 40 := by
    unfold getBytes
    split
    · exact Nat.zero_le _
    split
    · exact Nat.zero_le _
    · simp only [List.length_take, List.length_drop]; omega
  by_cases b10 : (getBytes (numR (numR (numR p)))).2.2 = 0
  rotate_left
  · have d10 : ((((getBytes (numR (numR (numR p)))).2.2 : Nat) : Int) != 0) = true := by simp; omega
    rw [if_pos (.inl b10)] at hq
    simp only [bW, Nat.reduceEqDiff, lt_40, zt_40, gN, gZ, hl6, hcl, hs6, f2, f4, f74, d10, retA_ret, Tryz.results47, resultsC_1, resultA_cell]
    exact hid_mk ⟨by rw [hq], kk _⟩
  have d10 : ((((getBytes (numR (numR (numR p)))).2.2 : Nat) : Int) != 0) = false := by simp [b10]
  by_cases b11 : (getBytes (numR (numR (numR p)))).2.1 = []
  rotate_left
  · have d11 : ((((getBytes (numR (numR (numR p)))).2.1.length : Nat) : Int) != 0) = true := by simpa [List.length_eq_zero_iff] using b11
    rw [if_pos (.inr (.inl b11))] at hq
    simp only [bW, Nat.reduceEqDiff, kt_29, lt_40, zt_40, gN, gZ, hl6, hcl, hs6, f2, f4, f74, d10, d11, retA_ret, Tryz.results47, resultsC_1, resultA_cell]
    exact hid_mk ⟨by rw [hq], kk _⟩
  have d11 : ((((getBytes (numR (numR (numR p)))).2.1.length : Nat) : Int) != 0) = false := by simp [b11]
  by_cases b12 : 2048 < (getBytes (numR (numR (numR p)))).1.length
  · have d12 : decide ((2048 : Int) < (((getBytes (numR (numR (numR p)))).1.length : Nat) : Int)) = true := by simp; omega
    rw [if_pos (.inr (.inr b12))] at hq
    simp only [bW, Nat.reduceEqDiff, kt_29, lt_40, zt_40, gN, gZ, hl6, hcl, hs6, f2, f4, f74, d10, d11, d12, retA_ret, Tryz.results47, resultsC_1, resultA_cell]
    exact hid_mk ⟨by rw [hq], kk _⟩
  have d12 : decide ((2048 : Int) < (((getBytes (numR (numR (numR p)))).1.length : Nat) : Int)) = false := by simp; omega
  rw [if_neg (fun z => z.elim (fun z => z b10) fun z => z.elim (fun z => z b11) b12)] at hq
  simp only [bW, Nat.reduceEqDiff, Nat.reduceAdd, ft_162_0, kt_29, lt_117, lt_40, gN, g3, hl6, w3, aConv_int it_117 it_3, f2, f8, f74, d10, d11, d12]
  refine callI_pureG (fun f => f 2 = .ptr h.n 0 ∧ f 4 = .ptr (h.n + 1) 0 ∧ f 7 = .int .i64 ((dec (numR p) 0 0).1 : Nat) ∧ f 8 = .ptr H2.n 0 ∧ f 9 = .imm (getBytes (numR (numR (numR p)))).1.length (bytesV (getBytes (numR (numR (numR p)))).1) ∧ f 95 = .int .i64 (findI n.2 ((dec (numR (numR p)) 0 0).1 : Nat))) cal51 (pFindR room s m torn n (by omega) ((dec (numR (numR p)) 0 0).1 : Nat) _) ⟨f2, f4, f7, f8, rfl, rfl⟩ ?_
  clear f2 f4 f7 f8 f74 f
  rintro f ⟨f2, f4, f7, f8, f9, f95⟩
  have hput : ∀ (z : Unit), rnE room s m torn (n.1, rwith n.2 ⟨((dec (numR (numR p)) 0 0).1 : Nat), ((dec (numR p) 0 0).1 : Nat), (getBytes (numR (numR (numR p)))).1⟩) = rnE room s m torn (n.1, rwith n.2 ⟨((dec (numR (numR p)) 0 0).1 : Nat), ((dec (numR p) 0 0).1 : Nat), (getBytes (numR (numR (numR p)))).1⟩) := fun _ => rfl
  rcases findI_rfind n.2 ((dec (numR (numR p)) 0 0).1 : Nat) with ⟨h1, h2⟩ | ⟨i, hi, h2, h1⟩
  · rw [h1] at hq
    simp only at hq
    rw [h2] at f95
    simp only [bW, Int.reduceLE, Int.reduceNeg, Nat.reduceEqDiff, Nat.reduceAdd, Nat.reduceLeDiff, ft_162_0, lt_117, lt_40, pl_51, zc_51, gN, g3, hl6, w3, aConv_int it_117 it_3, f2, f7, f8, f9, f95]
    refine callI_pure cal89 (pWithR room s m torn n ⟨((dec (numR (numR p)) 0 0).1 : Nat), ((dec (numR p) 0 0).1 : Nat), (getBytes (numR (numR (numR p)))).1⟩ hr hl _) ?_
    simp only [bW, Int.reduceNeg, Nat.reduceEqDiff, lt_40, zt_40, gZ, hl6, hcl, hs6, f4, retA_ret, Tryz.results47, resultsC_1, resultA_cell]
    exact hid_mk ⟨by rw [hq], kk _⟩
  · rw [h1] at hq
    simp only at hq
    rw [h2] at f95
    have d13 : decide ((0 : Int) ≤ (i : Nat)) = true := by simp
    have hx := cel_ixR hi (kk := .i64)
    have lx1 : ∀ r : List V, loadGo (some none) (some (V.int .i64 n.2[i].epoch :: r)) = some (.int .i64 n.2[i].epoch) := fun r => rfl
    have hx1 : ∀ (c : Cel) (r : List V), (if 1 ≤ (celE c ++ r).length then some (V.at (List.drop 1 (celE c ++ r))) else none) = some (V.at (.int .i64 c.epoch :: .imm c.bytes.length (bytesV c.bytes) :: r)) := fun c r => if_pos (by simp [celE])
    by_cases b14 : (((dec (numR p) 0 0).1 : Nat) : Int) ≤ n.2[i].epoch
    · have d14 : decide ((((dec (numR p) 0 0).1 : Nat) : Int) ≤ n.2[i].epoch) = true := by simpa using b14
      rw [if_pos b14] at hq
      simp only [bW, Nat.reduceEqDiff, ft_40_2, ft_51_1, lt_3, lt_38, lt_40, zt_40, gN, gZ, hl6, hcl, hs6, e5, f2, f4, f7, f95, d13, hx, hx1, lx1, d14, retA_ret, Tryz.results47, resultsC_1, resultA_cell]
      exact hid_mk ⟨by rw [hq], kk _⟩
    · have d14 : decide ((((dec (numR p) 0 0).1 : Nat) : Int) ≤ n.2[i].epoch) = false := by simpa using b14
      rw [if_neg b14] at hq
      simp only [bW, Nat.reduceEqDiff, Nat.reduceAdd, Nat.reduceLeDiff, ft_162_0, ft_40_2, ft_51_1, lt_117, lt_3, lt_38, lt_40, pl_51, zc_51, gN, g3, hl6, e5, w3, aConv_int it_117 it_3, f2, f7, f8, f9, f95, d13, hx, hx1, lx1, d14]
      refine callI_pure cal89 (pWithR room s m torn n ⟨((dec (numR (numR p)) 0 0).1 : Nat), ((dec (numR p) 0 0).1 : Nat), (getBytes (numR (numR (numR p)))).1⟩ hr hl _) ?_
      simp only [bW, Nat.reduceEqDiff, lt_40, zt_40, gZ, hl6, hcl, hs6, f4, retA_ret, Tryz.results47, resultsC_1, resultA_cell]
      exact hid_mk ⟨by rw [hq], kk _⟩
end Go.Proofs.YtilgpaibolollaaGreat.Pk
namespace Go.Proofs.YtilgpaibolollaaGreat.Pk
open Go Go.Proofs Go.Proofs.YtilgpaibolollaaGreat.Ab
set_option maxRecDepth 10000
set_option linter.unusedVariables false
set_option linter.unusedSimpArgs false
/-! ### Layer 8 of the reference: Open -/
theorem filt_len (l : List Cel) (k : Int) : (l.filter (fun d => decide (d.at_ < k))).length + (l.filter fun d => decide (k < d.at_)).length ≤ l.length := by
  induction l with
  | nil => simp
  | cons d l ih =>
    rw [List.filter_cons, List.filter_cons]
    by_cases h1 : d.at_ < k
    · rw [if_pos (by simpa using h1), if_neg (by simp; omega)]; simp only [List.length_cons]; omega
    · by_cases h2 : k < d.at_
      · rw [if_neg (by simp; omega), if_pos (by simpa using h2)]; simp only [List.length_cons]; omega
      · rw [if_neg (by simp; omega), if_neg (by simp; omega)]; simp only [List.length_cons]; omega
theorem rwith_len (l : List Cel) (c : Cel) : (rwith l c).length ≤ l.length + 1 := by
  have := filt_len l c.at_
  unfold rwith
  rw [List.length_append, List.length_cons]
  omega
theorem redoR_len (n : RNd) (p : List Nat) : (redoR n p).2.length ≤ n.2.length + 1 := by
  unfold redoR
  split
  · split
    · exact Nat.le_succ _
    · exact rwith_len _ _
  · exact Nat.le_succ _
theorem redoRL_len (l : List (List Nat)) : (redoRL l).2.length ≤ l.length := by
  have : ∀ (l : List (List Nat)) (n : RNd), (l.foldl redoR n).2.length ≤ n.2.length + l.length := by
    intro l
    induction l with
    | nil => exact fun n => Nat.le_refl _
    | cons p l ih =>
      intro n
      have h1 := ih (redoR n p)
      have h2 := redoR_len n p
      rw [List.foldl_cons, List.length_cons]
      omega
  have := this l (0, [])
  simpa [redoRL] using this
theorem redoRL_take {l : List (List Nat)} {i : Nat} (hi : i < l.length) : redoRL (l.take (i + 1)) = redoR (redoRL (l.take i)) l[i] := by
  rw [List.take_succ_eq_append_getElem hi, redoRL_snoc]
theorem sgE_rn (room : Int) (l m : List Nat) (torn : Int) : sgE room l m torn = [.int .i64 room, .imm l.length (bytesV l), .imm m.length (bytesV m), .int .i64 torn] := by
  unfold sgE xE
  rw [bV_nI, bV_nI, nI_len, nI_len]
  rfl
theorem row_ix {l : List (List Nat)} {k : Nat} (hk : k < l.length) {kk : IntKind} : aIndexAddr Tryz.prog 73 (.imm l.length (rowV l)) (.int kk (k : Int)) = some (.at (.imm l[k].length (bytesV l[k]) :: rowV (l.drop (k + 1)))) := by
  rw [index_imm ss_73 (by omega) (by omega) (by rw [rowV_len]; omega), Int.toNat_natCast, Nat.mul_one]
  unfold rowV
  rw [← List.map_drop, List.drop_eq_getElem_cons hk]
  rfl
theorem pRowRP (room torn : Int) (l m : List Nat) (hb : ∀ x ∈ l ++ m, x < 256) (hl : (l ++ m).length ≤ 2 ^ 30) (h : AHeap) :
    Pure Tryz.prog 46 [.agg (sgE room l m torn)] h (.imm (scanF (l ++ m).length (l ++ m)).1.length (rowV (scanF (l ++ m).length (l ++ m)).1)) :=
  Pure.acc (rowV_clo _) (by rw [rowV_len, Nat.mul_one]) (by decide) (pRowR room torn l m hb hl h)
def rnV (room : Int) (s : List Nat) (torn ep : Int) (v : V) : List V := [.int .i64 room, .imm s.length (bytesV s), .imm 0 (bytesV []), .int .i64 torn, .int .i64 ep, v]
/-- What the cells are, at first nil. -/
def CelsV (v : V) (l : List Cel) : Prop := v = .snil ∧ l = [] ∨ v = .imm l.length (l.flatMap celE)
theorem CelsV.cast {v : V} {l : List Cel} (c : CelsV v l) (h : AHeap) : Cast v h (.imm l.length (l.flatMap celE)) h := by
  rcases c with ⟨rfl, rfl⟩ | rfl
  · exact Cast.nil0 h
  · exact Cast.refl _ _
theorem CelsV.one {v : V} {l : List Cel} (c : CelsV v l) : v.one = true := by
  rcases c with ⟨rfl, rfl⟩ | rfl <;> rfl
theorem rnV_cast {room : Int} {s : List Nat} {torn : Int} {v : V} {n : RNd} (c : CelsV v n.2) (h : AHeap) : Cast (.agg (rnV room s torn n.1 v)) h (.agg (rnE room s [] torn n)) h :=
  Pk.Cast.agg (CastL.skip (CastL.skip (CastL.skip (CastL.skip (CastL.skip (CastL.last (c.cast h)))))))
theorem pNodeR (room : Int) (l m : List Nat) (hb : ∀ x ∈ l ++ m, x < 256) (hl : (l ++ m).length ≤ 2 ^ 29) (h : AHeap) :
    Pure Tryz.prog 9 [.agg (xE room (nI l) (nI m))] h (.agg (rnE room ((scanF (l ++ m).length (l ++ m)).1.flatMap frame) [] (((l ++ m).length : Int) - (endN (l ++ m) : Nat)) (redoRL (scanF (l ++ m).length (l ++ m)).1))) := by
  refine Pure.of (Clo.agg (rnE_clo _ _ _ _ _)) ?_
  refine SCalls.enterI (c := _) Tryz.func9 rfl (by kernel_rfl) (by simp) ?_
  have hcl : (V.agg (xE room (nI l) (nI m))).cells = some (xE room (nI l) (nI m)) := rfl
  have hld : loadGo (some (some 3)) (some (xE room (nI l) (nI m))) = some (.agg (xE room (nI l) (nI m))) := rfl
  obtain ⟨t1, t2⟩ := scan_back (l ++ m).length (l ++ m) hb
  have t3 := scanF_mem (l ++ m).length (l ++ m) hb
  have t4 := scanF_len (l ++ m).length (l ++ m)
  have hE : (l ++ m).take (endN (l ++ m)) = (scanF (l ++ m).length (l ++ m)).1.flatMap frame := t1
  have hsl : ((l ++ m).take (endN (l ++ m))).length ≤ (l ++ m).length := by rw [List.length_take]; omega
  simp only [bW, Nat.reduceEqDiff, lt_31, zc_40, hcl, hld]
  refine callI_pure cal45 (pOpenSegR room l m hb (by omega) _) ?_
  rw [hE] at hsl ⊢
  generalize ((l ++ m).length : Int) - ((endN (l ++ m) : Nat) : Int) = tn
  have hall := scan_all (scanF (l ++ m).length (l ++ m)).1 t2
  generalize (scanF (l ++ m).length (l ++ m)).1 = S at t1 t2 t3 t4 hE hsl hall ⊢
  have hbs : ∀ x ∈ S.flatMap frame ++ [], x < 256 := fun x hx => by
    rw [List.append_nil, ← hE] at hx
    exact hb x (List.mem_of_mem_take hx)
  rw [sgE_rn]
  simp only [bW, Nat.reduceEqDiff, Nat.reduceAdd, Nat.reduceLeDiff, ft_40_0, lt_37, pl_40, zc_40, zt_40]
  refine callI_pure cal46 (by
    have := pRowRP room tn (S.flatMap frame) [] hbs (by rw [List.append_nil]; omega) ((((h.push (.cells (xE room (nI l) (nI m)) 31 none)).push (.cells [.int .i64 0, .snil, .snil, .int .i64 0, .int .i64 0, .snil] 40 none)).push (.cells (rnV room (S.flatMap frame) tn 0 .snil) 40 none)))
    rw [sgE_rn, List.append_nil, hall] at this
    exact this) ?_
  simp only [bW, Nat.reduceEqDiff]
  have k0 : Keep h (((h.push (.cells (xE room (nI l) (nI m)) 31 none)).push (.cells [.int .i64 0, .snil, .snil, .int .i64 0, .int .i64 0, .snil] 40 none)).push (.cells (rnV room (S.flatMap frame) tn 0 .snil) 40 none)) none_ := ((Keep.push _ _ _).trans (Keep.push _ _ _) (fun _ _ h => h)).trans (Keep.push _ _ _) (fun _ _ h => h)
  have gN : (((h.push (.cells (xE room (nI l) (nI m)) 31 none)).push (.cells [.int .i64 0, .snil, .snil, .int .i64 0, .int .i64 0, .snil] 40 none)).push (.cells (rnV room (S.flatMap frame) tn 0 .snil) 40 none)).get (h.n + 1 + 1) = .cells (rnV room (S.flatMap frame) tn 0 .snil) 40 none := get_push_new
  have gZ : (((h.push (.cells (xE room (nI l) (nI m)) 31 none)).push (.cells [.int .i64 0, .snil, .snil, .int .i64 0, .int .i64 0, .snil] 40 none)).push (.cells (rnV room (S.flatMap frame) tn 0 .snil) 40 none)).get (h.n + 1) = .cells [.int .i64 0, .snil, .snil, .int .i64 0, .int .i64 0, .snil] 40 none := get_p2 (h.push _) _ _
  have n0 : (((h.push (.cells (xE room (nI l) (nI m)) 31 none)).push (.cells [.int .i64 0, .snil, .snil, .int .i64 0, .int .i64 0, .snil] 40 none)).push (.cells (rnV room (S.flatMap frame) tn 0 .snil) 40 none)).n = h.n + 3 := rfl
  unfold rnV at k0 gN gZ n0
  generalize (((h.push (.cells (xE room (nI l) (nI m)) 31 none)).push (.cells [.int .i64 0, .snil, .snil, .int .i64 0, .int .i64 0, .snil] 40 none)).push (.cells [.int .i64 room, .imm (S.flatMap frame).length (bytesV (S.flatMap frame)), .imm 0 (bytesV []), .int .i64 tn, .int .i64 0, .snil] 40 none)) = H at k0 gN gZ n0 ⊢
  refine SWp.loopG (α := Nat × V) (fun x f h' => f 2 = .ptr (h.n + 1) 0 ∧ f 3 = .ptr (h.n + 1 + 1) 0 ∧ f 4 = .imm S.length (rowV S) ∧ f 5 = .int .i64 (x.1 : Nat) ∧ x.1 ≤ S.length ∧ CelsV x.2 (redoRL (S.take x.1)).2 ∧
    h'.get (h.n + 1 + 1) = .cells (rnV room (S.flatMap frame) tn (redoRL (S.take x.1)).1 x.2) 40 none ∧ Keep H h' (fun q => q = h.n + 1 + 1)) (fun x => S.length - x.1) (0, .snil)
    ⟨rfl, rfl, rfl, rfl, Nat.zero_le _, .inl ⟨rfl, rfl⟩, gN, Keep.refl _ _⟩ ?_
  rintro ⟨i, v⟩ f h1 ⟨f2, f3, f4, f5, hi, hv, g1, k1⟩
  simp only at f2 f3 f4 f5 hi hv g1 k1
  refine wpI_sound (by kernel_rfl) ?_
  have lk := like_all (S.take i)
  have hri := lk.ri
  have hrl := redoRL_len (S.take i)
  rw [List.length_take] at hrl
  have l6 : ∀ (a : Int) (v : V), loadGo (some (some 6)) (some (rnV room (S.flatMap frame) tn a v)) = some (.agg (rnV room (S.flatMap frame) tn a v)) := fun a v => rfl
  have c6 : ∀ (a : Int) (v : V), (V.agg (rnV room (S.flatMap frame) tn a v)).cells = some (rnV room (S.flatMap frame) tn a v) := fun a v => rfl
  by_cases hlt : i < S.length
  · have d1 : decide ((i : Int) < ((S.length : Nat) : Int)) = true := by simp; omega
    have hx := row_ix hlt (kk := .i64)
    have hi1 : IntKind.i64.wrap ((i : Int) + 1) = ((i + 1 : Nat) : Int) := by rw [Go.IntWalk.i64_in _ (by omega)]; rfl
    have hT := redoRL_take hlt
    have hp := t3 S[i] (List.getElem_mem hlt)
    generalize redoRL (S.take i) = nd at *
    have ce : ∀ n : RNd, (V.agg (rnE room (S.flatMap frame) [] tn n)).cells = some (rnE room (S.flatMap frame) [] tn n) := fun _ => rfl
    have hst : ∀ n : RNd, setC (some 6) (AObj.cells (rnV room (S.flatMap frame) tn nd.1 v) 40 none) 0 (rnE room (S.flatMap frame) [] tn n) = some (.cells (rnE room (S.flatMap frame) [] tn n) 40 none) := fun _ => rfl
    have hredo : ∀ h', Pure Tryz.prog 47 [.agg (rnV room (S.flatMap frame) tn nd.1 v), .imm S[i].length (bytesV S[i])] h' (.agg (rnE room (S.flatMap frame) [] tn (redoR nd S[i]))) := fun h' => Pure.args (CastL.cons (rnV_cast hv h') (CastL.refl _ _)) (pRedoR room (S.flatMap frame) [] tn nd S[i] hri (by omega) hp.2 (by omega) h')
    simp only [bW, Nat.reduceEqDiff, kt_73, f4, f5, d1]
    refine SWp.drawnS none_ [6] (.q 0 (.q 1 (.q 2 (.q 3 (.q 4 (.c 5 (.a 6 .done))))))) (by kernel_rfl) (by kernel_rfl) (by kernel_rfl) ?_
    simp only [bW, bS, Nat.reduceEqDiff, lt_29, lt_40, f3, f4, f5, g1, l6, hx]
    refine siI_c rfl rfl rfl (fun h' _ => hredo h') ?_
    simp only [bW, bS, Nat.reduceEqDiff, zt_40, f3, f5, g1, ce, hst, hi1]
    exact hid_mk ⟨(i + 1, .imm (redoR nd S[i]).2.length ((redoR nd S[i]).2.flatMap celE)), ⟨f2, f3, f4, rfl, hlt, by rw [hT]; exact .inr rfl, by rw [hT]; exact get_set_same, k1.trans (Keep.set _ _ _) fun x _ hh => hh⟩, by simp only; omega⟩
  · have d1 : decide ((i : Int) < ((S.length : Nat) : Int)) = false := by simp; omega
    rw [List.take_of_length_le (show S.length ≤ i by omega)] at hv g1
    have z1 := (k1.get (h.n + 1) (by omega) (by omega)).trans gZ
    have hst : setC (some 6) (AObj.cells [.int .i64 0, .snil, .snil, .int .i64 0, .int .i64 0, .snil] 40 none) 0 (rnV room (S.flatMap frame) tn (redoRL S).1 v) = some (.cells (rnV room (S.flatMap frame) tn (redoRL S).1 v) 40 none) := by
      rw [setC_row (n := 6) rfl (by simp [hv.one, rnV]; exact ⟨rfl, rfl, rfl, rfl, rfl⟩), if_pos (by decide)]; rfl
    simp only [bW, Nat.reduceEqDiff, kt_73, lt_40, zt_40, f2, f3, f4, f5, d1, g1, l6, c6, z1, hst, retA_ret, Tryz.results9, resultsC_1, resultA_cell]
    exact hid_mk ⟨_, rnV_cast hv _, ((k0.trans k1 fun x hx hh => by omega).trans (Keep.set _ _ _) fun x hx hh => by omega)⟩
end Go.Proofs.YtilgpaibolollaaGreat.Pk
namespace Go.Proofs.YtilgpaibolollaaGreat.Pk
open Go Go.Proofs Go.Proofs.YtilgpaibolollaaGreat.Ab
set_option maxRecDepth 10000
set_option linter.unusedVariables false
set_option linter.unusedSimpArgs false
/-! ### Layer 8 of the reference: note -/
def noteV (room : Int) (s : List Nat) (torn : Int) (n : RNd) (b : List Nat) : V :=
  if putBad room s b = 0 then .tuple [.agg (rnE room (s ++ frame b) [] torn (redoR n b)), .int .i64 0] else .tuple [.agg (rnE room s [] torn n), .int .i64 (putBad room s b)]
theorem noteV_clo (room : Int) (s : List Nat) (torn : Int) (n : RNd) (b : List Nat) : Clo (noteV room s torn n b) := by
  unfold noteV
  split <;> exact Clo.tuple (CloL.cons (Clo.agg (rnE_clo _ _ _ _ _)) (CloL.cons (Clo.int _ _) CloL.nil))
theorem pNoteR (room : Int) (s : List Nat) (torn : Int) (n : RNd) (b : List Nat) (hroom : room ≤ 1048576) (hs : s.length ≤ 2 ^ 29) (hr : Rise n.2) (hl : n.2.length ≤ 2 ^ 30) (hb : ∀ x ∈ b, x < 256) (hbl : b.length ≤ 2 ^ 40) (h : AHeap) :
    Pure Tryz.prog 53 [.agg (rnE room s [] torn n), .imm b.length (bytesV b)] h (noteV room s torn n b) := by
  refine Pure.val (noteV_clo _ _ _ _ _) ?_
  refine SCalls.enterI (c := _) Tryz.func53 rfl (by kernel_rfl) (by simp) ?_
  have hcl : ∀ s n, (V.agg (rnE room s [] torn n)).cells = some (rnE room s [] torn n) := fun s n => rfl
  have hs6 : ∀ s n, setC (some 6) (AObj.cells [.int .i64 0, .snil, .snil, .int .i64 0, .int .i64 0, .snil] 40 none) 0 (rnE room s [] torn n) = some (.cells (rnE room s [] torn n) 40 none) := fun s n => rfl
  have hl6 : ∀ s n, loadGo (some (some 6)) (some (rnE room s [] torn n)) = some (.agg (rnE room s [] torn n)) := fun s n => rfl
  have l4 : (if 4 ≤ (rnE room s [] torn n).length then some (V.agg (List.take 4 (rnE room s [] torn n))) else none) = some (.agg (sgE room s [] torn)) := by rw [sgE_rn]; rfl
  simp only [bW, Nat.reduceEqDiff, ft_40_0, lt_37, zc_40, hcl, l4]
  refine callI_pure cal93 (pPutR room torn s [] b hroom (by rw [List.append_nil]; omega) hb hbl _) ?_
  have hc4 : ∀ l m, (V.agg (sgE room l m torn)).cells = some (sgE room l m torn) := fun l m => rfl
  have s4 : ∀ l m, setC (some 4) (AObj.cells [.int .i64 0, .snil, .snil, .int .i64 0] 37 none) 0 (sgE room l m torn) = some (.cells (sgE room l m torn) 37 none) := fun l m => rfl
  have hld4 : ∀ l m, loadGo (some (some 4)) (some (sgE room l m torn)) = some (.agg (sgE room l m torn)) := fun l m => rfl
  have hq : ∀ e : Int, e ≠ 0 → putBad room s b = e → noteV room s torn n b = .tuple [.agg (rnE room s [] torn n), .int .i64 e] := fun e h0 he => by unfold noteV; rw [he, if_neg h0]
  have k0 : Keep h ((h.push (.cells (rnE room s [] torn n) 40 none)).push (.cells [.int .i64 0, .snil, .snil, .int .i64 0, .int .i64 0, .snil] 40 none)) none_ := (Keep.push _ _ _).trans (Keep.push _ _ _) (fun _ _ h => h)
  have gN : ((h.push (.cells (rnE room s [] torn n) 40 none)).push (.cells [.int .i64 0, .snil, .snil, .int .i64 0, .int .i64 0, .snil] 40 none)).get h.n = .cells (rnE room s [] torn n) 40 none := get_p2 _ _ _
  have gZ : ((h.push (.cells (rnE room s [] torn n) 40 none)).push (.cells [.int .i64 0, .snil, .snil, .int .i64 0, .int .i64 0, .snil] 40 none)).get (h.n + 1) = .cells [.int .i64 0, .snil, .snil, .int .i64 0, .int .i64 0, .snil] 40 none := get_push_new
  have n0 : ((h.push (.cells (rnE room s [] torn n) 40 none)).push (.cells [.int .i64 0, .snil, .snil, .int .i64 0, .int .i64 0, .snil] 40 none)).n = h.n + 2 := rfl
  generalize (h.push (.cells (rnE room s [] torn n) 40 none)).push (.cells [.int .i64 0, .snil, .snil, .int .i64 0, .int .i64 0, .snil] 40 none) = H at k0 gN gZ n0 ⊢
  have bad : ∀ m', Keep H (H.push (.cells (sgE room s m' torn) 37 none)) none_ := fun m' => Keep.push _ _ _
  unfold putRV
  rw [List.append_nil]
  by_cases hbig : 4096 < b.length
  · rw [if_pos hbig]
    have hp : putBad room s b = 2 := by unfold putBad; rw [if_pos hbig]
    have gN := (((bad []).get h.n (by omega) (fun h => h))).trans gN
    have gZ := (((bad []).get (h.n + 1) (by omega) (fun h => h))).trans gZ
    have kk : ∀ o, Keep h ((H.push (.cells (sgE room s [] torn) 37 none)).set (h.n + 1) o) none_ := fun o => (k0.trans (bad []) fun _ _ h => h).setNew (by omega) _
    simp only [bW, Int.reduceBNe, Nat.reduceEqDiff, lt_40, zc_37, zt_37, zt_40, hcl, hs6, hl6, hc4, s4, gN, gZ, retA_ret, Tryz.results53, resultsC_2, resultA_tmp, resultA_cell, res2_some]
    exact hid_mk ⟨by rw [hq 2 (by decide) hp], kk _⟩
  rw [if_neg hbig]
  by_cases hfit : (s.length + (frame b).length : Int) ≤ room
  rotate_left
  · rw [if_neg hfit]
    have hp : putBad room s b = 3 := by unfold putBad; rw [if_neg hbig, if_neg hfit]
    have gN := (((bad []).get h.n (by omega) (fun h => h))).trans gN
    have gZ := (((bad []).get (h.n + 1) (by omega) (fun h => h))).trans gZ
    have kk : ∀ o, Keep h ((H.push (.cells (sgE room s [] torn) 37 none)).set (h.n + 1) o) none_ := fun o => (k0.trans (bad []) fun _ _ h => h).setNew (by omega) _
    simp only [bW, Int.reduceBNe, Nat.reduceEqDiff, lt_40, zc_37, zt_37, zt_40, hcl, hs6, hl6, hc4, s4, gN, gZ, retA_ret, Tryz.results53, resultsC_2, resultA_tmp, resultA_cell, res2_some]
    exact hid_mk ⟨by rw [hq 3 (by decide) hp], kk _⟩
  rw [if_pos hfit, List.nil_append]
  have hp : putBad room s b = 0 := by unfold putBad; rw [if_neg hbig, if_pos hfit]
  have hv : noteV room s torn n b = .tuple [.agg (rnE room (s ++ frame b) [] torn (redoR n b)), .int .i64 0] := by unfold noteV; rw [hp, if_pos rfl]
  have hfl : (frame b).length ≤ 2 ^ 39 := by
    unfold frame encBytes
    have := (enc_le b.length (by omega)).2
    rw [List.length_append, List.length_append]
    show _ + 4 ≤ _
    omega
  have k2 := bad (frame b)
  have gN := (((bad (frame b)).get h.n (by omega) (fun h => h))).trans gN
  have gZ := (((bad (frame b)).get (h.n + 1) (by omega) (fun h => h))).trans gZ
  have gS : (H.push (.cells (sgE room s (frame b) torn) 37 none)).get H.n = .cells (sgE room s (frame b) torn) 37 none := get_push_new
  have l3 : (if 3 ≤ (sgE room s (frame b) torn).length then some (V.agg (List.take 3 (sgE room s (frame b) torn))) else none) = some (.agg (xE room (nI s) (nI (frame b)))) := rfl
  simp only [bW, Nat.reduceEqDiff, ft_37_0, lt_31, zc_37, zt_37, hc4, s4, gS, l3]
  generalize H.push (.cells (sgE room s (frame b) torn) 37 none) = H2 at k2 gN gZ gS ⊢
  refine callI_pure cal61 (rSync room (nI s) (nI (frame b)) (by rw [nI_len, nI_len]; omega) _) ?_
  rw [← nI_app]
  have c3 : (V.agg (xE room (nI (s ++ frame b)) [])).cells = some (xE room (nI (s ++ frame b)) []) := rfl
  have t3 : setC (some 3) (AObj.cells (sgE room s (frame b) torn) 37 none) 0 (xE room (nI (s ++ frame b)) []) = some (.cells (sgE room (s ++ frame b) [] torn) 37 none) := rfl
  have t4 : setC (some 4) (AObj.cells (rnE room s [] torn n) 40 none) 0 (sgE room (s ++ frame b) [] torn) = some (.cells (rnE room (s ++ frame b) [] torn n) 40 none) := by rw [sgE_rn]; rfl
  have g3 : ∀ o, (H2.set H.n o).get H.n = o := fun o => get_set_same
  have gN3 : ∀ o, (H2.set H.n o).get h.n = H2.get h.n := fun o => get_set_ne (by omega)
  have gN4 : ∀ o o', ((H2.set H.n o).set h.n o').get h.n = o' := fun o o' => get_set_same
  have gZ4 : ∀ o o', ((H2.set H.n o).set h.n o').get (h.n + 1) = H2.get (h.n + 1) := fun o o' => (get_set_ne (by omega)).trans (get_set_ne (by omega))
  simp only [bW, Nat.reduceEqDiff, ft_37_0, ft_40_0, lt_37, lt_40, zt_31, zt_37, hl6, hc4, gS, c3, t3, t4, gN3, gN, hld4]
  refine callI_pure cal47 (pRedoR room (s ++ frame b) [] torn n b hr hl hb hbl _) ?_
  simp only [bW, Nat.reduceEqDiff, lt_40, zt_40, hcl, hs6, hl6, gZ4, gZ, retA_ret, Tryz.results53, resultsC_2, resultA_tmp, resultA_cell, res2_some]
  exact hid_mk ⟨by rw [hv], ((((k0.trans k2 fun _ _ h => h).setNew (by omega) _).setNew (Nat.le_refl _) _).setNew (by omega) _)⟩
end Go.Proofs.YtilgpaibolollaaGreat.Pk
namespace Go.Proofs.YtilgpaibolollaaGreat.Pk
open Go Go.Proofs Go.Proofs.YtilgpaibolollaaGreat.Ab
set_option maxRecDepth 10000
set_option linter.unusedVariables false
set_option linter.unusedSimpArgs false
/-! ### Layer 8 of the reference: Write -/
def wrR (n : RNd) (ep at_ : Int) (b : List Nat) : Option Int :=
  if mayWr ⟨1, ep, at_, b⟩ = false then some 2 else if ep < n.1 then some 7 else
  match rfind n.2 at_ with
  | some c => if c.epoch = ep ∧ c.bytes = b then some 0 else if ep ≤ c.epoch then some 12 else none
  | none => none
theorem wrR_eq {s : NSt} {n : RNd} (w : Like s n) (ep at_ : Int) (b : List Nat) : wrR n ep at_ b = wrI s ep at_ b := by
  unfold wrR wrI
  rw [w.ep, w.find]
  split
  · rfl
  split
  · rfl
  cases rfind n.2 at_ with
  | none => rfl
  | some c =>
    simp only
    by_cases h1 : c.epoch = ep ∧ c.bytes = b
    · rw [if_pos h1, if_pos (by omega), if_pos h1]
    · rw [if_neg h1]
      by_cases h2 : ep ≤ c.epoch
      · rw [if_pos h2, if_pos h2, if_neg h1]
      · rw [if_neg h2, if_neg h2]
theorem noteV_tup (room : Int) (s : List Nat) (torn : Int) (n : RNd) (b : List Nat) : ∃ (s' : List Nat) (n' : RNd) (e : Int), noteV room s torn n b = .tuple [.agg (rnE room s' [] torn n'), .int .i64 e] := by
  unfold noteV
  split
  · exact ⟨_, _, _, rfl⟩
  · exact ⟨_, _, _, rfl⟩
def writeV (room : Int) (s : List Nat) (torn : Int) (n : RNd) (ep at_ : Int) (b : List Nat) : V :=
  match wrR n ep at_ b with
  | some e => .tuple [.agg (rnE room s [] torn n), .int .i64 e]
  | none => noteV room s torn n (payN ⟨1, ep, at_, b⟩)
theorem writeV_clo (room : Int) (s : List Nat) (torn : Int) (n : RNd) (ep at_ : Int) (b : List Nat) : Clo (writeV room s torn n ep at_ b) := by
  unfold writeV
  split
  · exact Clo.tuple (CloL.cons (Clo.agg (rnE_clo _ _ _ _ _)) (CloL.cons (Clo.int _ _) CloL.nil))
  · exact noteV_clo _ _ _ _ _
theorem pWriteR (room : Int) (s : List Nat) (torn : Int) (n : RNd) (ep at_ : Int) (b : List Nat) (hroom : room ≤ 1048576) (hs : s.length ≤ 2 ^ 29) (hr : Rise n.2) (hl : n.2.length ≤ 2 ^ 30) (hcb : ∀ c ∈ n.2, ∀ x ∈ c.bytes, x < 256)
    (hb : ∀ x ∈ b, x < 256) (hbl : b.length ≤ 2 ^ 50) (h : AHeap) :
    Pure Tryz.prog 11 [.agg (rnE room s [] torn n), .int .i64 ep, .int .i64 at_, .imm b.length (bytesV b)] h (writeV room s torn n ep at_ b) := by
  refine Pure.val (writeV_clo _ _ _ _ _ _ _) ?_
  refine SCalls.enterI (c := _) Tryz.func11 rfl (by kernel_rfl) (by simp) ?_
  have hcl : ∀ s n, (V.agg (rnE room s [] torn n)).cells = some (rnE room s [] torn n) := fun s n => rfl
  have hs6 : ∀ s n, setC (some 6) (AObj.cells [.int .i64 0, .snil, .snil, .int .i64 0, .int .i64 0, .snil] 40 none) 0 (rnE room s [] torn n) = some (.cells (rnE room s [] torn n) 40 none) := fun s n => rfl
  have hl6 : ∀ s n, loadGo (some (some 6)) (some (rnE room s [] torn n)) = some (.agg (rnE room s [] torn n)) := fun s n => rfl
  have e4 : dropC (AObj.cells (rnE room s [] torn n) 40 none) 4 = some [.int .i64 n.1, .imm n.2.length (n.2.flatMap celE)] := rfl
  have e5 : dropC (AObj.cells (rnE room s [] torn n) 40 none) 5 = some [.imm n.2.length (n.2.flatMap celE)] := rfl
  have hq : ∀ e : Int, wrR n ep at_ b = some e → writeV room s torn n ep at_ b = .tuple [.agg (rnE room s [] torn n), .int .i64 e] := fun e he => by unfold writeV; rw [he]
  simp only [bW, Nat.reduceEqDiff, zc_40, hcl]
  have k0 : Keep h ((h.push (.cells (rnE room s [] torn n) 40 none)).push (.cells [.int .i64 0, .snil, .snil, .int .i64 0, .int .i64 0, .snil] 40 none)) none_ := (Keep.push _ _ _).trans (Keep.push _ _ _) (fun _ _ h => h)
  have gN : ((h.push (.cells (rnE room s [] torn n) 40 none)).push (.cells [.int .i64 0, .snil, .snil, .int .i64 0, .int .i64 0, .snil] 40 none)).get h.n = .cells (rnE room s [] torn n) 40 none := get_p2 _ _ _
  have gZ : ((h.push (.cells (rnE room s [] torn n) 40 none)).push (.cells [.int .i64 0, .snil, .snil, .int .i64 0, .int .i64 0, .snil] 40 none)).get (h.n + 1) = .cells [.int .i64 0, .snil, .snil, .int .i64 0, .int .i64 0, .snil] 40 none := get_push_new
  have kk : ∀ o, Keep h (((h.push (.cells (rnE room s [] torn n) 40 none)).push (.cells [.int .i64 0, .snil, .snil, .int .i64 0, .int .i64 0, .snil] 40 none)).set (h.n + 1) o) none_ := fun o => k0.setNew (by omega) _
  generalize (h.push (.cells (rnE room s [] torn n) 40 none)).push (.cells [.int .i64 0, .snil, .snil, .int .i64 0, .int .i64 0, .snil] 40 none) = H at k0 gN gZ kk ⊢
  by_cases m1 : at_ < 0
  · have d1 : decide (at_ < 0) = true := by simp; omega
    have hm : mayWr ⟨1, ep, at_, b⟩ = false := by
      unfold mayWr mayEp
      simp only [Bool.and_eq_false_iff, decide_eq_false_iff_not]
      omega
    have hw : wrR n ep at_ b = some 2 := by unfold wrR; rw [if_pos hm]
    simp only [bW, Nat.reduceEqDiff, lt_40, zt_40, gN, gZ, hl6, hcl, hs6, d1, retA_ret, Tryz.results11, resultsC_2, resultA_tmp, resultA_cell, res2_some]
    exact hid_mk ⟨by rw [hq _ hw], kk _⟩
  have d1 : decide (at_ < 0) = false := by simp; omega
  by_cases m2 : 4095 < at_
  · have d2 : decide ((4095 : Int) < at_) = true := by simp; omega
    have hm : mayWr ⟨1, ep, at_, b⟩ = false := by
      unfold mayWr mayEp
      simp only [Bool.and_eq_false_iff, decide_eq_false_iff_not]
      omega
    have hw : wrR n ep at_ b = some 2 := by unfold wrR; rw [if_pos hm]
    simp only [bW, Nat.reduceEqDiff, lt_40, zt_40, gN, gZ, hl6, hcl, hs6, d1, d2, retA_ret, Tryz.results11, resultsC_2, resultA_tmp, resultA_cell, res2_some]
    exact hid_mk ⟨by rw [hq _ hw], kk _⟩
  have d2 : decide ((4095 : Int) < at_) = false := by simp; omega
  by_cases m3 : ep < 0
  · have d3 : decide (ep < 0) = true := by simp; omega
    have hm : mayWr ⟨1, ep, at_, b⟩ = false := by
      unfold mayWr mayEp
      simp only [Bool.and_eq_false_iff, decide_eq_false_iff_not]
      omega
    have hw : wrR n ep at_ b = some 2 := by unfold wrR; rw [if_pos hm]
    simp only [bW, Nat.reduceEqDiff, lt_40, zt_40, gN, gZ, hl6, hcl, hs6, d1, d2, d3, retA_ret, Tryz.results11, resultsC_2, resultA_tmp, resultA_cell, res2_some]
    exact hid_mk ⟨by rw [hq _ hw], kk _⟩
  have d3 : decide (ep < 0) = false := by simp; omega
  by_cases m4 : 1048576 < ep
  · have d4 : decide ((1048576 : Int) < ep) = true := by simp; omega
    have hm : mayWr ⟨1, ep, at_, b⟩ = false := by
      unfold mayWr mayEp
      simp only [Bool.and_eq_false_iff, decide_eq_false_iff_not]
      omega
    have hw : wrR n ep at_ b = some 2 := by unfold wrR; rw [if_pos hm]
    simp only [bW, Nat.reduceEqDiff, lt_40, zt_40, gN, gZ, hl6, hcl, hs6, d1, d2, d3, d4, retA_ret, Tryz.results11, resultsC_2, resultA_tmp, resultA_cell, res2_some]
    exact hid_mk ⟨by rw [hq _ hw], kk _⟩
  have d4 : decide ((1048576 : Int) < ep) = false := by simp; omega
  by_cases m5 : 2048 < b.length
  · have d5 : decide ((2048 : Int) < ((b.length : Nat) : Int)) = true := by simp; omega
    have hm : mayWr ⟨1, ep, at_, b⟩ = false := by
      unfold mayWr mayEp
      simp only [Bool.and_eq_false_iff, decide_eq_false_iff_not]
      omega
    have hw : wrR n ep at_ b = some 2 := by unfold wrR; rw [if_pos hm]
    simp only [bW, Nat.reduceEqDiff, kt_29, lt_40, zt_40, gN, gZ, hl6, hcl, hs6, d1, d2, d3, d4, d5, retA_ret, Tryz.results11, resultsC_2, resultA_tmp, resultA_cell, res2_some]
    exact hid_mk ⟨by rw [hq _ hw], kk _⟩
  have d5 : decide ((2048 : Int) < ((b.length : Nat) : Int)) = false := by simp; omega
  have hm : mayWr ⟨1, ep, at_, b⟩ = true := by
    unfold mayWr mayEp
    simp only [Bool.and_eq_true, decide_eq_true_eq]
    omega
  have hm' : ¬ mayWr ⟨1, ep, at_, b⟩ = false := by rw [hm]; decide
  by_cases m6 : ep < n.1
  · have d6 : decide (ep < n.1) = true := by simpa using m6
    have hw : wrR n ep at_ b = some 7 := by unfold wrR; rw [if_neg hm', if_pos m6]
    simp only [bW, Nat.reduceEqDiff, ft_40_1, kt_29, lt_3, lt_40, zt_40, gN, gZ, hl6, hcl, hs6, e4, d1, d2, d3, d4, d5, d6, retA_ret, Tryz.results11, resultsC_2, resultA_tmp, resultA_cell, res2_some]
    exact hid_mk ⟨by rw [hq _ hw], kk _⟩
  have d6 : decide (ep < n.1) = false := by simpa using m6
  obtain ⟨e, rfl⟩ : ∃ e : Nat, ep = e := ⟨ep.toNat, by omega⟩
  obtain ⟨a, rfl⟩ : ∃ a : Nat, at_ = a := ⟨at_.toNat, by omega⟩
  simp only [bW, Nat.reduceEqDiff, ft_40_1, kt_29, lt_3, lt_40, gN, hl6, e4, d1, d2, d3, d4, d5, d6]
  refine callI_pureG (fun f => f 1 = .int .i64 (e : Nat) ∧ f 2 = .int .i64 (a : Nat) ∧ f 3 = .imm b.length (bytesV b) ∧ f 4 = .ptr h.n 0 ∧ f 8 = .ptr (h.n + 1) 0 ∧ f 39 = .int .i64 (findI n.2 (a : Nat))) cal51 (pFindR room s [] torn n (by omega) (a : Nat) _) ⟨rfl, rfl, rfl, rfl, rfl, rfl⟩ ?_
  rintro f ⟨f1, f2, f3, f4, f8, f39⟩
  have we := wrap_natU (n := e) (by omega)
  have wa := wrap_natU (n := a) (by omega)
  have l1 := enc_le 1 (by omega)
  have l2 := enc_le e (by omega)
  have l3 := enc_le a (by omega)
  have hP : payN ⟨1, (e : Nat), (a : Nat), b⟩ = [] ++ enc 1 ++ enc e ++ enc a ++ encBytes b := rfl
  obtain ⟨s', n', e', hA⟩ := noteV_tup room s torn n (payN ⟨1, (e : Nat), (a : Nat), b⟩)
  have hpay := pay_ok ⟨1, (e : Nat), (a : Nat), b⟩ ⟨by simp only; omega, by simp only; omega, by simp only; omega, by simp only; omega⟩ hb
  have hnote : ∀ h', Pure Tryz.prog 53 [.agg (rnE room s [] torn n), .imm ([] ++ enc 1 ++ enc e ++ enc a ++ encBytes b).length (bytesV ([] ++ enc 1 ++ enc e ++ enc a ++ encBytes b))] h' (.tuple [.agg (rnE room s' [] torn n'), .int .i64 e']) := fun h' => by
    rw [← hA, ← hP]
    exact pNoteR room s torn n _ hroom hs hr hl hpay.2 (by omega) h'
  rcases findI_rfind n.2 (a : Nat) with ⟨h1, h2⟩ | ⟨i, hi, h2, h1⟩
  · rw [h2] at f39
    simp only [bW, Int.reduceNeg, f39]
    refine SWp.drawnS none_ [] (.q 0 (.q 1 (.q 2 (.q 3 (.q 4 (.q 5 (.q 6 (.q 7 (.q 8 (.q 9 (.q 10 (.q 11 (.q 12 (.q 13 (.q 14 (.q 15 (.q 16 (.q 17 (.q 18 (.q 19 (.q 20 (.q 21 (.q 22 (.q 23 .done)))))))))))))))))))))))) (by kernel_rfl) (by kernel_rfl) (by kernel_rfl) ?_
    simp only [bW, bS, Int.reduceLE, Int.reduceNeg, Nat.reduceEqDiff]
    have hw : wrR n (e : Nat) (a : Nat) b = none := by unfold wrR; rw [if_neg hm', if_neg m6, h1]
    refine callI_pureG (fun f => f 1 = .int .i64 (e : Nat) ∧ f 2 = .int .i64 (a : Nat) ∧ f 3 = .imm b.length (bytesV b) ∧ f 4 = .ptr h.n 0 ∧ f 8 = .ptr (h.n + 1) 0 ∧ f 78 = .imm ([] ++ enc 1).length (bytesV ([] ++ enc 1))) cal52 (rUint .snil [] 1 _ (Rd.snil _) (by simp) (by omega)) ⟨f1, f2, f3, f4, f8, rfl⟩ ?_
    clear f1 f2 f3 f4 f8 f39 f
    rintro f ⟨f1, f2, f3, f4, f8, f78⟩
    simp only [bW, Nat.reduceEqDiff, f1, f78, aConv_int it_3 it_117, we]
    refine callI_pureG (fun f => f 2 = .int .i64 (a : Nat) ∧ f 3 = .imm b.length (bytesV b) ∧ f 4 = .ptr h.n 0 ∧ f 8 = .ptr (h.n + 1) 0 ∧ f 81 = .imm ([] ++ enc 1 ++ enc e).length (bytesV ([] ++ enc 1 ++ enc e))) cal52 (rUint _ ([] ++ enc 1) e _ (Rd.imm _ _) (by simp; omega) (by omega)) ⟨f2, f3, f4, f8, rfl⟩ ?_
    clear f1 f2 f3 f4 f8 f78 f
    rintro f ⟨f2, f3, f4, f8, f81⟩
    simp only [bW, Nat.reduceEqDiff, f2, f81, aConv_int it_3 it_117, wa]
    refine callI_pureG (fun f => f 3 = .imm b.length (bytesV b) ∧ f 4 = .ptr h.n 0 ∧ f 8 = .ptr (h.n + 1) 0 ∧ f 84 = .imm ([] ++ enc 1 ++ enc e ++ enc a).length (bytesV ([] ++ enc 1 ++ enc e ++ enc a))) cal52 (rUint _ ([] ++ enc 1 ++ enc e) a _ (Rd.imm _ _) (by simp; omega) (by omega)) ⟨f3, f4, f8, rfl⟩ ?_
    clear f2 f3 f4 f8 f81 f
    rintro f ⟨f3, f4, f8, f84⟩
    simp only [bW, f84]
    refine SWp.drawnS none_ [7] (.q 0 (.q 1 (.q 2 (.c 3 (.c 4 (.q 5 (.q 6 (.a 7 (.q 8 .done))))))))) (by kernel_rfl) (by kernel_rfl) (by kernel_rfl) ?_
    simp only [bW, bS, Nat.reduceEqDiff, lt_40, gN, hl6, f3, f4]
    refine siI_c rfl rfl rfl (fun h' _ => rBytes _ _ ([] ++ enc 1 ++ enc e ++ enc a) b h' (Rd.imm _ _) (Rd.imm _ _) (by simp; omega)) ?_
    simp only [List.nil_append]
    refine siI_c rfl rfl rfl (fun h' _ => hnote h') ?_
    simp only [bW, bS, Nat.reduceEqDiff, lt_40, zt_40, gZ, hl6, hcl, hs6, f8, retA_ret, Tryz.results11, resultsC_2, resultA_tmp, resultA_cell, res2_some]
    exact hid_mk ⟨by unfold writeV; rw [hw]; exact hA.symm, kk _⟩
  · rw [h2] at f39
    have d13 : decide ((0 : Int) ≤ (i : Nat)) = true := by simp
    have hx := cel_ixR hi (kk := .i64)
    have lx1 : ∀ (x : Int) (r : List V), loadGo (some none) (some (V.int .i64 x :: r)) = some (.int .i64 x) := fun x r => rfl
    have hx1 : ∀ (c : Cel) (r : List V), (if 1 ≤ (celE c ++ r).length then some (V.at (List.drop 1 (celE c ++ r))) else none) = some (V.at (.int .i64 c.epoch :: .imm c.bytes.length (bytesV c.bytes) :: r)) := fun c r => if_pos (by simp [celE])
    have hx2 : ∀ (c : Cel) (r : List V), (if 2 ≤ (celE c ++ r).length then some (V.at (List.drop 2 (celE c ++ r))) else none) = some (V.at (.imm c.bytes.length (bytesV c.bytes) :: r)) := fun c r => if_pos (by simp [celE])
    have hstr := strB_eq (hcb n.2[i] (List.getElem_mem _)) hb
    simp only [bW, f39]
    by_cases b1 : n.2[i].epoch = (e : Nat)
    · have c1 : (n.2[i].epoch == ((e : Nat) : Int)) = true := by simpa using b1
      refine SWp.drawnS none_ [] (.q 0 (.q 1 (.q 2 (.q 3 (.q 4 (.q 5 (.q 6 (.q 7 (.q 8 (.q 9 (.q 10 (.q 11 (.q 12 (.q 13 (.q 14 (.q 15 (.q 16 (.q 17 (.q 18 (.q 19 (.q 20 (.q 21 (.q 22 (.q 23 .done)))))))))))))))))))))))) (by kernel_rfl) (by kernel_rfl) (by kernel_rfl) ?_
      simp only [bW, bS, Nat.reduceEqDiff, ft_40_2, ft_51_1, ft_51_2, lt_29, lt_3, lt_38, gN, e5, f1, f3, f4, d13, hx, hx1, hx2, lx1, c1, convB, hstr]
      by_cases b2 : n.2[i].bytes = b
      · have c2 : decide (n.2[i].bytes = b) = true := by simpa using b2
        have hw : wrR n (e : Nat) (a : Nat) b = some 0 := by
          unfold wrR; rw [if_neg hm', if_neg m6, h1]
          exact if_pos ⟨b1, b2⟩
        simp only [bW, Nat.reduceEqDiff, lt_40, zt_40, gN, gZ, hl6, hcl, hs6, f4, f8, c2, retA_ret, Tryz.results11, resultsC_2, resultA_tmp, resultA_cell, res2_some]
        exact hid_mk ⟨by rw [hq _ hw], kk _⟩
      · have c2 : decide (n.2[i].bytes = b) = false := by simpa using b2
        have c3 : decide (((e : Nat) : Int) ≤ n.2[i].epoch) = true := by simp; omega
        have hw : wrR n (e : Nat) (a : Nat) b = some 12 := by
          unfold wrR; rw [if_neg hm', if_neg m6, h1]
          simp only
          rw [if_neg (fun z => b2 z.2), if_pos (by omega)]
        simp only [bW, Nat.reduceEqDiff, ft_40_2, ft_51_1, lt_3, lt_38, lt_40, zt_40, gN, gZ, hl6, hcl, hs6, e5, f1, f4, f8, d13, hx, hx1, lx1, c2, c3, retA_ret, Tryz.results11, resultsC_2, resultA_tmp, resultA_cell, res2_some]
        exact hid_mk ⟨by rw [hq _ hw], kk _⟩
    · have c1 : (n.2[i].epoch == ((e : Nat) : Int)) = false := by simpa using b1
      refine SWp.drawnS none_ [] (.q 0 (.q 1 (.q 2 (.q 3 (.q 4 (.q 5 (.q 6 (.q 7 (.q 8 (.q 9 (.q 10 (.q 11 (.q 12 (.q 13 (.q 14 (.q 15 (.q 16 (.q 17 (.q 18 (.q 19 (.q 20 (.q 21 (.q 22 (.q 23 .done)))))))))))))))))))))))) (by kernel_rfl) (by kernel_rfl) (by kernel_rfl) ?_
      simp only [bW, bS, Nat.reduceEqDiff, ft_40_2, ft_51_1, lt_3, lt_38, gN, e5, f1, f4, d13, hx, hx1, lx1, c1]
      by_cases b3 : ((e : Nat) : Int) ≤ n.2[i].epoch
      · have c3 : decide (((e : Nat) : Int) ≤ n.2[i].epoch) = true := by simpa using b3
        have hw : wrR n (e : Nat) (a : Nat) b = some 12 := by
          unfold wrR; rw [if_neg hm', if_neg m6, h1]
          simp only
          rw [if_neg (fun z => b1 z.1), if_pos b3]
        simp only [bW, Nat.reduceEqDiff, lt_40, zt_40, gN, gZ, hl6, hcl, hs6, f4, f8, c3, retA_ret, Tryz.results11, resultsC_2, resultA_tmp, resultA_cell, res2_some]
        exact hid_mk ⟨by rw [hq _ hw], kk _⟩
      · have c3 : decide (((e : Nat) : Int) ≤ n.2[i].epoch) = false := by simpa using b3
        have hw : wrR n (e : Nat) (a : Nat) b = none := by
          unfold wrR; rw [if_neg hm', if_neg m6, h1]
          simp only
          rw [if_neg (fun z => b1 z.1), if_neg b3]
        simp only [bW, c3]
        refine callI_pureG (fun f => f 1 = .int .i64 (e : Nat) ∧ f 2 = .int .i64 (a : Nat) ∧ f 3 = .imm b.length (bytesV b) ∧ f 4 = .ptr h.n 0 ∧ f 8 = .ptr (h.n + 1) 0 ∧ f 78 = .imm ([] ++ enc 1).length (bytesV ([] ++ enc 1))) cal52 (rUint .snil [] 1 _ (Rd.snil _) (by simp) (by omega)) ⟨f1, f2, f3, f4, f8, rfl⟩ ?_
        clear f1 f2 f3 f4 f8 f39 f
        rintro f ⟨f1, f2, f3, f4, f8, f78⟩
        simp only [bW, Nat.reduceEqDiff, f1, f78, aConv_int it_3 it_117, we]
        refine callI_pureG (fun f => f 2 = .int .i64 (a : Nat) ∧ f 3 = .imm b.length (bytesV b) ∧ f 4 = .ptr h.n 0 ∧ f 8 = .ptr (h.n + 1) 0 ∧ f 81 = .imm ([] ++ enc 1 ++ enc e).length (bytesV ([] ++ enc 1 ++ enc e))) cal52 (rUint _ ([] ++ enc 1) e _ (Rd.imm _ _) (by simp; omega) (by omega)) ⟨f2, f3, f4, f8, rfl⟩ ?_
        clear f1 f2 f3 f4 f8 f78 f
        rintro f ⟨f2, f3, f4, f8, f81⟩
        simp only [bW, Nat.reduceEqDiff, f2, f81, aConv_int it_3 it_117, wa]
        refine callI_pureG (fun f => f 3 = .imm b.length (bytesV b) ∧ f 4 = .ptr h.n 0 ∧ f 8 = .ptr (h.n + 1) 0 ∧ f 84 = .imm ([] ++ enc 1 ++ enc e ++ enc a).length (bytesV ([] ++ enc 1 ++ enc e ++ enc a))) cal52 (rUint _ ([] ++ enc 1 ++ enc e) a _ (Rd.imm _ _) (by simp; omega) (by omega)) ⟨f3, f4, f8, rfl⟩ ?_
        clear f2 f3 f4 f8 f81 f
        rintro f ⟨f3, f4, f8, f84⟩
        simp only [bW, f84]
        refine SWp.drawnS none_ [7] (.q 0 (.q 1 (.q 2 (.c 3 (.c 4 (.q 5 (.q 6 (.a 7 (.q 8 .done))))))))) (by kernel_rfl) (by kernel_rfl) (by kernel_rfl) ?_
        simp only [bW, bS, Nat.reduceEqDiff, lt_40, gN, hl6, f3, f4]
        refine siI_c rfl rfl rfl (fun h' _ => rBytes _ _ ([] ++ enc 1 ++ enc e ++ enc a) b h' (Rd.imm _ _) (Rd.imm _ _) (by simp; omega)) ?_
        simp only [List.nil_append]
        refine siI_c rfl rfl rfl (fun h' _ => hnote h') ?_
        simp only [bW, bS, Nat.reduceEqDiff, lt_40, zt_40, gZ, hl6, hcl, hs6, f8, retA_ret, Tryz.results11, resultsC_2, resultA_tmp, resultA_cell, res2_some]
        exact hid_mk ⟨by unfold writeV; rw [hw]; exact hA.symm, kk _⟩
end Go.Proofs.YtilgpaibolollaaGreat.Pk
namespace Go.Proofs.YtilgpaibolollaaGreat.Pk
open Go Go.Proofs Go.Proofs.YtilgpaibolollaaGreat.Ab
set_option maxRecDepth 10000
set_option linter.unusedVariables false
set_option linter.unusedSimpArgs false
/-! ### Layer 8 of the reference: Seal -/
def selR (n : RNd) (ep : Int) : Option Int := if mayEp ep = false then some 2 else if ep ≤ n.1 then some 7 else none
theorem selR_eq {s : NSt} {n : RNd} (w : Like s n) (ep : Int) : selR n ep = selI s ep := by unfold selR selI; rw [w.ep]
def sealV (room : Int) (s : List Nat) (torn : Int) (n : RNd) (ep : Int) : V :=
  match selR n ep with
  | some e => .tuple [.agg (rnE room s [] torn n), .snil, .int .i64 e]
  | none => if putBad room s (payN (selA ep)) = 0 then .tuple [.agg (rnE room (s ++ frame (payN (selA ep))) [] torn (redoR n (payN (selA ep)))), .imm (redoR n (payN (selA ep))).2.length ((redoR n (payN (selA ep))).2.flatMap celE), .int .i64 0]
    else .tuple [.agg (rnE room s [] torn n), .snil, .int .i64 (putBad room s (payN (selA ep)))]
theorem sealV_clo (room : Int) (s : List Nat) (torn : Int) (n : RNd) (ep : Int) : Clo (sealV room s torn n ep) := by
  unfold sealV
  split
  · exact Clo.tuple (CloL.cons (Clo.agg (rnE_clo _ _ _ _ _)) (CloL.cons Clo.snil (CloL.cons (Clo.int _ _) CloL.nil)))
  · split
    · exact Clo.tuple (CloL.cons (Clo.agg (rnE_clo _ _ _ _ _)) (CloL.cons (Clo.imm (cels_clo _)) (CloL.cons (Clo.int _ _) CloL.nil)))
    · exact Clo.tuple (CloL.cons (Clo.agg (rnE_clo _ _ _ _ _)) (CloL.cons Clo.snil (CloL.cons (Clo.int _ _) CloL.nil)))
theorem pSealR (room : Int) (s : List Nat) (torn : Int) (n : RNd) (ep : Int) (hroom : room ≤ 1048576) (hs : s.length ≤ 2 ^ 29) (hr : Rise n.2) (hl : n.2.length ≤ 2 ^ 30) (h : AHeap) :
    Pure Tryz.prog 16 [.agg (rnE room s [] torn n), .int .i64 ep] h (sealV room s torn n ep) := by
  refine Pure.val (sealV_clo _ _ _ _ _) ?_
  refine SCalls.enterI (c := _) Tryz.func16 rfl (by kernel_rfl) (by simp) ?_
  have hcl : ∀ s n, (V.agg (rnE room s [] torn n)).cells = some (rnE room s [] torn n) := fun s n => rfl
  have hs6 : ∀ s n, setC (some 6) (AObj.cells [.int .i64 0, .snil, .snil, .int .i64 0, .int .i64 0, .snil] 40 none) 0 (rnE room s [] torn n) = some (.cells (rnE room s [] torn n) 40 none) := fun s n => rfl
  have hl6 : ∀ s n, loadGo (some (some 6)) (some (rnE room s [] torn n)) = some (.agg (rnE room s [] torn n)) := fun s n => rfl
  have e4 : dropC (AObj.cells (rnE room s [] torn n) 40 none) 4 = some [.int .i64 n.1, .imm n.2.length (n.2.flatMap celE)] := rfl
  have e5 : ∀ s n, dropC (AObj.cells (rnE room s [] torn n) 40 none) 5 = some [.imm n.2.length (n.2.flatMap celE)] := fun s n => rfl
  have hq : ∀ e : Int, selR n ep = some e → sealV room s torn n ep = .tuple [.agg (rnE room s [] torn n), .snil, .int .i64 e] := fun e he => by unfold sealV; rw [he]
  simp only [bW, Nat.reduceEqDiff, zc_40, hcl]
  have k0 : Keep h ((h.push (.cells (rnE room s [] torn n) 40 none)).push (.cells [.int .i64 0, .snil, .snil, .int .i64 0, .int .i64 0, .snil] 40 none)) none_ := (Keep.push _ _ _).trans (Keep.push _ _ _) (fun _ _ h => h)
  have gN : ((h.push (.cells (rnE room s [] torn n) 40 none)).push (.cells [.int .i64 0, .snil, .snil, .int .i64 0, .int .i64 0, .snil] 40 none)).get h.n = .cells (rnE room s [] torn n) 40 none := get_p2 _ _ _
  have gZ : ((h.push (.cells (rnE room s [] torn n) 40 none)).push (.cells [.int .i64 0, .snil, .snil, .int .i64 0, .int .i64 0, .snil] 40 none)).get (h.n + 1) = .cells [.int .i64 0, .snil, .snil, .int .i64 0, .int .i64 0, .snil] 40 none := get_push_new
  have n0 : ((h.push (.cells (rnE room s [] torn n) 40 none)).push (.cells [.int .i64 0, .snil, .snil, .int .i64 0, .int .i64 0, .snil] 40 none)).n = h.n + 2 := rfl
  have kk : ∀ o, Keep h (((h.push (.cells (rnE room s [] torn n) 40 none)).push (.cells [.int .i64 0, .snil, .snil, .int .i64 0, .int .i64 0, .snil] 40 none)).set (h.n + 1) o) none_ := fun o => k0.setNew (by omega) _
  generalize (h.push (.cells (rnE room s [] torn n) 40 none)).push (.cells [.int .i64 0, .snil, .snil, .int .i64 0, .int .i64 0, .snil] 40 none) = H at k0 gN gZ kk n0 ⊢
  by_cases m1 : ep < 0
  · have d1 : decide (ep < 0) = true := by simp; omega
    have hm : mayEp ep = false := by
      unfold mayEp
      simp only [Bool.and_eq_false_iff, decide_eq_false_iff_not]
      omega
    have hw : selR n ep = some 2 := by unfold selR; rw [if_pos hm]
    simp only [bW, Nat.reduceEqDiff, lt_40, zt_40, gN, gZ, hl6, hcl, hs6, d1, retA_ret, Tryz.results16, resultsC_3, resultA_tmp, resultA_cell, res3_some]
    exact hid_mk ⟨by rw [hq _ hw], kk _⟩
  have d1 : decide (ep < 0) = false := by simp; omega
  by_cases m2 : 1048576 < ep
  · have d2 : decide ((1048576 : Int) < ep) = true := by simp; omega
    have hm : mayEp ep = false := by
      unfold mayEp
      simp only [Bool.and_eq_false_iff, decide_eq_false_iff_not]
      omega
    have hw : selR n ep = some 2 := by unfold selR; rw [if_pos hm]
    simp only [bW, Nat.reduceEqDiff, lt_40, zt_40, gN, gZ, hl6, hcl, hs6, d1, d2, retA_ret, Tryz.results16, resultsC_3, resultA_tmp, resultA_cell, res3_some]
    exact hid_mk ⟨by rw [hq _ hw], kk _⟩
  have d2 : decide ((1048576 : Int) < ep) = false := by simp; omega
  have hm : mayEp ep = true := by
    unfold mayEp
    simp only [Bool.and_eq_true, decide_eq_true_eq]
    omega
  have hm' : ¬ mayEp ep = false := by rw [hm]; decide
  by_cases m6 : ep ≤ n.1
  · have d6 : decide (ep ≤ n.1) = true := by simpa using m6
    have hw : selR n ep = some 7 := by unfold selR; rw [if_neg hm', if_pos m6]
    simp only [bW, Nat.reduceEqDiff, ft_40_1, lt_3, lt_40, zt_40, gN, gZ, hl6, hcl, hs6, e4, d1, d2, d6, retA_ret, Tryz.results16, resultsC_3, resultA_tmp, resultA_cell, res3_some]
    exact hid_mk ⟨by rw [hq _ hw], kk _⟩
  have d6 : decide (ep ≤ n.1) = false := by simpa using m6
  have hw : selR n ep = none := by unfold selR; rw [if_neg hm', if_neg m6]
  obtain ⟨e, rfl⟩ : ∃ e : Nat, ep = e := ⟨ep.toNat, by omega⟩
  have we := wrap_natU (n := e) (by omega)
  have l1 := enc_le 2 (by omega)
  have l2 := enc_le e (by omega)
  have hP : payN (selA (e : Nat)) = [] ++ enc 2 ++ enc e := rfl
  have hpay := pay_ok (selA (e : Nat)) ⟨by simp only [selA]; omega, by simp only [selA]; omega, by simp only [selA]; omega, by simp [selA]⟩ (by simp [selA])
  have hnote : ∀ h', Pure Tryz.prog 53 [.agg (rnE room s [] torn n), .imm ([] ++ enc 2 ++ enc e).length (bytesV ([] ++ enc 2 ++ enc e))] h' (noteV room s torn n (payN (selA (e : Nat)))) := fun h' => by
    rw [← hP]
    exact pNoteR room s torn n _ hroom hs hr hl hpay.2 (by omega) h'
  have hU1 : ∀ h', Pure Tryz.prog 52 [.snil, .int .u64 2] h' (.imm ([] ++ enc 2).length (bytesV ([] ++ enc 2))) := fun h' => rUint .snil [] 2 h' (Rd.snil _) (by simp) (by omega)
  have hU2 : ∀ h', Pure Tryz.prog 52 [.imm ([] ++ enc 2).length (bytesV ([] ++ enc 2)), .int .u64 (e : Nat)] h' (.imm ([] ++ enc 2 ++ enc e).length (bytesV ([] ++ enc 2 ++ enc e))) := fun h' => rUint _ _ e h' (Rd.imm _ _) (by simp; omega) (by omega)
  unfold sealV
  rw [hw]
  unfold noteV at hnote
  generalize payN (selA (e : Nat)) = P at hnote ⊢
  by_cases hp : putBad room s P = 0
  · rw [if_pos hp] at hnote ⊢
    simp only [bW, Nat.reduceEqDiff, ft_40_1, lt_3, gN, e4, d1, d2, d6]
    refine SWp.drawnS none_ [9, 10] (.q 0 (.c 1 (.q 2 (.q 3 (.c 4 (.c 5 (.q 6 (.q 7 (.q 8 (.e 9 (.e 10 (.q 11 .done) .stop) .stop)))))))))) (by kernel_rfl) (by kernel_rfl) (by kernel_rfl) ?_
    simp only [bW, bS, Nat.reduceEqDiff, lt_40, gN, hl6]
    refine siI_c rfl rfl rfl (fun h' _ => hU1 h') ?_
    simp only [bW, bS, Nat.reduceEqDiff, aConv_int it_3 it_117, we]
    refine siI_c rfl rfl rfl (fun h' _ => hU2 h') ?_
    simp only [List.nil_append]
    refine siI_c rfl rfl rfl (fun h' _ => hnote h') ?_
    simp only [bW, bS, Nat.reduceEqDiff, zc_40, zt_40, hcl, hs6]
    have kX : Keep H (H.push (.cells (rnE room (s ++ frame P) [] torn (redoR n P)) 40 none)) none_ := Keep.push _ _ _
    have gX : (H.push (.cells (rnE room (s ++ frame P) [] torn (redoR n P)) 40 none)).get H.n = .cells (rnE room (s ++ frame P) [] torn (redoR n P)) 40 none := get_push_new
    have gZ2 := (kX.get (h.n + 1) (by omega) (fun h => h)).trans gZ
    have gN2 := (kX.get h.n (by omega) (fun h => h)).trans gN
    have kk2 : ∀ o, Keep h ((H.push (.cells (rnE room (s ++ frame P) [] torn (redoR n P)) 40 none)).set (h.n + 1) o) none_ := fun o => (k0.trans kX fun _ _ h => h).setNew (by omega) _
    generalize H.push (.cells (rnE room (s ++ frame P) [] torn (redoR n P)) 40 none) = H2 at kX gX gZ2 gN2 kk2 ⊢
    refine SWp.drawnS (fun x => x = h.n + 1) [3] (.q 0 (.q 1 (.q 2 (.e 3 (.q 4 (.q 5 .done)) .stop)))) (by kernel_rfl) (by kernel_rfl) (by kernel_rfl) ?_
    have hne : (H.n = h.n + 1) = False := eq_false (by omega)
    simp only [bW, bS, bM, Nat.reduceEqDiff, ft_40_2, lt_38, lt_40, zt_40, hne, hcl, hs6, hl6, e5, gX, gZ2, retA_ret, Tryz.results16, resultsC_3, resultA_tmp, resultA_cell, res3_some]
    exact ⟨Keep.set _ _ _, hid_mk ⟨rfl, kk2 _⟩⟩
  · rw [if_neg hp] at hnote ⊢
    have hpb : (putBad room s P != 0) = true := by simpa using hp
    simp only [bW, Nat.reduceEqDiff, ft_40_1, lt_3, gN, e4, d1, d2, d6]
    refine SWp.drawnS none_ [9, 10] (.q 0 (.c 1 (.q 2 (.q 3 (.c 4 (.c 5 (.q 6 (.q 7 (.q 8 (.e 9 (.e 10 (.q 11 .done) .stop) .stop)))))))))) (by kernel_rfl) (by kernel_rfl) (by kernel_rfl) ?_
    simp only [bW, bS, Nat.reduceEqDiff, lt_40, gN, hl6]
    refine siI_c rfl rfl rfl (fun h' _ => hU1 h') ?_
    simp only [bW, bS, Nat.reduceEqDiff, aConv_int it_3 it_117, we]
    refine siI_c rfl rfl rfl (fun h' _ => hU2 h') ?_
    simp only [List.nil_append]
    refine siI_c rfl rfl rfl (fun h' _ => hnote h') ?_
    simp only [bW, bS, Nat.reduceEqDiff, zc_40, zt_40, hcl, hs6]
    have kX : Keep H (H.push (.cells (rnE room s [] torn n) 40 none)) none_ := Keep.push _ _ _
    have gX : (H.push (.cells (rnE room s [] torn n) 40 none)).get H.n = .cells (rnE room s [] torn n) 40 none := get_push_new
    have gZ2 := (kX.get (h.n + 1) (by omega) (fun h => h)).trans gZ
    have gN2 := (kX.get h.n (by omega) (fun h => h)).trans gN
    have kk2 : ∀ o, Keep h ((H.push (.cells (rnE room s [] torn n) 40 none)).set (h.n + 1) o) none_ := fun o => (k0.trans kX fun _ _ h => h).setNew (by omega) _
    generalize H.push (.cells (rnE room s [] torn n) 40 none) = H2 at kX gX gZ2 gN2 kk2 ⊢
    simp only [bW, Nat.reduceEqDiff, lt_40, zt_40, hcl, hs6, hl6, gZ2, gN2, hpb, retA_ret, Tryz.results16, resultsC_3, resultA_tmp, resultA_cell, res3_some]
    exact hid_mk ⟨rfl, kk2 _⟩
end Go.Proofs.YtilgpaibolollaaGreat.Pk
namespace Go.Proofs.YtilgpaibolollaaGreat.Pk
open Go Go.Proofs Go.Proofs.YtilgpaibolollaaGreat.Ab
set_option maxRecDepth 10000
set_option linter.unusedVariables false
set_option linter.unusedSimpArgs false
/-! ### The law's same and cells; a seal's answer, told -/
theorem cel_ixA {l : List Cel} {k : Nat} (hk : k < l.length) {kk : IntKind} : aIndexAddr Tryz.prog 55 (.imm l.length (l.flatMap celE)) (.int kk (k : Int)) = some (.at (celE l[k] ++ (l.drop (k + 1)).flatMap celE)) := rows_ix celE_len hk ss_55
theorem cel_ok {s : NSt} (w : NOk s) {n : RNd} (k : Like s n) : ∀ c ∈ n.2, (0 ≤ c.at_ ∧ c.at_ < 4096) ∧ (∀ x ∈ c.bytes, x < 256) ∧ c.bytes.length ≤ 2048 := fun c hc => by
  have hg := (k.mem c.at_ c).2 ⟨hc, rfl⟩
  obtain ⟨e, he, h2⟩ := kget_mem hg
  obtain ⟨s1, s2, s3, s4, s5⟩ := w.sm e he
  obtain ⟨e1, e2, e3⟩ := e
  simp only [Prod.mk.injEq] at h2 s1 s2 s3 s4 s5
  obtain ⟨rfl, rfl⟩ := h2
  exact ⟨⟨s3, s4⟩, s2, s1⟩
end Go.Proofs.YtilgpaibolollaaGreat.Pk
namespace Go.Proofs.YtilgpaibolollaaGreat.Pk
open Go Go.Proofs Go.Proofs.YtilgpaibolollaaGreat.Ab Go.Sort
set_option maxRecDepth 10000
set_option linter.unusedVariables false
set_option linter.unusedSimpArgs false
theorem cel_cells (c : Cel) : (V.agg (celE c)).cells = some (celE c) := rfl
theorem cel_ix {l : List Cel} {k : Nat} (hk : k < l.length) {kk : IntKind} : aIndexAddr Tryz.prog 55 (.imm l.length (l.flatMap celE)) (.int kk (k : Int)) = some (.at (celE l[k] ++ (l.drop (k + 1)).flatMap celE)) := rows_ix celE_len hk ss_55
theorem cel_ld (c : Cel) (r : List V) : (if 3 ≤ (celE c ++ r).length then some (V.agg (List.take 3 (celE c ++ r))) else none) = some (.agg (celE c)) := by rw [if_pos (by rw [List.length_append, celE_len]; omega)]; rfl
theorem cel_ldc (c : Cel) : (if 3 ≤ (celE c).length then some (V.agg (List.take 3 (celE c))) else none) = some (.agg (celE c)) := rfl
theorem cel_ld0 (c : Cel) (r : List V) : loadGo (some none) (some (celE c ++ r)) = some (.int .i64 c.at_) := rfl
theorem cel_ld0' (c : Cel) : loadGo (some none) (some (celE c)) = some (.int .i64 c.at_) := rfl
theorem cel_fd1 (c : Cel) : (if 1 ≤ (celE c).length then some (List.drop 1 (celE c)) else none) = some [.int .i64 c.epoch, .imm c.bytes.length (bytesV c.bytes)] := rfl
theorem cel_fd2 (c : Cel) : (if 2 ≤ (celE c).length then some (List.drop 2 (celE c)) else none) = some [.imm c.bytes.length (bytesV c.bytes)] := rfl
theorem cel_store (c : Cel) : setC (some 3) (AObj.cells [V.int .i64 0, V.int .i64 0, V.snil] 48 none) 0 (celE c) = some (.cells (celE c) 48 none) := rfl
theorem lit1q (h : AHeap) (c : Cel) : aBuildSlice Tryz.prog 55 1 [(0, .agg (celE c))] h = some (.sl h.n 0 1 1, h.push (.cells (celE c) 48 none)) := by rw [buildSlice_go sl_55]; rfl
set_option maxRecDepth 10000 in
theorem pNewer (a b : Cel) (h : AHeap) : Pure Tryz.prog 101 [.agg (celE a), .agg (celE b)] h (.bool (decide (b.epoch < a.epoch))) := by
  refine Pure.val (Clo.bool _) ?_
  refine SCalls.enterI (c := _) Tryz.func101 rfl (by kernel_rfl) (by simp) ?_
  have cc := cel_cells
  have f1 := cel_fd1
  have l1 : ∀ c : Cel, List.drop 1 (celE c) = [.int .i64 c.epoch, .imm c.bytes.length (bytesV c.bytes)] := fun _ => rfl
  have cl := celE_len
  simp only [bW, Nat.reduceEqDiff, Nat.reduceLeDiff, ft_48_1, lt_3, cc, l1, cl, retA_ret, Tryz.results101, resultsA_1]
  exact hid_mk ⟨rfl, (Keep.push _ _ _).then_push _⟩
end Go.Proofs.YtilgpaibolollaaGreat.Pk
namespace Go.Proofs.YtilgpaibolollaaGreat.Pk
open Go Go.Proofs Go.Proofs.YtilgpaibolollaaGreat.Ab Go.Sort
set_option maxRecDepth 10000
set_option linter.unusedVariables false
set_option linter.unusedSimpArgs false
set_option maxRecDepth 10000 in
theorem qOwn (c : Cel) (hl : c.bytes.length ≤ 2 ^ 40) (h : AHeap) : Pure Tryz.prog 102 [.agg (celE c)] h (.agg (celE c)) := by
  refine Pure.of (Clo.agg (celE_clo _)) ?_
  refine SCalls.enterI (c := _) Tryz.func102 rfl (by kernel_rfl) (by simp) ?_
  have cc := cel_cells
  have f2 := cel_fd2
  have l2 : ∀ c : Cel, List.drop 2 (celE c) = [.imm c.bytes.length (bytesV c.bytes)] := fun _ => rfl
  have cl := celE_len
  simp only [bW, Nat.reduceEqDiff, Nat.reduceLeDiff, ft_48_2, lt_29, zc_48, cc, l2, cl]
  refine callI_pure cal64 (pCloneB c.bytes hl _) ?_
  have tk : List.take 3 (celE c) = celE c := rfl
  have s2 : setC (some 1) (AObj.cells (celE c) 48 none) 2 [.imm c.bytes.length (bytesV c.bytes)] = some (.cells (celE c) 48 none) := rfl
  have st := cel_store
  have ld := cel_ldc
  simp only [bW, Nat.reduceEqDiff, ft_48_2, lt_48, zt_29, zt_48, cc, cl, s2, st, tk, retA_ret, Tryz.results102, resultsC_1, resultA_cell]
  exact hid_mk ⟨_, Cast.refl _ _, (Keep.push _ _ _).then_push _⟩
/-- The first one of the highest epoch. -/
def bestF (t : Option Cel) (c : Cel) : Option Cel := match t with
  | none => some c
  | some t => if t.epoch < c.epoch then some c else some t
def bestOf (l : List Cel) : Option Cel := l.foldl bestF none
theorem bestOf_snoc (l : List Cel) (c : Cel) : bestOf (l ++ [c]) = bestF (bestOf l) c := by unfold bestOf; rw [List.foldl_append]; rfl
theorem bestF_some (t : Option Cel) (c : Cel) : ∃ d, bestF t c = some d := by
  cases t with
  | none => exact ⟨c, rfl⟩
  | some t => unfold bestF; simp only; split <;> exact ⟨_, rfl⟩
def cel0 : Cel := ⟨0, 0, []⟩
def topC (o : Option Cel) : List V := match o with
  | none => [.int .i64 0, .int .i64 0, .snil]
  | some c => celE c
theorem topC_cast (o : Option Cel) (b : Bool) (h : AHeap) : Cast (.tuple [.agg (topC o), .bool b]) h (.tuple [.agg (celE (o.getD cel0)), .bool b]) h := by
  cases o with
  | some c => exact Cast.refl _ _
  | none =>
    refine Cast.tuple (CastL.cons ?_ (CastL.refl _ _))
    exact castAgg (CastL.cons (Cast.refl _ _) (CastL.cons (Cast.refl _ _) (CastL.cons (Cast.snil0 h) (CastL.refl _ _))))
set_option maxHeartbeats 1000000 in
set_option maxRecDepth 10000 in
theorem pBest (l : List Cel) (hl : l.length ≤ 2 ^ 40) (h : AHeap) : Pure Tryz.prog 100 [.imm l.length (l.flatMap celE), .func (.func 101) [] []] h (.tuple [.agg (celE ((bestOf l).getD cel0)), .bool (decide (0 < l.length))]) := by
  refine Pure.of (Clo.tuple (CloL.cons (Clo.agg (celE_clo _)) (CloL.cons (Clo.bool _) CloL.nil))) ?_
  refine SCalls.enterI (c := _) Tryz.func100 rfl (by kernel_rfl) (by simp) ?_
  simp only [bW, Nat.reduceEqDiff, reduceCtorEq, kt_55, zc_48]
  have cc : ∀ o, (V.agg (topC o)).cells = some (topC o) := fun _ => rfl
  have cce := cel_cells
  have tl : ∀ o, (topC o).length = 3 := fun o => by cases o <;> rfl
  have ldt : ∀ o, (if 3 ≤ (topC o).length then some (V.agg (List.take 3 (topC o))) else none) = some (.agg (topC o)) := fun o => by cases o <;> rfl
  have st : ∀ o c, setC (some 3) (AObj.cells (topC o) 48 none) 0 (celE c) = some (.cells (celE c) 48 none) := fun o c => by cases o <;> rfl
  have st2 : ∀ o, setC (some 3) (AObj.cells [V.int .i64 0, V.int .i64 0, V.snil] 48 none) 0 (topC o) = some (.cells (topC o) 48 none) := fun o => by cases o <;> rfl
  have ste := cel_store
  have lde := cel_ldc
  refine SWp.loopG (α := Nat) (fun i f h' => f 0 = .imm l.length (l.flatMap celE) ∧ f 1 = .func (.func 101) [] [] ∧ f 4 = .ptr h.n 0 ∧ f 6 = .ptr (h.n + 1) 0 ∧ f 9 = .imm l.length (l.flatMap celE) ∧ f 10 = .int .i64 (l.length : Nat) ∧ f 11 = .int .i64 (i : Nat) ∧ i ≤ l.length ∧ Keep h h' none_ ∧ h.n + 1 < h'.n ∧
      h'.get h.n = .cells [.int .i64 0, .int .i64 0, .snil] 48 none ∧ h'.get (h.n + 1) = .cells (topC (bestOf (l.take i))) 48 none) (fun i => l.length - i) 0
    ⟨rfl, rfl, rfl, rfl, rfl, rfl, rfl, Nat.zero_le _, (Keep.push _ _ _).then_push _, Nat.lt_succ_self _, (get_push_lt (Nat.lt_succ_self _)).trans get_push_new, get_push_new⟩ ?_
  rintro i f h1 ⟨f0, f1, f4, f6, f9, f10, f11, hi, k1, n1, g4, g6⟩
  refine wpI_sound (by kernel_rfl) ?_
  by_cases hlt : i < l.length
  · have d1 : decide ((i : Int) < ((l.length : Nat) : Int)) = true := decide_eq_true (by omega)
    have hw : IntKind.i64.wrap ((i : Int) + 1) = ((i + 1 : Nat) : Int) := by rw [Go.IntWalk.i64_in _ (by omega)]; omega
    have x1 := cel_ix (kk := .i64) hlt
    have hb := bestOf_snoc (l.take i) l[i]
    rw [← List.take_succ_eq_append_getElem hlt] at hb
    have ld := cel_ld
    generalize hc : l[i] = c at x1 hb
    have kP := k1.then_push (.cells (celE c) 48 none)
    have gP : (h1.push (.cells (celE c) 48 none)).get h1.n = .cells (celE c) 48 none := get_push_new
    have g4P := (get_push_lt (o := .cells (celE c) 48 none) (show h.n < h1.n by omega)).trans g4
    have g6P := (get_push_lt (o := .cells (celE c) 48 none) n1).trans g6
    have nP : (h1.push (.cells (celE c) 48 none)).n = h1.n + 1 := rfl
    simp only [bW, Nat.reduceEqDiff, lt_48, zc_48, zt_48, f9, f10, f11, d1, x1, ld, cce, ste]
    generalize h1.push (.cells (celE c) 48 none) = hP at kP gP g4P g6P nP ⊢
    by_cases h0 : i = 0
    · subst h0
      have b0 : ((((0 : Nat) : Int)) == 0) = true := rfl
      rw [List.take_zero] at hb g6P
      have hb' : bestOf (l.take (0 + 1)) = some c := hb
      have kS : ∀ o, Keep h (hP.set (h.n + 1) o) none_ := fun o => kP.setNew (by omega) o
      simp only [bW, Nat.reduceEqDiff, lt_48, zt_48, f6, f11, b0, gP, g6P, lde, cce, st, hw]
      exact hid_mk ⟨1, ⟨f0, f1, f4, f6, f9, f10, rfl, hlt, kS _, by show h.n + 1 < hP.n; omega, (get_set_ne (by omega)).trans g4P, by rw [hb']; exact get_set_same⟩, by omega⟩
    · have b0 : ((i : Int) == 0) = false := by simp; omega
      obtain ⟨t, ht⟩ : ∃ t, bestOf (l.take i) = some t := by
        obtain ⟨j, rfl⟩ : ∃ j, i = j + 1 := ⟨i - 1, by omega⟩
        rw [List.take_succ_eq_append_getElem (by omega), bestOf_snoc]
        exact bestF_some _ _
      rw [ht] at g6P hb
      have tt : topC (some t) = celE t := rfl
      rw [tt] at g6P
      have st3 : ∀ t c, setC (some 3) (AObj.cells (celE t) 48 none) 0 (celE c) = some (.cells (celE c) 48 none) := fun t c => rfl
      simp only [bW, Nat.reduceEqDiff, lt_48, f1, f6, b0, gP, g6P, lde]
      refine callI_pure cal101 (pNewer c t hP) ?_
      by_cases hn : t.epoch < c.epoch
      · have d2 : decide (t.epoch < c.epoch) = true := decide_eq_true hn
        have hb' : bestOf (l.take (i + 1)) = some c := by rw [hb]; unfold bestF; simp [hn]
        have kS : ∀ o, Keep h (hP.set (h.n + 1) o) none_ := fun o => kP.setNew (by omega) o
        simp only [bW, Nat.reduceEqDiff, lt_48, zt_48, f6, f11, gP, g6P, lde, cce, st3, d2, hw]
        exact hid_mk ⟨i + 1, ⟨f0, f1, f4, f6, f9, f10, rfl, hlt, kS _, by show h.n + 1 < hP.n; omega, (get_set_ne (by omega)).trans g4P, by rw [hb']; exact get_set_same⟩, by omega⟩
      · have d2 : decide (t.epoch < c.epoch) = false := decide_eq_false hn
        have hb' : bestOf (l.take (i + 1)) = some t := by rw [hb]; unfold bestF; simp [hn]
        simp only [bW, Nat.reduceEqDiff, f11, d2, hw]
        exact hid_mk ⟨i + 1, ⟨f0, f1, f4, f6, f9, f10, rfl, hlt, kP, by omega, g4P, by rw [hb']; exact g6P⟩, by omega⟩
  · have d1 : decide ((i : Int) < ((l.length : Nat) : Int)) = false := decide_eq_false (by omega)
    rw [List.take_of_length_le (by omega)] at g6
    have kS : ∀ o, Keep h (h1.set h.n o) none_ := fun o => k1.setNew (by omega) o
    have e2 : decide ((0 : Int) < ((l.length : Nat) : Int)) = decide (0 < l.length) := by rw [Bool.eq_iff_iff]; simp
    simp only [bW, Nat.reduceEqDiff, reduceCtorEq, kt_55, lt_48, zt_48, f0, f4, f6, f10, f11, d1, g6, g4, ldt, cc, st2, e2, retA_ret, Tryz.results100, resultsC_2, resultA_tmp, resultA_cell, res2_some]
    exact hid_mk ⟨_, topC_cast _ _ _, kS _⟩
/-! ### The comparator -/
set_option maxRecDepth 10000 in
theorem byAt (a b : Cel) (h : AHeap) : Pure Tryz.prog 103 [.agg (celE a), .agg (celE b)] h (.int .i64 (cmpI a.at_ b.at_)) := by
  refine Pure.val (Clo.int _ _) ?_
  refine SCalls.enterI (c := _) Tryz.func103 rfl (by kernel_rfl) (by simp) ?_
  have cc := cel_cells
  have l0 := cel_ld0'
  have kk : Keep h ((h.push (.cells (celE a) 48 none)).push (.cells (celE b) 48 none)) none_ := (Keep.push _ _ _).then_push _
  simp only [bW, Nat.reduceEqDiff, ft_48_0, lt_3, cc, l0]
  refine callI_pure cal96 (cmp64 _ _ _) ?_
  simp only [bW, Nat.reduceEqDiff, retA_ret, Tryz.results103, resultsA_1]
  exact hid_mk ⟨rfl, kk⟩
set_option maxRecDepth 10000 in
theorem pNeed (n : Int) (h0 : 0 ≤ n) (h1 : n ≤ 2 ^ 60) (h : AHeap) : Pure Tryz.prog 120 [.int .i64 n] h (.int .i64 (n / 2 + 1)) := by
  refine Pure.val (Clo.int _ _) ?_
  refine SCalls.enterI (c := _) Tryz.func120 rfl (by kernel_rfl) (by simp) ?_
  have e1 : (if n < 0 then (0 : Int) else n) = n := if_neg (by omega)
  have e2 : n.tdiv 2 = n / 2 := Int.tdiv_eq_ediv_of_nonneg h0
  have e3 : IntKind.i64.wrap (n / 2) = n / 2 := Go.IntWalk.i64_in _ (by omega)
  have e4 : IntKind.i64.wrap (n / 2 + 1) = n / 2 + 1 := Go.IntWalk.i64_in _ (by omega)
  have e5 : max n 0 = n := by omega
  simp only [bW, Nat.reduceEqDiff, reduceCtorEq, aBin_quo (show (2 : Int) ≠ 0 by decide), e2, e3, e4, e5, retA_ret, Tryz.results120, resultsA_1]
  exact hid_mk ⟨rfl, Keep.refl _ _⟩
end Go.Proofs.YtilgpaibolollaaGreat.Pk
namespace Go.Proofs.YtilgpaibolollaaGreat.Pk
open Go Go.Proofs Go.Proofs.YtilgpaibolollaaGreat.Ab Go.Sort
set_option maxRecDepth 10000
set_option linter.unusedVariables false
set_option linter.unusedSimpArgs false
/-! ### Merge: cells by their slots -/
abbrev EntQ := List (Nat × Int × (V × List Cel))
def qE (m : EntQ) : List (Nat × V × V) := mapK (V.int .i64) Prod.fst m
def atOf (cs : List Cel) (k : Int) : List Cel := cs.filter fun c => c.at_ == k
theorem atOf_snoc (cs : List Cel) (c : Cel) (k : Int) : atOf (cs ++ [c]) k = if c.at_ = k then atOf cs k ++ [c] else atOf cs k := by
  unfold atOf
  rw [List.filter_append]
  by_cases h : c.at_ = k <;> simp [h]
theorem mpq : ∃ et, mapT Tryz.prog 175 = some (3, et, .int .i64) ∧ zeroT Tryz.prog et = some (.slice none 0 0) := by
  have h : (mapT Tryz.prog 175).map (fun q => (q.1, q.2.1)) = some (3, 55) := by kernel_rfl
  have hu : Tryz.prog.underlying 3 = some (.int .i64) := Tryz.underlying3
  cases hm : mapT Tryz.prog 175 with
  | none => rw [hm] at h; cases h
  | some q =>
    rw [hm] at h
    obtain ⟨a, b, d⟩ := q
    simp only [Option.map_some, Option.some.injEq, Prod.mk.injEq] at h
    obtain ⟨rfl, rfl⟩ := h
    have := (mapT_eq hm).2
    rw [hu] at this
    cases this
    exact ⟨_, rfl, by kernel_rfl⟩
/-- What a slot has so far. -/
def cur (m : EntQ) (k : Int) : V × List Cel := (kget m k).getD (.snil, [])
theorem lookQ {h : AHeap} {i cl : Nat} (m : EntQ) (k : Int) (hg : h.get i = .map (qE m) cl) : aLookup Tryz.prog 175 (.map i) (.int .i64 k) false h = some (cur m k).1 := by
  obtain ⟨et, hm, hz⟩ := mpq
  have := lookup_k (enc := (Prod.fst : V × List Cel → V)) (ok := false) (KeyEnc.ofInt hm) (k := k) hm hz hg
  rw [this]
  unfold cur
  cases kget m k <;> rfl
theorem updQ {h : AHeap} {i cl : Nat} (m : EntQ) (k : Int) (v : V) (l : List Cel) (hg : h.get i = .map (qE m) cl) : aUpdate Tryz.prog 175 (.map i) (.int .i64 k) v h = some (h.set i (.map (qE (kset cl m k (v, l))) (kclk cl m k))) := by
  obtain ⟨et, hm, hz⟩ := mpq
  exact update_k (enc := (Prod.fst : V × List Cel → V)) (KeyEnc.ofInt hm) (k := k) hm hg rfl
structure Bag (h0 h : AHeap) (mi : Nat) (cs : List Cel) (m : EntQ) (cl : Nat) : Prop where
  keep : Keep h0 h none_
  lo : h0.n ≤ mi
  lt : mi < h.n
  get : h.get mi = .map (qE m) cl
  st : Stamps (qE m) cl
  nd : KNodup m
  own : ∀ k a, kget m k = some a → Own h 48 3 a.1 (a.2.flatMap celE) ∧ (∀ i, idOf a.1 = some i → h0.n ≤ i ∧ i ≠ mi)
  apart : ∀ k k' a a' i, kget m k = some a → kget m k' = some a' → k ≠ k' → idOf a.1 = some i → idOf a'.1 ≠ some i
  has : ∀ k a, kget m k = some a → a.2 = atOf cs k ∧ a.2 ≠ []
  non : ∀ k, kget m k = none → atOf cs k = []
  len : m.length ≤ cs.length
theorem Bag.start {h0 h : AHeap} (k : Keep h0 h none_) : Bag h0 (h.push (.map [] 0)) h.n [] [] 0 :=
  ⟨k.then_push _, k.n, Nat.lt_succ_self _, get_push_new, Stamps.nil 0, KNodup.nil, fun _ _ h => (by cases h), fun _ _ _ _ _ h => (by cases h), fun _ _ h => (by cases h), fun _ _ => rfl, Nat.le_refl _⟩
theorem Bag.on {h0 h h' : AHeap} {mi cl : Nat} {cs : List Cel} {m : EntQ} (w : Bag h0 h mi cs m cl) (k : Keep h h' none_) : Bag h0 h' mi cs m cl :=
  ⟨w.keep.trans' k, w.lo, Nat.lt_of_lt_of_le w.lt k.n, (k.get mi w.lt (fun h => h)).trans w.get, w.st, w.nd, fun q a hq => ⟨(w.own q a hq).1.keepN k, (w.own q a hq).2⟩, w.apart, w.has, w.non, w.len⟩
theorem Bag.cur_own {h0 h : AHeap} {mi cl : Nat} {cs : List Cel} {m : EntQ} (w : Bag h0 h mi cs m cl) (k : Int) : Own h 48 3 (cur m k).1 ((cur m k).2.flatMap celE) ∧ (cur m k).2 = atOf cs k ∧ (∀ i, idOf (cur m k).1 = some i → h0.n ≤ i ∧ i ≠ mi) := by
  unfold cur
  cases hk : kget m k with
  | none => exact ⟨Own.snil _ _ _, (w.non k hk).symm, fun i hi => by cases hi⟩
  | some a => exact ⟨(w.own k a hk).1, (w.has k a hk).1, (w.own k a hk).2⟩
/-- A cell more: its slot's slice is appended to, and laid down again. -/
theorem Bag.add {h0 h h' : AHeap} {mi cl : Nat} {cs : List Cel} {m : EntQ} (w : Bag h0 h mi cs m cl) (c : Cel) {v : V} (kp : Keep h h' (isId (cur m c.at_).1)) (o : Own h' 48 3 v (((cur m c.at_).2 ++ [c]).flatMap celE)) (nw : NewOr h (cur m c.at_).1 v) :
    Bag h0 (h'.set mi (.map (qE (kset cl m c.at_ (v, (cur m c.at_).2 ++ [c]))) (kclk cl m c.at_))) mi (cs ++ [c]) (kset cl m c.at_ (v, (cur m c.at_).2 ++ [c])) (kclk cl m c.at_) := by
  obtain ⟨o0, e0, i0⟩ := w.cur_own c.at_
  have kS : ∀ o, Keep h' (h'.set mi o) (fun q => q = mi) := fun o => Keep.set _ _ _
  have hv : ∀ i, idOf v = some i → h0.n ≤ i ∧ i ≠ mi := fun i hi => by
    rcases nw with e | e
    · exact i0 i (e ▸ hi)
    · have := e i hi; have := w.keep.n; have := w.lt; omega
  have other : ∀ k a, kget m k = some a → k ≠ c.at_ → ∀ i, idOf a.1 = some i → idOf (cur m c.at_).1 ≠ some i := fun k a hk hne i hi => by
    unfold cur
    cases hc : kget m c.at_ with
    | none => simp [idOf]
    | some b => exact w.apart k c.at_ a b i hk hc hne hi
  have kall : Keep h0 (h'.set mi (.map (qE (kset cl m c.at_ (v, (cur m c.at_).2 ++ [c]))) (kclk cl m c.at_))) none_ :=
    (w.keep.trans kp fun q hq e => by have := (i0 q e).1; omega).trans (kS _) fun q hq e => by have := w.lo; omega
  refine ⟨kall, w.lo, Nat.lt_of_lt_of_le w.lt (Nat.le_trans kp.n (kS (.map (qE (kset cl m c.at_ (v, (cur m c.at_).2 ++ [c]))) (kclk cl m c.at_))).n), get_set_same, w.st.kset _ _, w.nd.set _ _ _, fun k a hk => ?_, fun k k' a a' i hk hk' hne hi => ?_, fun k a hk => ?_, fun k hk => ?_, ?_⟩
  · rw [kget_kset] at hk
    split at hk
    · cases hk
      exact ⟨o.keep (kS _) fun i hi e => (hv i hi).2 e, hv⟩
    · rename_i hne
      obtain ⟨o1, i1⟩ := w.own k a hk
      exact ⟨(o1.keep kp fun i hi e => other k a hk hne i hi e).keep (kS _) fun i hi e => (i1 i hi).2 e, i1⟩
  · rw [kget_kset] at hk hk'
    split at hk
    · rename_i e1
      split at hk'
      · rename_i e2; exact absurd (e1.trans e2.symm) hne
      · rename_i e2
        cases hk
        intro hi'
        rcases nw with e | e
        · exact other k' a' hk' e2 i hi' (e ▸ hi)
        · have := e i hi
          have := (w.own k' a' hk').1.lt i hi'
          omega
    · rename_i e1
      split at hk'
      · cases hk'
        intro hi'
        rcases nw with e | e
        · exact other k a hk e1 i hi (e ▸ hi')
        · have := e i hi'
          have := (w.own k a hk).1.lt i hi
          omega
      · exact w.apart k k' a a' i hk hk' hne hi
  · rw [kget_kset] at hk
    rw [atOf_snoc]
    split at hk
    · rename_i e1
      cases hk
      rw [if_pos e1.symm, e1, e0]
      exact ⟨rfl, by simp⟩
    · rename_i e1
      rw [if_neg fun e => e1 e.symm]
      exact w.has k a hk
  · rw [kget_kset] at hk
    rw [atOf_snoc]
    split at hk
    · cases hk
    · rename_i e1
      rw [if_neg fun e => e1 e.symm]
      exact w.non k hk
  · rw [klen_set, List.length_append]
    have := w.len
    split <;> simp <;> omega
/-! ### What is told -/
structure IsMerge (cs out : List Cel) : Prop where
  mem : ∀ c, c ∈ out ↔ bestOf (atOf cs c.at_) = some c
  up : out.Pairwise fun a b => a.at_ < b.at_
theorem bestF_mem {t : Option Cel} {c d : Cel} (h : bestF t c = some d) : d = c ∨ t = some d := by
  cases t with
  | none => left; exact (Option.some.inj h).symm
  | some t =>
    unfold bestF at h
    simp only at h
    split at h
    · left; exact (Option.some.inj h).symm
    · right; exact h
theorem bestOf_fold_mem : ∀ (l : List Cel) (t : Option Cel) {d : Cel}, l.foldl bestF t = some d → d ∈ l ∨ t = some d
  | [], t, d, h => .inr h
  | c :: l, t, d, h => by
    rcases bestOf_fold_mem l (bestF t c) h with h | h
    · exact .inl (List.mem_cons_of_mem _ h)
    · rcases bestF_mem h with h | h
      · exact .inl (by rw [h]; exact List.mem_cons_self)
      · exact .inr h
theorem bestOf_mem {l : List Cel} {d : Cel} (h : bestOf l = some d) : d ∈ l := by
  rcases bestOf_fold_mem l none h with h | h
  · exact h
  · cases h
theorem bestOf_ne {l : List Cel} (h : l ≠ []) : ∃ d, bestOf l = some d := by
  obtain ⟨q, c, rfl⟩ : ∃ q c, l = q ++ [c] := ⟨l.dropLast, l.getLast h, (List.dropLast_concat_getLast h).symm⟩
  rw [bestOf_snoc]
  exact bestF_some _ _
theorem atOf_mem {cs : List Cel} {k : Int} {c : Cel} : c ∈ atOf cs k ↔ c ∈ cs ∧ c.at_ = k := by unfold atOf; rw [List.mem_filter]; simp
theorem bag_told {cs : List Cel} {m vis : EntQ} (st : KNodup m) (has : ∀ k a, kget m k = some a → a.2 = atOf cs k ∧ a.2 ≠ []) (non : ∀ k, kget m k = none → atOf cs k = []) (hp : vis.Perm m) {out : List Cel}
    (ho : out.Perm (vis.map fun e => (bestOf e.2.2.2).getD cel0)) (hs : out.Pairwise fun a b => ¬ b.at_ < a.at_) : IsMerge cs out := by
  have key : ∀ e ∈ m, ∃ d, bestOf e.2.2.2 = some d ∧ d.at_ = e.2.1 ∧ e.2.2.2 = atOf cs e.2.1 := fun e he => by
    obtain ⟨h1, h2⟩ := has e.2.1 e.2.2 (kmem st he)
    obtain ⟨d, hd⟩ := bestOf_ne h2
    have := bestOf_mem hd
    rw [h1] at this
    exact ⟨d, hd, (atOf_mem.1 this).2, h1⟩
  have hmem : ∀ c, c ∈ out ↔ bestOf (atOf cs c.at_) = some c := fun c => by
    rw [ho.mem_iff, List.mem_map]
    constructor
    · rintro ⟨e, he, rfl⟩
      obtain ⟨d, hd, h1, h2⟩ := key e (hp.subset he)
      rw [hd]
      show bestOf (atOf cs d.at_) = some d
      rw [h1, ← h2, hd]
    · intro h
      cases hk : kget m c.at_ with
      | none =>
        rw [non c.at_ hk] at h
        cases h
      | some a =>
        obtain ⟨e, he, hee⟩ := kget_mem hk
        have e1 : e.2.1 = c.at_ := congrArg Prod.fst hee
        obtain ⟨d, hd, h1, h2⟩ := key e he
        refine ⟨e, hp.symm.subset he, ?_⟩
        rw [hd]
        rw [e1] at h2
        rw [h2, h] at hd
        exact (Option.some.inj hd).symm
  refine ⟨hmem, ?_⟩
  have nd : (out.map (·.at_)).Nodup := by
    rw [(ho.map (·.at_)).nodup_iff, List.map_map]
    have e1 : vis.map ((fun c : Cel => c.at_) ∘ fun e => (bestOf e.2.2.2).getD cel0) = vis.map (·.2.1) := by
      apply List.map_congr_left
      intro e he
      obtain ⟨d, hd, h1, _⟩ := key e (hp.subset he)
      show ((bestOf e.2.2.2).getD cel0).at_ = e.2.1
      rw [hd]; exact h1
    rw [e1]
    exact ((hp.map (fun e : Nat × Int × (V × List Cel) => e.2.1)).nodup_iff).2 st
  exact (hs.and (List.pairwise_map.1 nd)).imp fun {a b} ⟨h1, h2⟩ => by omega
end Go.Proofs.YtilgpaibolollaaGreat.Pk
