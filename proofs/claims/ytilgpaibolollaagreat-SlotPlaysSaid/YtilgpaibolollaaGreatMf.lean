/-
  What functions of the program do, told of abstract states. Conditions: as each theorem says.
-/
import Derived.Test.YtilgpaibolollaaGreatMe
import Derived.Test.YtilgpaibolollaaGreatAbD
import Derived.Test.YtilgpaibolollaaGreatMc
import Derived.Test.YtilgpaibolollaaGreatMa
namespace Go.Proofs.YtilgpaibolollaaGreat.Pk
open Go Go.Proofs Go.Proofs.YtilgpaibolollaaGreat.Ab
set_option maxRecDepth 10000
set_option linter.unusedVariables false
set_option linter.unusedSimpArgs false
/-! ### Layer 8 of the reference: Write -/
def wrR (n : RNd) (ep at_ : Int) (b : List Nat) : Option Int :=
  if mayWr ⟨1, ep, at_, b⟩ = false then some 2 else if ep < n.1 then some 7 else
  match rfind n.2 at_ with
  | some c => if c.epoch = ep ∧ c.bytes = b then some 0 else if ep ≤ c.epoch then some 12 else none
  | none => none
theorem wrR_eq {s : NSt} {n : RNd} (w : Like s n) (ep at_ : Int) (b : List Nat) : wrR n ep at_ b = wrI s ep at_ b := by
  unfold wrR wrI
  rw [w.ep, w.find]
  split
  · rfl
  split
  · rfl
  cases rfind n.2 at_ with
  | none => rfl
  | some c =>
    simp only
    by_cases h1 : c.epoch = ep ∧ c.bytes = b
    · rw [if_pos h1, if_pos (by omega), if_pos h1]
    · rw [if_neg h1]
      by_cases h2 : ep ≤ c.epoch
      · rw [if_pos h2, if_pos h2, if_neg h1]
      · rw [if_neg h2, if_neg h2]
theorem noteV_tup (room : Int) (s : List Nat) (torn : Int) (n : RNd) (b : List Nat) : ∃ (s' : List Nat) (n' : RNd) (e : Int), noteV room s torn n b = .tuple [.agg (rnE room s' [] torn n'), .int .i64 e] := by
  unfold noteV
  split
  · exact ⟨_, _, _, rfl⟩
  · exact ⟨_, _, _, rfl⟩
def writeV (room : Int) (s : List Nat) (torn : Int) (n : RNd) (ep at_ : Int) (b : List Nat) : V :=
  match wrR n ep at_ b with
  | some e => .tuple [.agg (rnE room s [] torn n), .int .i64 e]
  | none => noteV room s torn n (payN ⟨1, ep, at_, b⟩)
theorem writeV_clo (room : Int) (s : List Nat) (torn : Int) (n : RNd) (ep at_ : Int) (b : List Nat) : Clo (writeV room s torn n ep at_ b) := by
  unfold writeV
  split
  · exact Clo.tuple (CloL.cons (Clo.agg (rnE_clo _ _ _ _ _)) (CloL.cons (Clo.int _ _) CloL.nil))
  · exact noteV_clo _ _ _ _ _
theorem pWriteR (room : Int) (s : List Nat) (torn : Int) (n : RNd) (ep at_ : Int) (b : List Nat) (hroom : room ≤ 1048576) (hs : s.length ≤ 2 ^ 29) (hr : Rise n.2) (hl : n.2.length ≤ 2 ^ 30) (hcb : ∀ c ∈ n.2, ∀ x ∈ c.bytes, x < 256)
    (hb : ∀ x ∈ b, x < 256) (hbl : b.length ≤ 2 ^ 50) (h : AHeap) :
    Pure Tryz.prog 11 [.agg (rnE room s [] torn n), .int .i64 ep, .int .i64 at_, .imm b.length (bytesV b)] h (writeV room s torn n ep at_ b) := by
  refine Pure.val (writeV_clo _ _ _ _ _ _ _) ?_
  refine SCalls.enterI (c := _) Tryz.func11 rfl (by kernel_rfl) (by simp) ?_
  have hcl : ∀ s n, (V.agg (rnE room s [] torn n)).cells = some (rnE room s [] torn n) := fun s n => rfl
  have hs6 : ∀ s n, setC (some 6) (AObj.cells [.int .i64 0, .snil, .snil, .int .i64 0, .int .i64 0, .snil] 40 none) 0 (rnE room s [] torn n) = some (.cells (rnE room s [] torn n) 40 none) := fun s n => rfl
  have hl6 : ∀ s n, loadGo (some (some 6)) (some (rnE room s [] torn n)) = some (.agg (rnE room s [] torn n)) := fun s n => rfl
  have e4 : dropC (AObj.cells (rnE room s [] torn n) 40 none) 4 = some [.int .i64 n.1, .imm n.2.length (n.2.flatMap celE)] := rfl
  have e5 : dropC (AObj.cells (rnE room s [] torn n) 40 none) 5 = some [.imm n.2.length (n.2.flatMap celE)] := rfl
  have hq : ∀ e : Int, wrR n ep at_ b = some e → writeV room s torn n ep at_ b = .tuple [.agg (rnE room s [] torn n), .int .i64 e] := fun e he => by unfold writeV; rw [he]
  simp only [bW, Nat.reduceEqDiff, zc_40, hcl]
  have k0 : Keep h ((h.push (.cells (rnE room s [] torn n) 40 none)).push (.cells [.int .i64 0, .snil, .snil, .int .i64 0, .int .i64 0, .snil] 40 none)) none_ := (Keep.push _ _ _).trans (Keep.push _ _ _) (fun _ _ h => h)
  have gN : ((h.push (.cells (rnE room s [] torn n) 40 none)).push (.cells [.int .i64 0, .snil, .snil, .int .i64 0, .int .i64 0, .snil] 40 none)).get h.n = .cells (rnE room s [] torn n) 40 none := get_p2 _ _ _
  have gZ : ((h.push (.cells (rnE room s [] torn n) 40 none)).push (.cells [.int .i64 0, .snil, .snil, .int .i64 0, .int .i64 0, .snil] 40 none)).get (h.n + 1) = .cells [.int .i64 0, .snil, .snil, .int .i64 0, .int .i64 0, .snil] 40 none := get_push_new
  have kk : ∀ o, Keep h (((h.push (.cells (rnE room s [] torn n) 40 none)).push (.cells [.int .i64 0, .snil, .snil, .int .i64 0, .int .i64 0, .snil] 40 none)).set (h.n + 1) o) none_ := fun o => k0.setNew (by omega) _
  generalize (h.push (.cells (rnE room s [] torn n) 40 none)).push (.cells [.int .i64 0, .snil, .snil, .int .i64 0, .int .i64 0, .snil] 40 none) = H at k0 gN gZ kk ⊢
  by_cases m1 : at_ < 0
  · have d1 : decide (at_ < 0) = true := by simp; omega
    have hm : mayWr ⟨1, ep, at_, b⟩ = false := by
      unfold mayWr mayEp
      simp only [Bool.and_eq_false_iff, decide_eq_false_iff_not]
      omega
    have hw : wrR n ep at_ b = some 2 := by unfold wrR; rw [if_pos hm]
    simp only [bW, Nat.reduceEqDiff, lt_40, zt_40, gN, gZ, hl6, hcl, hs6, d1, retA_ret, Tryz.results11, resultsC_2, resultA_tmp, resultA_cell, res2_some]
    exact hid_mk ⟨by rw [hq _ hw], kk _⟩
  have d1 : decide (at_ < 0) = false := by simp; omega
  by_cases m2 : 4095 < at_
  · have d2 : decide ((4095 : Int) < at_) = true := by simp; omega
    have hm : mayWr ⟨1, ep, at_, b⟩ = false := by
      unfold mayWr mayEp
      simp only [Bool.and_eq_false_iff, decide_eq_false_iff_not]
      omega
    have hw : wrR n ep at_ b = some 2 := by unfold wrR; rw [if_pos hm]
    simp only [bW, Nat.reduceEqDiff, lt_40, zt_40, gN, gZ, hl6, hcl, hs6, d1, d2, retA_ret, Tryz.results11, resultsC_2, resultA_tmp, resultA_cell, res2_some]
    exact hid_mk ⟨by rw [hq _ hw], kk _⟩
  have d2 : decide ((4095 : Int) < at_) = false := by simp; omega
  by_cases m3 : ep < 0
  · have d3 : decide (ep < 0) = true := by simp; omega
    have hm : mayWr ⟨1, ep, at_, b⟩ = false := by
      unfold mayWr mayEp
      simp only [Bool.and_eq_false_iff, decide_eq_false_iff_not]
      omega
    have hw : wrR n ep at_ b = some 2 := by unfold wrR; rw [if_pos hm]
    simp only [bW, Nat.reduceEqDiff, lt_40, zt_40, gN, gZ, hl6, hcl, hs6, d1, d2, d3, retA_ret, Tryz.results11, resultsC_2, resultA_tmp, resultA_cell, res2_some]
    exact hid_mk ⟨by rw [hq _ hw], kk _⟩
  have d3 : decide (ep < 0) = false := by simp; omega
  by_cases m4 : 1048576 < ep
  · have d4 : decide ((1048576 : Int) < ep) = true := by simp; omega
    have hm : mayWr ⟨1, ep, at_, b⟩ = false := by
      unfold mayWr mayEp
      simp only [Bool.and_eq_false_iff, decide_eq_false_iff_not]
      omega
    have hw : wrR n ep at_ b = some 2 := by unfold wrR; rw [if_pos hm]
    simp only [bW, Nat.reduceEqDiff, lt_40, zt_40, gN, gZ, hl6, hcl, hs6, d1, d2, d3, d4, retA_ret, Tryz.results11, resultsC_2, resultA_tmp, resultA_cell, res2_some]
    exact hid_mk ⟨by rw [hq _ hw], kk _⟩
  have d4 : decide ((1048576 : Int) < ep) = false := by simp; omega
  by_cases m5 : 2048 < b.length
  · have d5 : decide ((2048 : Int) < ((b.length : Nat) : Int)) = true := by simp; omega
    have hm : mayWr ⟨1, ep, at_, b⟩ = false := by
      unfold mayWr mayEp
      simp only [Bool.and_eq_false_iff, decide_eq_false_iff_not]
      omega
    have hw : wrR n ep at_ b = some 2 := by unfold wrR; rw [if_pos hm]
    simp only [bW, Nat.reduceEqDiff, kt_29, lt_40, zt_40, gN, gZ, hl6, hcl, hs6, d1, d2, d3, d4, d5, retA_ret, Tryz.results11, resultsC_2, resultA_tmp, resultA_cell, res2_some]
    exact hid_mk ⟨by rw [hq _ hw], kk _⟩
  have d5 : decide ((2048 : Int) < ((b.length : Nat) : Int)) = false := by simp; omega
  have hm : mayWr ⟨1, ep, at_, b⟩ = true := by
    unfold mayWr mayEp
    simp only [Bool.and_eq_true, decide_eq_true_eq]
    omega
  have hm' : ¬ mayWr ⟨1, ep, at_, b⟩ = false := by rw [hm]; decide
  by_cases m6 : ep < n.1
  · have d6 : decide (ep < n.1) = true := by simpa using m6
    have hw : wrR n ep at_ b = some 7 := by unfold wrR; rw [if_neg hm', if_pos m6]
    simp only [bW, Nat.reduceEqDiff, ft_40_1, kt_29, lt_3, lt_40, zt_40, gN, gZ, hl6, hcl, hs6, e4, d1, d2, d3, d4, d5, d6, retA_ret, Tryz.results11, resultsC_2, resultA_tmp, resultA_cell, res2_some]
    exact hid_mk ⟨by rw [hq _ hw], kk _⟩
  have d6 : decide (ep < n.1) = false := by simpa using m6
  obtain ⟨e, rfl⟩ : ∃ e : Nat, ep = e := ⟨ep.toNat, by omega⟩
  obtain ⟨a, rfl⟩ : ∃ a : Nat, at_ = a := ⟨at_.toNat, by omega⟩
  simp only [bW, Nat.reduceEqDiff, ft_40_1, kt_29, lt_3, lt_40, gN, hl6, e4, d1, d2, d3, d4, d5, d6]
  refine callI_pureG (fun f => f 1 = .int .i64 (e : Nat) ∧ f 2 = .int .i64 (a : Nat) ∧ f 3 = .imm b.length (bytesV b) ∧ f 4 = .ptr h.n 0 ∧ f 8 = .ptr (h.n + 1) 0 ∧ f 39 = .int .i64 (findI n.2 (a : Nat))) cal51 (pFindR room s [] torn n (by omega) (a : Nat) _) ⟨rfl, rfl, rfl, rfl, rfl, rfl⟩ ?_
  rintro f ⟨f1, f2, f3, f4, f8, f39⟩
  have we := wrap_natU (n := e) (by omega)
  have wa := wrap_natU (n := a) (by omega)
  have l1 := enc_le 1 (by omega)
  have l2 := enc_le e (by omega)
  have l3 := enc_le a (by omega)
  have hP : payN ⟨1, (e : Nat), (a : Nat), b⟩ = [] ++ enc 1 ++ enc e ++ enc a ++ encBytes b := rfl
  obtain ⟨s', n', e', hA⟩ := noteV_tup room s torn n (payN ⟨1, (e : Nat), (a : Nat), b⟩)
  have hpay := pay_ok ⟨1, (e : Nat), (a : Nat), b⟩ ⟨by simp only; omega, by simp only; omega, by simp only; omega, by simp only; omega⟩ hb
  have hnote : ∀ h', Pure Tryz.prog 53 [.agg (rnE room s [] torn n), .imm ([] ++ enc 1 ++ enc e ++ enc a ++ encBytes b).length (bytesV ([] ++ enc 1 ++ enc e ++ enc a ++ encBytes b))] h' (.tuple [.agg (rnE room s' [] torn n'), .int .i64 e']) := fun h' => by
    rw [← hA, ← hP]
    exact pNoteR room s torn n _ hroom hs hr hl hpay.2 (by omega) h'
  rcases findI_rfind n.2 (a : Nat) with ⟨h1, h2⟩ | ⟨i, hi, h2, h1⟩
  · rw [h2] at f39
    simp only [bW, Int.reduceNeg, f39]
    refine SWp.drawnS none_ [] (.q 0 (.q 1 (.q 2 (.q 3 (.q 4 (.q 5 (.q 6 (.q 7 (.q 8 (.q 9 (.q 10 (.q 11 (.q 12 (.q 13 (.q 14 (.q 15 (.q 16 (.q 17 (.q 18 (.q 19 (.q 20 (.q 21 (.q 22 (.q 23 .done)))))))))))))))))))))))) (by kernel_rfl) (by kernel_rfl) (by kernel_rfl) ?_
    simp only [bW, bS, Int.reduceLE, Int.reduceNeg, Nat.reduceEqDiff]
    have hw : wrR n (e : Nat) (a : Nat) b = none := by unfold wrR; rw [if_neg hm', if_neg m6, h1]
    refine callI_pureG (fun f => f 1 = .int .i64 (e : Nat) ∧ f 2 = .int .i64 (a : Nat) ∧ f 3 = .imm b.length (bytesV b) ∧ f 4 = .ptr h.n 0 ∧ f 8 = .ptr (h.n + 1) 0 ∧ f 78 = .imm ([] ++ enc 1).length (bytesV ([] ++ enc 1))) cal52 (rUint .snil [] 1 _ (Rd.snil _) (by simp) (by omega)) ⟨f1, f2, f3, f4, f8, rfl⟩ ?_
    clear f1 f2 f3 f4 f8 f39 f
    rintro f ⟨f1, f2, f3, f4, f8, f78⟩
    simp only [bW, Nat.reduceEqDiff, f1, f78, aConv_int it_3 it_117, we]
    refine callI_pureG (fun f => f 2 = .int .i64 (a : Nat) ∧ f 3 = .imm b.length (bytesV b) ∧ f 4 = .ptr h.n 0 ∧ f 8 = .ptr (h.n + 1) 0 ∧ f 81 = .imm ([] ++ enc 1 ++ enc e).length (bytesV ([] ++ enc 1 ++ enc e))) cal52 (rUint _ ([] ++ enc 1) e _ (Rd.imm _ _) (by simp; omega) (by omega)) ⟨f2, f3, f4, f8, rfl⟩ ?_
    clear f1 f2 f3 f4 f8 f78 f
    rintro f ⟨f2, f3, f4, f8, f81⟩
    simp only [bW, Nat.reduceEqDiff, f2, f81, aConv_int it_3 it_117, wa]
    refine callI_pureG (fun f => f 3 = .imm b.length (bytesV b) ∧ f 4 = .ptr h.n 0 ∧ f 8 = .ptr (h.n + 1) 0 ∧ f 84 = .imm ([] ++ enc 1 ++ enc e ++ enc a).length (bytesV ([] ++ enc 1 ++ enc e ++ enc a))) cal52 (rUint _ ([] ++ enc 1 ++ enc e) a _ (Rd.imm _ _) (by simp; omega) (by omega)) ⟨f3, f4, f8, rfl⟩ ?_
    clear f2 f3 f4 f8 f81 f
    rintro f ⟨f3, f4, f8, f84⟩
    simp only [bW, f84]
    refine SWp.drawnS none_ [7] (.q 0 (.q 1 (.q 2 (.c 3 (.c 4 (.q 5 (.q 6 (.a 7 (.q 8 .done))))))))) (by kernel_rfl) (by kernel_rfl) (by kernel_rfl) ?_
    simp only [bW, bS, Nat.reduceEqDiff, lt_40, gN, hl6, f3, f4]
    refine siI_c rfl rfl rfl (fun h' _ => rBytes _ _ ([] ++ enc 1 ++ enc e ++ enc a) b h' (Rd.imm _ _) (Rd.imm _ _) (by simp; omega)) ?_
    simp only [List.nil_append]
    refine siI_c rfl rfl rfl (fun h' _ => hnote h') ?_
    simp only [bW, bS, Nat.reduceEqDiff, lt_40, zt_40, gZ, hl6, hcl, hs6, f8, retA_ret, Tryz.results11, resultsC_2, resultA_tmp, resultA_cell, res2_some]
    exact hid_mk ⟨by unfold writeV; rw [hw]; exact hA.symm, kk _⟩
  · rw [h2] at f39
    have d13 : decide ((0 : Int) ≤ (i : Nat)) = true := by simp
    have hx := cel_ixR hi (kk := .i64)
    have lx1 : ∀ (x : Int) (r : List V), loadGo (some none) (some (V.int .i64 x :: r)) = some (.int .i64 x) := fun x r => rfl
    have hx1 : ∀ (c : Cel) (r : List V), (if 1 ≤ (celE c ++ r).length then some (V.at (List.drop 1 (celE c ++ r))) else none) = some (V.at (.int .i64 c.epoch :: .imm c.bytes.length (bytesV c.bytes) :: r)) := fun c r => if_pos (by simp [celE])
    have hx2 : ∀ (c : Cel) (r : List V), (if 2 ≤ (celE c ++ r).length then some (V.at (List.drop 2 (celE c ++ r))) else none) = some (V.at (.imm c.bytes.length (bytesV c.bytes) :: r)) := fun c r => if_pos (by simp [celE])
    have hstr := strB_eq (hcb n.2[i] (List.getElem_mem _)) hb
    simp only [bW, f39]
    by_cases b1 : n.2[i].epoch = (e : Nat)
    · have c1 : (n.2[i].epoch == ((e : Nat) : Int)) = true := by simpa using b1
      refine SWp.drawnS none_ [] (.q 0 (.q 1 (.q 2 (.q 3 (.q 4 (.q 5 (.q 6 (.q 7 (.q 8 (.q 9 (.q 10 (.q 11 (.q 12 (.q 13 (.q 14 (.q 15 (.q 16 (.q 17 (.q 18 (.q 19 (.q 20 (.q 21 (.q 22 (.q 23 .done)))))))))))))))))))))))) (by kernel_rfl) (by kernel_rfl) (by kernel_rfl) ?_
      simp only [bW, bS, Nat.reduceEqDiff, ft_40_2, ft_51_1, ft_51_2, lt_29, lt_3, lt_38, gN, e5, f1, f3, f4, d13, hx, hx1, hx2, lx1, c1, convB, hstr]
      by_cases b2 : n.2[i].bytes = b
      · have c2 : decide (n.2[i].bytes = b) = true := by simpa using b2
        have hw : wrR n (e : Nat) (a : Nat) b = some 0 := by
          unfold wrR; rw [if_neg hm', if_neg m6, h1]
          exact if_pos ⟨b1, b2⟩
        simp only [bW, Nat.reduceEqDiff, lt_40, zt_40, gN, gZ, hl6, hcl, hs6, f4, f8, c2, retA_ret, Tryz.results11, resultsC_2, resultA_tmp, resultA_cell, res2_some]
        exact hid_mk ⟨by rw [hq _ hw], kk _⟩
      · have c2 : decide (n.2[i].bytes = b) = false := by simpa using b2
        have c3 : decide (((e : Nat) : Int) ≤ n.2[i].epoch) = true := by simp; omega
        have hw : wrR n (e : Nat) (a : Nat) b = some 12 := by
          unfold wrR; rw [if_neg hm', if_neg m6, h1]
          simp only
          rw [if_neg (fun z => b2 z.2), if_pos (by omega)]
        simp only [bW, Nat.reduceEqDiff, ft_40_2, ft_51_1, lt_3, lt_38, lt_40, zt_40, gN, gZ, hl6, hcl, hs6, e5, f1, f4, f8, d13, hx, hx1, lx1, c2, c3, retA_ret, Tryz.results11, resultsC_2, resultA_tmp, resultA_cell, res2_some]
        exact hid_mk ⟨by rw [hq _ hw], kk _⟩
    · have c1 : (n.2[i].epoch == ((e : Nat) : Int)) = false := by simpa using b1
      refine SWp.drawnS none_ [] (.q 0 (.q 1 (.q 2 (.q 3 (.q 4 (.q 5 (.q 6 (.q 7 (.q 8 (.q 9 (.q 10 (.q 11 (.q 12 (.q 13 (.q 14 (.q 15 (.q 16 (.q 17 (.q 18 (.q 19 (.q 20 (.q 21 (.q 22 (.q 23 .done)))))))))))))))))))))))) (by kernel_rfl) (by kernel_rfl) (by kernel_rfl) ?_
      simp only [bW, bS, Nat.reduceEqDiff, ft_40_2, ft_51_1, lt_3, lt_38, gN, e5, f1, f4, d13, hx, hx1, lx1, c1]
      by_cases b3 : ((e : Nat) : Int) ≤ n.2[i].epoch
      · have c3 : decide (((e : Nat) : Int) ≤ n.2[i].epoch) = true := by simpa using b3
        have hw : wrR n (e : Nat) (a : Nat) b = some 12 := by
          unfold wrR; rw [if_neg hm', if_neg m6, h1]
          simp only
          rw [if_neg (fun z => b1 z.1), if_pos b3]
        simp only [bW, Nat.reduceEqDiff, lt_40, zt_40, gN, gZ, hl6, hcl, hs6, f4, f8, c3, retA_ret, Tryz.results11, resultsC_2, resultA_tmp, resultA_cell, res2_some]
        exact hid_mk ⟨by rw [hq _ hw], kk _⟩
      · have c3 : decide (((e : Nat) : Int) ≤ n.2[i].epoch) = false := by simpa using b3
        have hw : wrR n (e : Nat) (a : Nat) b = none := by
          unfold wrR; rw [if_neg hm', if_neg m6, h1]
          simp only
          rw [if_neg (fun z => b1 z.1), if_neg b3]
        simp only [bW, c3]
        refine callI_pureG (fun f => f 1 = .int .i64 (e : Nat) ∧ f 2 = .int .i64 (a : Nat) ∧ f 3 = .imm b.length (bytesV b) ∧ f 4 = .ptr h.n 0 ∧ f 8 = .ptr (h.n + 1) 0 ∧ f 78 = .imm ([] ++ enc 1).length (bytesV ([] ++ enc 1))) cal52 (rUint .snil [] 1 _ (Rd.snil _) (by simp) (by omega)) ⟨f1, f2, f3, f4, f8, rfl⟩ ?_
        clear f1 f2 f3 f4 f8 f39 f
        rintro f ⟨f1, f2, f3, f4, f8, f78⟩
        simp only [bW, Nat.reduceEqDiff, f1, f78, aConv_int it_3 it_117, we]
        refine callI_pureG (fun f => f 2 = .int .i64 (a : Nat) ∧ f 3 = .imm b.length (bytesV b) ∧ f 4 = .ptr h.n 0 ∧ f 8 = .ptr (h.n + 1) 0 ∧ f 81 = .imm ([] ++ enc 1 ++ enc e).length (bytesV ([] ++ enc 1 ++ enc e))) cal52 (rUint _ ([] ++ enc 1) e _ (Rd.imm _ _) (by simp; omega) (by omega)) ⟨f2, f3, f4, f8, rfl⟩ ?_
        clear f1 f2 f3 f4 f8 f78 f
        rintro f ⟨f2, f3, f4, f8, f81⟩
        simp only [bW, Nat.reduceEqDiff, f2, f81, aConv_int it_3 it_117, wa]
        refine callI_pureG (fun f => f 3 = .imm b.length (bytesV b) ∧ f 4 = .ptr h.n 0 ∧ f 8 = .ptr (h.n + 1) 0 ∧ f 84 = .imm ([] ++ enc 1 ++ enc e ++ enc a).length (bytesV ([] ++ enc 1 ++ enc e ++ enc a))) cal52 (rUint _ ([] ++ enc 1 ++ enc e) a _ (Rd.imm _ _) (by simp; omega) (by omega)) ⟨f3, f4, f8, rfl⟩ ?_
        clear f2 f3 f4 f8 f81 f
        rintro f ⟨f3, f4, f8, f84⟩
        simp only [bW, f84]
        refine SWp.drawnS none_ [7] (.q 0 (.q 1 (.q 2 (.c 3 (.c 4 (.q 5 (.q 6 (.a 7 (.q 8 .done))))))))) (by kernel_rfl) (by kernel_rfl) (by kernel_rfl) ?_
        simp only [bW, bS, Nat.reduceEqDiff, lt_40, gN, hl6, f3, f4]
        refine siI_c rfl rfl rfl (fun h' _ => rBytes _ _ ([] ++ enc 1 ++ enc e ++ enc a) b h' (Rd.imm _ _) (Rd.imm _ _) (by simp; omega)) ?_
        simp only [List.nil_append]
        refine siI_c rfl rfl rfl (fun h' _ => hnote h') ?_
        simp only [bW, bS, Nat.reduceEqDiff, lt_40, zt_40, gZ, hl6, hcl, hs6, f8, retA_ret, Tryz.results11, resultsC_2, resultA_tmp, resultA_cell, res2_some]
        exact hid_mk ⟨by unfold writeV; rw [hw]; exact hA.symm, kk _⟩
end Go.Proofs.YtilgpaibolollaaGreat.Pk
namespace Go.Proofs.YtilgpaibolollaaGreat.Pk
open Go Go.Proofs Go.Proofs.YtilgpaibolollaaGreat.Ab
set_option maxRecDepth 10000
set_option linter.unusedVariables false
set_option linter.unusedSimpArgs false
/-! ### Layer 8 of the reference: Seal -/
def selR (n : RNd) (ep : Int) : Option Int := if mayEp ep = false then some 2 else if ep ≤ n.1 then some 7 else none
theorem selR_eq {s : NSt} {n : RNd} (w : Like s n) (ep : Int) : selR n ep = selI s ep := by unfold selR selI; rw [w.ep]
def sealV (room : Int) (s : List Nat) (torn : Int) (n : RNd) (ep : Int) : V :=
  match selR n ep with
  | some e => .tuple [.agg (rnE room s [] torn n), .snil, .int .i64 e]
  | none => if putBad room s (payN (selA ep)) = 0 then .tuple [.agg (rnE room (s ++ frame (payN (selA ep))) [] torn (redoR n (payN (selA ep)))), .imm (redoR n (payN (selA ep))).2.length ((redoR n (payN (selA ep))).2.flatMap celE), .int .i64 0]
    else .tuple [.agg (rnE room s [] torn n), .snil, .int .i64 (putBad room s (payN (selA ep)))]
theorem sealV_clo (room : Int) (s : List Nat) (torn : Int) (n : RNd) (ep : Int) : Clo (sealV room s torn n ep) := by
  unfold sealV
  split
  · exact Clo.tuple (CloL.cons (Clo.agg (rnE_clo _ _ _ _ _)) (CloL.cons Clo.snil (CloL.cons (Clo.int _ _) CloL.nil)))
  · split
    · exact Clo.tuple (CloL.cons (Clo.agg (rnE_clo _ _ _ _ _)) (CloL.cons (Clo.imm (cels_clo _)) (CloL.cons (Clo.int _ _) CloL.nil)))
    · exact Clo.tuple (CloL.cons (Clo.agg (rnE_clo _ _ _ _ _)) (CloL.cons Clo.snil (CloL.cons (Clo.int _ _) CloL.nil)))
theorem pSealR (room : Int) (s : List Nat) (torn : Int) (n : RNd) (ep : Int) (hroom : room ≤ 1048576) (hs : s.length ≤ 2 ^ 29) (hr : Rise n.2) (hl : n.2.length ≤ 2 ^ 30) (h : AHeap) :
    Pure Tryz.prog 16 [.agg (rnE room s [] torn n), .int .i64 ep] h (sealV room s torn n ep) := by
  refine Pure.val (sealV_clo _ _ _ _ _) ?_
  refine SCalls.enterI (c := _) Tryz.func16 rfl (by kernel_rfl) (by simp) ?_
  have hcl : ∀ s n, (V.agg (rnE room s [] torn n)).cells = some (rnE room s [] torn n) := fun s n => rfl
  have hs6 : ∀ s n, setC (some 6) (AObj.cells [.int .i64 0, .snil, .snil, .int .i64 0, .int .i64 0, .snil] 40 none) 0 (rnE room s [] torn n) = some (.cells (rnE room s [] torn n) 40 none) := fun s n => rfl
  have hl6 : ∀ s n, loadGo (some (some 6)) (some (rnE room s [] torn n)) = some (.agg (rnE room s [] torn n)) := fun s n => rfl
  have e4 : dropC (AObj.cells (rnE room s [] torn n) 40 none) 4 = some [.int .i64 n.1, .imm n.2.length (n.2.flatMap celE)] := rfl
  have e5 : ∀ s n, dropC (AObj.cells (rnE room s [] torn n) 40 none) 5 = some [.imm n.2.length (n.2.flatMap celE)] := fun s n => rfl
  have hq : ∀ e : Int, selR n ep = some e → sealV room s torn n ep = .tuple [.agg (rnE room s [] torn n), .snil, .int .i64 e] := fun e he => by unfold sealV; rw [he]
  simp only [bW, Nat.reduceEqDiff, zc_40, hcl]
  have k0 : Keep h ((h.push (.cells (rnE room s [] torn n) 40 none)).push (.cells [.int .i64 0, .snil, .snil, .int .i64 0, .int .i64 0, .snil] 40 none)) none_ := (Keep.push _ _ _).trans (Keep.push _ _ _) (fun _ _ h => h)
  have gN : ((h.push (.cells (rnE room s [] torn n) 40 none)).push (.cells [.int .i64 0, .snil, .snil, .int .i64 0, .int .i64 0, .snil] 40 none)).get h.n = .cells (rnE room s [] torn n) 40 none := get_p2 _ _ _
  have gZ : ((h.push (.cells (rnE room s [] torn n) 40 none)).push (.cells [.int .i64 0, .snil, .snil, .int .i64 0, .int .i64 0, .snil] 40 none)).get (h.n + 1) = .cells [.int .i64 0, .snil, .snil, .int .i64 0, .int .i64 0, .snil] 40 none := get_push_new
  have n0 : ((h.push (.cells (rnE room s [] torn n) 40 none)).push (.cells [.int .i64 0, .snil, .snil, .int .i64 0, .int .i64 0, .snil] 40 none)).n = h.n + 2 := rfl
  have kk : ∀ o, Keep h (((h.push (.cells (rnE room s [] torn n) 40 none)).push (.cells [.int .i64 0, .snil, .snil, .int .i64 0, .int .i64 0, .snil] 40 none)).set (h.n + 1) o) none_ := fun o => k0.setNew (by omega) _
  generalize (h.push (.cells (rnE room s [] torn n) 40 none)).push (.cells [.int .i64 0, .snil, .snil, .int .i64 0, .int .i64 0, .snil] 40 none) = H at k0 gN gZ kk n0 ⊢
  by_cases m1 : ep < 0
  · have d1 : decide (ep < 0) = true := by simp; omega
    have hm : mayEp ep = false := by
      unfold mayEp
      simp only [Bool.and_eq_false_iff, decide_eq_false_iff_not]
      omega
    have hw : selR n ep = some 2 := by unfold selR; rw [if_pos hm]
    simp only [bW, Nat.reduceEqDiff, lt_40, zt_40, gN, gZ, hl6, hcl, hs6, d1, retA_ret, Tryz.results16, resultsC_3, resultA_tmp, resultA_cell, res3_some]
    exact hid_mk ⟨by rw [hq _ hw], kk _⟩
  have d1 : decide (ep < 0) = false := by simp; omega
  by_cases m2 : 1048576 < ep
  · have d2 : decide ((1048576 : Int) < ep) = true := by simp; omega
    have hm : mayEp ep = false := by
      unfold mayEp
      simp only [Bool.and_eq_false_iff, decide_eq_false_iff_not]
      omega
    have hw : selR n ep = some 2 := by unfold selR; rw [if_pos hm]
    simp only [bW, Nat.reduceEqDiff, lt_40, zt_40, gN, gZ, hl6, hcl, hs6, d1, d2, retA_ret, Tryz.results16, resultsC_3, resultA_tmp, resultA_cell, res3_some]
    exact hid_mk ⟨by rw [hq _ hw], kk _⟩
  have d2 : decide ((1048576 : Int) < ep) = false := by simp; omega
  have hm : mayEp ep = true := by
    unfold mayEp
    simp only [Bool.and_eq_true, decide_eq_true_eq]
    omega
  have hm' : ¬ mayEp ep = false := by rw [hm]; decide
  by_cases m6 : ep ≤ n.1
  · have d6 : decide (ep ≤ n.1) = true := by simpa using m6
    have hw : selR n ep = some 7 := by unfold selR; rw [if_neg hm', if_pos m6]
    simp only [bW, Nat.reduceEqDiff, ft_40_1, lt_3, lt_40, zt_40, gN, gZ, hl6, hcl, hs6, e4, d1, d2, d6, retA_ret, Tryz.results16, resultsC_3, resultA_tmp, resultA_cell, res3_some]
    exact hid_mk ⟨by rw [hq _ hw], kk _⟩
  have d6 : decide (ep ≤ n.1) = false := by simpa using m6
  have hw : selR n ep = none := by unfold selR; rw [if_neg hm', if_neg m6]
  obtain ⟨e, rfl⟩ : ∃ e : Nat, ep = e := ⟨ep.toNat, by omega⟩
  have we := wrap_natU (n := e) (by omega)
  have l1 := enc_le 2 (by omega)
  have l2 := enc_le e (by omega)
  have hP : payN (selA (e : Nat)) = [] ++ enc 2 ++ enc e := rfl
  have hpay := pay_ok (selA (e : Nat)) ⟨by simp only [selA]; omega, by simp only [selA]; omega, by simp only [selA]; omega, by simp [selA]⟩ (by simp [selA])
  have hnote : ∀ h', Pure Tryz.prog 53 [.agg (rnE room s [] torn n), .imm ([] ++ enc 2 ++ enc e).length (bytesV ([] ++ enc 2 ++ enc e))] h' (noteV room s torn n (payN (selA (e : Nat)))) := fun h' => by
    rw [← hP]
    exact pNoteR room s torn n _ hroom hs hr hl hpay.2 (by omega) h'
  have hU1 : ∀ h', Pure Tryz.prog 52 [.snil, .int .u64 2] h' (.imm ([] ++ enc 2).length (bytesV ([] ++ enc 2))) := fun h' => rUint .snil [] 2 h' (Rd.snil _) (by simp) (by omega)
  have hU2 : ∀ h', Pure Tryz.prog 52 [.imm ([] ++ enc 2).length (bytesV ([] ++ enc 2)), .int .u64 (e : Nat)] h' (.imm ([] ++ enc 2 ++ enc e).length (bytesV ([] ++ enc 2 ++ enc e))) := fun h' => rUint _ _ e h' (Rd.imm _ _) (by simp; omega) (by omega)
  unfold sealV
  rw [hw]
  unfold noteV at hnote
  generalize payN (selA (e : Nat)) = P at hnote ⊢
  by_cases hp : putBad room s P = 0
  · rw [if_pos hp] at hnote ⊢
    simp only [bW, Nat.reduceEqDiff, ft_40_1, lt_3, gN, e4, d1, d2, d6]
    refine SWp.drawnS none_ [9, 10] (.q 0 (.c 1 (.q 2 (.q 3 (.c 4 (.c 5 (.q 6 (.q 7 (.q 8 (.e 9 (.e 10 (.q 11 .done) .stop) .stop)))))))))) (by kernel_rfl) (by kernel_rfl) (by kernel_rfl) ?_
    simp only [bW, bS, Nat.reduceEqDiff, lt_40, gN, hl6]
    refine siI_c rfl rfl rfl (fun h' _ => hU1 h') ?_
    simp only [bW, bS, Nat.reduceEqDiff, aConv_int it_3 it_117, we]
    refine siI_c rfl rfl rfl (fun h' _ => hU2 h') ?_
    simp only [List.nil_append]
    refine siI_c rfl rfl rfl (fun h' _ => hnote h') ?_
    simp only [bW, bS, Nat.reduceEqDiff, zc_40, zt_40, hcl, hs6]
    have kX : Keep H (H.push (.cells (rnE room (s ++ frame P) [] torn (redoR n P)) 40 none)) none_ := Keep.push _ _ _
    have gX : (H.push (.cells (rnE room (s ++ frame P) [] torn (redoR n P)) 40 none)).get H.n = .cells (rnE room (s ++ frame P) [] torn (redoR n P)) 40 none := get_push_new
    have gZ2 := (kX.get (h.n + 1) (by omega) (fun h => h)).trans gZ
    have gN2 := (kX.get h.n (by omega) (fun h => h)).trans gN
    have kk2 : ∀ o, Keep h ((H.push (.cells (rnE room (s ++ frame P) [] torn (redoR n P)) 40 none)).set (h.n + 1) o) none_ := fun o => (k0.trans kX fun _ _ h => h).setNew (by omega) _
    generalize H.push (.cells (rnE room (s ++ frame P) [] torn (redoR n P)) 40 none) = H2 at kX gX gZ2 gN2 kk2 ⊢
    refine SWp.drawnS (fun x => x = h.n + 1) [3] (.q 0 (.q 1 (.q 2 (.e 3 (.q 4 (.q 5 .done)) .stop)))) (by kernel_rfl) (by kernel_rfl) (by kernel_rfl) ?_
    have hne : (H.n = h.n + 1) = False := eq_false (by omega)
    simp only [bW, bS, bM, Nat.reduceEqDiff, ft_40_2, lt_38, lt_40, zt_40, hne, hcl, hs6, hl6, e5, gX, gZ2, retA_ret, Tryz.results16, resultsC_3, resultA_tmp, resultA_cell, res3_some]
    exact ⟨Keep.set _ _ _, hid_mk ⟨rfl, kk2 _⟩⟩
  · rw [if_neg hp] at hnote ⊢
    have hpb : (putBad room s P != 0) = true := by simpa using hp
    simp only [bW, Nat.reduceEqDiff, ft_40_1, lt_3, gN, e4, d1, d2, d6]
    refine SWp.drawnS none_ [9, 10] (.q 0 (.c 1 (.q 2 (.q 3 (.c 4 (.c 5 (.q 6 (.q 7 (.q 8 (.e 9 (.e 10 (.q 11 .done) .stop) .stop)))))))))) (by kernel_rfl) (by kernel_rfl) (by kernel_rfl) ?_
    simp only [bW, bS, Nat.reduceEqDiff, lt_40, gN, hl6]
    refine siI_c rfl rfl rfl (fun h' _ => hU1 h') ?_
    simp only [bW, bS, Nat.reduceEqDiff, aConv_int it_3 it_117, we]
    refine siI_c rfl rfl rfl (fun h' _ => hU2 h') ?_
    simp only [List.nil_append]
    refine siI_c rfl rfl rfl (fun h' _ => hnote h') ?_
    simp only [bW, bS, Nat.reduceEqDiff, zc_40, zt_40, hcl, hs6]
    have kX : Keep H (H.push (.cells (rnE room s [] torn n) 40 none)) none_ := Keep.push _ _ _
    have gX : (H.push (.cells (rnE room s [] torn n) 40 none)).get H.n = .cells (rnE room s [] torn n) 40 none := get_push_new
    have gZ2 := (kX.get (h.n + 1) (by omega) (fun h => h)).trans gZ
    have gN2 := (kX.get h.n (by omega) (fun h => h)).trans gN
    have kk2 : ∀ o, Keep h ((H.push (.cells (rnE room s [] torn n) 40 none)).set (h.n + 1) o) none_ := fun o => (k0.trans kX fun _ _ h => h).setNew (by omega) _
    generalize H.push (.cells (rnE room s [] torn n) 40 none) = H2 at kX gX gZ2 gN2 kk2 ⊢
    simp only [bW, Nat.reduceEqDiff, lt_40, zt_40, hcl, hs6, hl6, gZ2, gN2, hpb, retA_ret, Tryz.results16, resultsC_3, resultA_tmp, resultA_cell, res3_some]
    exact hid_mk ⟨rfl, kk2 _⟩
end Go.Proofs.YtilgpaibolollaaGreat.Pk
namespace Go.Proofs.YtilgpaibolollaaGreat.Pk
open Go Go.Proofs Go.Proofs.YtilgpaibolollaaGreat.Ab
set_option maxRecDepth 10000
set_option linter.unusedVariables false
set_option linter.unusedSimpArgs false
/-! ### The law's same and cells; a seal's answer, told -/
theorem pSameL (a b : Cel) (ha : ∀ x ∈ a.bytes, x < 256) (hb : ∀ x ∈ b.bytes, x < 256) (h : AHeap) : Pure Tryz.prog 14 [.agg (celE a), .agg (celE b)] h (.bool (decide (a.at_ = b.at_) && decide (a.epoch = b.epoch) && decide (a.bytes = b.bytes))) := by
  refine Pure.val (Clo.bool _) ?_
  refine SCalls.enterI (c := _) Tryz.func14 rfl (by kernel_rfl) (by simp) ?_
  have ca : ∀ a : Cel, (V.agg (celE a)).cells = some (celE a) := fun a => rfl
  have e1 : ∀ (a : Cel) (t : TypeId), dropC (AObj.cells (celE a) t none) 1 = some [.int .i64 a.epoch, .imm a.bytes.length (bytesV a.bytes)] := fun a t => rfl
  have e2 : ∀ (a : Cel) (t : TypeId), dropC (AObj.cells (celE a) t none) 2 = some [.imm a.bytes.length (bytesV a.bytes)] := fun a t => rfl
  have l0 : ∀ a : Cel, loadGo (some none) (some (celE a)) = some (.int .i64 a.at_) := fun a => rfl
  have l3 : ∀ a : Cel, loadGo (some (some 3)) (some (celE a)) = some (.agg (celE a)) := fun a => rfl
  have gA : ((h.push (.cells (celE a) 48 none)).push (.cells (celE b) 51 none)).get h.n = .cells (celE a) 48 none := get_p2 _ _ _
  have kF : Keep h ((h.push (.cells (celE a) 48 none)).push (.cells (celE b) 51 none)) none_ := (Keep.push _ _ _).trans (Keep.push _ _ _) (fun _ _ h => h)
  simp only [bW, Nat.reduceEqDiff, Nat.reduceAdd, Nat.reduceLeDiff, ft_48_0, ft_48_1, ft_48_2, lt_29, lt_3, lt_51, pl_51, zc_51, ca, gA, e1, e2, l0, l3]
  refine callI_pure cal56 (pSameR a b ha hb _) ?_
  simp only [bW, Nat.reduceEqDiff, retA_ret, Tryz.results14, resultsA_1]
  exact hid_mk ⟨rfl, kF⟩
theorem cel_ixA {l : List Cel} {k : Nat} (hk : k < l.length) {kk : IntKind} : aIndexAddr Tryz.prog 55 (.imm l.length (l.flatMap celE)) (.int kk (k : Int)) = some (.at (celE l[k] ++ (l.drop (k + 1)).flatMap celE)) := rows_ix celE_len hk ss_55
theorem pCellsT (l : List Cel) (hl : l.length ≤ 2 ^ 40) (hb : ∀ c ∈ l, ∀ x ∈ c.bytes, x < 256) (h : AHeap) : Pure Tryz.prog 17 [.imm l.length (l.flatMap celE), .imm l.length (l.flatMap celE)] h (.bool true) := by
  refine Pure.val (Clo.bool _) ?_
  refine SCalls.enterI (c := _) Tryz.func17 rfl (by kernel_rfl) (by simp) ?_
  have d0 : (((l.length : Nat) : Int) != ((l.length : Nat) : Int)) = false := by simp
  simp only [bW, Nat.reduceEqDiff, reduceCtorEq, kt_38, kt_55]
  refine SWp.loopG (α := Nat) (fun i f h' => h' = h ∧ f 0 = .imm l.length (l.flatMap celE) ∧ f 1 = .imm l.length (l.flatMap celE) ∧ f 5 = .int .i64 (i : Nat) ∧ i ≤ l.length) (fun i => l.length - i) 0
    ⟨rfl, rfl, rfl, rfl, Nat.zero_le _⟩ ?_
  rintro i f h' ⟨rfl, f0, f1, f5, hi⟩
  refine wpI_sound (by kernel_rfl) ?_
  by_cases hlt : i < l.length
  · have d1 : decide ((i : Int) < ((l.length : Nat) : Int)) = true := by simp; omega
    have hx := cel_ixR hlt (kk := .i64)
    have hxA := cel_ixA hlt (kk := .i64)
    have l3 : ∀ r : List V, loadGo (some (some 3)) (some (celE l[i] ++ r)) = some (.agg (celE l[i])) := fun r => rfl
    have hi1 : IntKind.i64.wrap ((i : Int) + 1) = ((i + 1 : Nat) : Int) := by rw [Go.IntWalk.i64_in _ (by omega)]; rfl
    have hbi := hb l[i] (List.getElem_mem _)
    have hs : ∀ h', Pure Tryz.prog 14 [.agg (celE l[i]), .agg (celE l[i])] h' (.bool true) := fun h' => by
      have := pSameL l[i] l[i] hbi hbi h'
      simpa using this
    simp only [bW, Nat.reduceEqDiff, reduceCtorEq, kt_55, f0, f5, d1]
    refine SWp.drawnS none_ [] (.q 0 (.q 1 (.q 2 (.q 3 (.q 4 (.q 5 (.q 6 (.q 7 (.c 8 (.q 9 .done)))))))))) (by kernel_rfl) (by kernel_rfl) (by kernel_rfl) ?_
    simp only [bW, bS, Nat.reduceEqDiff, reduceCtorEq, lt_48, lt_51, f0, f1, f5, hx, hxA, l3]
    refine siI_c rfl rfl rfl (fun h' _ => hs h') ?_
    simp only [bW, bS, Nat.reduceEqDiff, f5, hi1]
    exact hid_mk ⟨i + 1, ⟨rfl, f0, f1, rfl, hlt⟩, by omega⟩
  · have d1 : decide ((i : Int) < ((l.length : Nat) : Int)) = false := by simp; omega
    simp only [bW, Nat.reduceEqDiff, reduceCtorEq, kt_55, f0, f5, d1, retA_ret, Tryz.results17, resultsA_1]
    exact hid_mk ⟨rfl, Keep.refl _ _⟩
theorem cel_ok {s : NSt} (w : NOk s) {n : RNd} (k : Like s n) : ∀ c ∈ n.2, (0 ≤ c.at_ ∧ c.at_ < 4096) ∧ (∀ x ∈ c.bytes, x < 256) ∧ c.bytes.length ≤ 2048 := fun c hc => by
  have hg := (k.mem c.at_ c).2 ⟨hc, rfl⟩
  obtain ⟨e, he, h2⟩ := kget_mem hg
  obtain ⟨s1, s2, s3, s4, s5⟩ := w.sm e he
  obtain ⟨e1, e2, e3⟩ := e
  simp only [Prod.mk.injEq] at h2 s1 s2 s3 s4 s5
  obtain ⟨rfl, rfl⟩ := h2
  exact ⟨⟨s3, s4⟩, s2, s1⟩
end Go.Proofs.YtilgpaibolollaaGreat.Pk
namespace Go.Proofs.YtilgpaibolollaaGreat.Pk
open Go Go.Proofs Go.Proofs.YtilgpaibolollaaGreat.Ab Go.Sort
set_option maxRecDepth 10000
set_option linter.unusedVariables false
set_option linter.unusedSimpArgs false
end Go.Proofs.YtilgpaibolollaaGreat.Pk
namespace Go.Proofs.YtilgpaibolollaaGreat.Pk
open Go Go.Proofs Go.Proofs.YtilgpaibolollaaGreat.Ab Go.Sort
set_option maxRecDepth 10000
set_option linter.unusedVariables false
set_option linter.unusedSimpArgs false
/-- The first one of the highest epoch. -/
def bestF (t : Option Cel) (c : Cel) : Option Cel := match t with
  | none => some c
  | some t => if t.epoch < c.epoch then some c else some t
def bestOf (l : List Cel) : Option Cel := l.foldl bestF none
/-! ### The comparator -/
end Go.Proofs.YtilgpaibolollaaGreat.Pk
namespace Go.Proofs.YtilgpaibolollaaGreat.Pk
open Go Go.Proofs Go.Proofs.YtilgpaibolollaaGreat.Ab Go.Sort
set_option maxRecDepth 10000
set_option linter.unusedVariables false
set_option linter.unusedSimpArgs false
/-! ### Merge: cells by their slots -/
abbrev EntQ := List (Nat × Int × (V × List Cel))
def qE (m : EntQ) : List (Nat × V × V) := mapK (V.int .i64) Prod.fst m
def atOf (cs : List Cel) (k : Int) : List Cel := cs.filter fun c => c.at_ == k
theorem atOf_snoc (cs : List Cel) (c : Cel) (k : Int) : atOf (cs ++ [c]) k = if c.at_ = k then atOf cs k ++ [c] else atOf cs k := by
  unfold atOf
  rw [List.filter_append]
  by_cases h : c.at_ = k <;> simp [h]
/-- What a slot has so far. -/
def cur (m : EntQ) (k : Int) : V × List Cel := (kget m k).getD (.snil, [])
structure Bag (h0 h : AHeap) (mi : Nat) (cs : List Cel) (m : EntQ) (cl : Nat) : Prop where
  keep : Keep h0 h none_
  lo : h0.n ≤ mi
  lt : mi < h.n
  get : h.get mi = .map (qE m) cl
  st : Stamps (qE m) cl
  nd : KNodup m
  own : ∀ k a, kget m k = some a → Own h 48 3 a.1 (a.2.flatMap celE) ∧ (∀ i, idOf a.1 = some i → h0.n ≤ i ∧ i ≠ mi)
  apart : ∀ k k' a a' i, kget m k = some a → kget m k' = some a' → k ≠ k' → idOf a.1 = some i → idOf a'.1 ≠ some i
  has : ∀ k a, kget m k = some a → a.2 = atOf cs k ∧ a.2 ≠ []
  non : ∀ k, kget m k = none → atOf cs k = []
  len : m.length ≤ cs.length
theorem Bag.on {h0 h h' : AHeap} {mi cl : Nat} {cs : List Cel} {m : EntQ} (w : Bag h0 h mi cs m cl) (k : Keep h h' none_) : Bag h0 h' mi cs m cl :=
  ⟨w.keep.trans' k, w.lo, Nat.lt_of_lt_of_le w.lt k.n, (k.get mi w.lt (fun h => h)).trans w.get, w.st, w.nd, fun q a hq => ⟨(w.own q a hq).1.keepN k, (w.own q a hq).2⟩, w.apart, w.has, w.non, w.len⟩
theorem Bag.cur_own {h0 h : AHeap} {mi cl : Nat} {cs : List Cel} {m : EntQ} (w : Bag h0 h mi cs m cl) (k : Int) : Own h 48 3 (cur m k).1 ((cur m k).2.flatMap celE) ∧ (cur m k).2 = atOf cs k ∧ (∀ i, idOf (cur m k).1 = some i → h0.n ≤ i ∧ i ≠ mi) := by
  unfold cur
  cases hk : kget m k with
  | none => exact ⟨Own.snil _ _ _, (w.non k hk).symm, fun i hi => by cases hi⟩
  | some a => exact ⟨(w.own k a hk).1, (w.has k a hk).1, (w.own k a hk).2⟩
/-- A cell more: its slot's slice is appended to, and laid down again. -/
theorem Bag.add {h0 h h' : AHeap} {mi cl : Nat} {cs : List Cel} {m : EntQ} (w : Bag h0 h mi cs m cl) (c : Cel) {v : V} (kp : Keep h h' (isId (cur m c.at_).1)) (o : Own h' 48 3 v (((cur m c.at_).2 ++ [c]).flatMap celE)) (nw : NewOr h (cur m c.at_).1 v) :
    Bag h0 (h'.set mi (.map (qE (kset cl m c.at_ (v, (cur m c.at_).2 ++ [c]))) (kclk cl m c.at_))) mi (cs ++ [c]) (kset cl m c.at_ (v, (cur m c.at_).2 ++ [c])) (kclk cl m c.at_) := by
  obtain ⟨o0, e0, i0⟩ := w.cur_own c.at_
  have kS : ∀ o, Keep h' (h'.set mi o) (fun q => q = mi) := fun o => Keep.set _ _ _
  have hv : ∀ i, idOf v = some i → h0.n ≤ i ∧ i ≠ mi := fun i hi => by
    rcases nw with e | e
    · exact i0 i (e ▸ hi)
    · have := e i hi; have := w.keep.n; have := w.lt; omega
  have other : ∀ k a, kget m k = some a → k ≠ c.at_ → ∀ i, idOf a.1 = some i → idOf (cur m c.at_).1 ≠ some i := fun k a hk hne i hi => by
    unfold cur
    cases hc : kget m c.at_ with
    | none => simp [idOf]
    | some b => exact w.apart k c.at_ a b i hk hc hne hi
  have kall : Keep h0 (h'.set mi (.map (qE (kset cl m c.at_ (v, (cur m c.at_).2 ++ [c]))) (kclk cl m c.at_))) none_ :=
    (w.keep.trans kp fun q hq e => by have := (i0 q e).1; omega).trans (kS _) fun q hq e => by have := w.lo; omega
  refine ⟨kall, w.lo, Nat.lt_of_lt_of_le w.lt (Nat.le_trans kp.n (kS (.map (qE (kset cl m c.at_ (v, (cur m c.at_).2 ++ [c]))) (kclk cl m c.at_))).n), get_set_same, w.st.kset _ _, w.nd.set _ _ _, fun k a hk => ?_, fun k k' a a' i hk hk' hne hi => ?_, fun k a hk => ?_, fun k hk => ?_, ?_⟩
  · rw [kget_kset] at hk
    split at hk
    · cases hk
      exact ⟨o.keep (kS _) fun i hi e => (hv i hi).2 e, hv⟩
    · rename_i hne
      obtain ⟨o1, i1⟩ := w.own k a hk
      exact ⟨(o1.keep kp fun i hi e => other k a hk hne i hi e).keep (kS _) fun i hi e => (i1 i hi).2 e, i1⟩
  · rw [kget_kset] at hk hk'
    split at hk
    · rename_i e1
      split at hk'
      · rename_i e2; exact absurd (e1.trans e2.symm) hne
      · rename_i e2
        cases hk
        intro hi'
        rcases nw with e | e
        · exact other k' a' hk' e2 i hi' (e ▸ hi)
        · have := e i hi
          have := (w.own k' a' hk').1.lt i hi'
          omega
    · rename_i e1
      split at hk'
      · cases hk'
        intro hi'
        rcases nw with e | e
        · exact other k a hk e1 i hi (e ▸ hi')
        · have := e i hi'
          have := (w.own k a hk).1.lt i hi
          omega
      · exact w.apart k k' a a' i hk hk' hne hi
  · rw [kget_kset] at hk
    rw [atOf_snoc]
    split at hk
    · rename_i e1
      cases hk
      rw [if_pos e1.symm, e1, e0]
      exact ⟨rfl, by simp⟩
    · rename_i e1
      rw [if_neg fun e => e1 e.symm]
      exact w.has k a hk
  · rw [kget_kset] at hk
    rw [atOf_snoc]
    split at hk
    · cases hk
    · rename_i e1
      rw [if_neg fun e => e1 e.symm]
      exact w.non k hk
  · rw [klen_set, List.length_append]
    have := w.len
    split <;> simp <;> omega
/-! ### What is told -/
structure IsMerge (cs out : List Cel) : Prop where
  mem : ∀ c, c ∈ out ↔ bestOf (atOf cs c.at_) = some c
  up : out.Pairwise fun a b => a.at_ < b.at_
theorem bestF_mem {t : Option Cel} {c d : Cel} (h : bestF t c = some d) : d = c ∨ t = some d := by
  cases t with
  | none => left; exact (Option.some.inj h).symm
  | some t =>
    unfold bestF at h
    simp only at h
    split at h
    · left; exact (Option.some.inj h).symm
    · right; exact h
theorem bestOf_fold_mem : ∀ (l : List Cel) (t : Option Cel) {d : Cel}, l.foldl bestF t = some d → d ∈ l ∨ t = some d
  | [], t, d, h => .inr h
  | c :: l, t, d, h => by
    rcases bestOf_fold_mem l (bestF t c) h with h | h
    · exact .inl (List.mem_cons_of_mem _ h)
    · rcases bestF_mem h with h | h
      · exact .inl (by rw [h]; exact List.mem_cons_self)
      · exact .inr h
theorem bestOf_mem {l : List Cel} {d : Cel} (h : bestOf l = some d) : d ∈ l := by
  rcases bestOf_fold_mem l none h with h | h
  · exact h
  · cases h
theorem atOf_mem {cs : List Cel} {k : Int} {c : Cel} : c ∈ atOf cs k ↔ c ∈ cs ∧ c.at_ = k := by unfold atOf; rw [List.mem_filter]; simp
end Go.Proofs.YtilgpaibolollaaGreat.Pk
namespace Go.Proofs.YtilgpaibolollaaGreat.Pk
open Go Go.Proofs Go.Proofs.YtilgpaibolollaaGreat.Ab Go.Sort
set_option maxRecDepth 10000
set_option linter.unusedVariables false
set_option linter.unusedSimpArgs false
end Go.Proofs.YtilgpaibolollaaGreat.Pk
namespace Go.Proofs.YtilgpaibolollaaGreat.Pk
open Go Go.Proofs Go.Proofs.YtilgpaibolollaaGreat.Ab Go.Sort
set_option maxRecDepth 10000
set_option linter.unusedVariables false
set_option linter.unusedSimpArgs false
theorem IsMerge.sub {cs out : List Cel} (w : IsMerge cs out) : ∀ c ∈ out, c ∈ cs := fun c hc => (atOf_mem.1 (bestOf_mem ((w.mem c).1 hc))).1
theorem IsMerge.len {cs out : List Cel} (w : IsMerge cs out) : out.length ≤ cs.length := by
  have hn : out.Nodup := w.up.imp fun {a b} hab e => by subst e; omega
  exact hn.length_le_of_subset w.sub
end Go.Proofs.YtilgpaibolollaaGreat.Pk
namespace Go.Proofs.YtilgpaibolollaaGreat.Pk
open Go Go.Proofs Go.Proofs.YtilgpaibolollaaGreat.Ab
set_option linter.unusedVariables false
set_option linter.unusedSimpArgs false
/-! ### The log, as a model: nodes are the payloads on their disks -/
abbrev Pays := List (List Nat)
def cellAt (l : Pays) (k : Int) : Option Cel := kget (redoL l).2.1 k
def epOf (l : Pays) : Int := (redoL l).1
def used (l : Pays) : Nat := (l.flatMap frame).length
def nw (room : Int) (ep at_ : Int) (b : List Nat) (l : Pays) : Pays × Int :=
  match wrI (redoL l) ep at_ b with
  | some e => (l, e)
  | none => if putBad room (l.flatMap frame) (payN ⟨1, ep, at_, b⟩) = 0 then (l ++ [payN ⟨1, ep, at_, b⟩], 0) else (l, putBad room (l.flatMap frame) (payN ⟨1, ep, at_, b⟩))
def nseal (room : Int) (ep : Int) (l : Pays) : Pays × Int :=
  match selI (redoL l) ep with
  | some e => (l, e)
  | none => if putBad room (l.flatMap frame) (payN (selA ep)) = 0 then (l ++ [payN (selA ep)], 0) else (l, putBad room (l.flatMap frame) (payN (selA ep)))
theorem used_snoc (l : Pays) (p : List Nat) : used (l ++ [p]) = used l + (frame p).length := by
  unfold used
  rw [List.flatMap_append, List.length_append]
  simp
theorem wr_redo {l : Pays} {ep at_ : Int} {b : List Nat} (hw : wrI (redoL l) ep at_ b = none) : redoL (l ++ [payN ⟨1, ep, at_, b⟩]) = appS (redoL l) ⟨1, ep, at_, b⟩ := by
  obtain ⟨r1, r2, r3⟩ := wr_rng (wr_ok hw)
  obtain ⟨e1, rfl⟩ : ∃ q : Nat, ep = q := ⟨ep.toNat, by omega⟩
  obtain ⟨e2, rfl⟩ : ∃ q : Nat, at_ = q := ⟨at_.toNat, by omega⟩
  rw [redoL_snoc]
  exact redo_write _ e1 e2 b hw
theorem sel_rng {s : NSt} {ep : Int} (hs : selI s ep = none) : (0 ≤ ep ∧ ep ≤ 1048576) ∧ s.1 < ep := by
  unfold selI at hs
  split at hs
  · cases hs
  split at hs
  · cases hs
  · rename_i h1 h2
    have hm : mayEp ep = true := by simpa using h1
    unfold mayEp at hm
    simp only [Bool.and_eq_true, decide_eq_true_eq] at hm
    exact ⟨hm, by omega⟩
theorem appS_w (s : NSt) (ep at_ : Int) (b : List Nat) : (appS s ⟨1, ep, at_, b⟩).1 = s.1 ∧ ∀ k, kget (appS s ⟨1, ep, at_, b⟩).2.1 k = if k = at_ then some ⟨at_, ep, b⟩ else kget s.2.1 k := by
  refine ⟨by unfold appS appE; simp, fun k => ?_⟩
  unfold appS appC
  simp only
  rw [if_neg (by decide), kget_kset]
/-- What a write makes of a node, whatever it answers. -/
theorem nw_post (room ep at_ : Int) (b : List Nat) (l : Pays) :
    epOf (nw room ep at_ b l).1 = epOf l ∧ (∀ k, k ≠ at_ → cellAt (nw room ep at_ b l).1 k = cellAt l k) ∧
    (cellAt (nw room ep at_ b l).1 at_ = cellAt l at_ ∨ (cellAt (nw room ep at_ b l).1 at_ = some ⟨at_, ep, b⟩ ∧ ∀ c, cellAt l at_ = some c → c.epoch < ep)) ∧
    ((nw room ep at_ b l).2 = 0 → ∃ c, cellAt (nw room ep at_ b l).1 at_ = some c ∧ c.epoch = ep ∧ c.bytes = b) := by
  unfold nw
  cases hw : wrI (redoL l) ep at_ b with
  | some e =>
    refine ⟨rfl, fun _ _ => rfl, .inl rfl, fun he => ?_⟩
    simp only at he
    subst he
    unfold wrI at hw
    split at hw
    · cases hw
    split at hw
    · cases hw
    split at hw
    · rename_i c hc
      split at hw
      · split at hw
        · rename_i h1; exact ⟨c, hc, h1.1, h1.2⟩
        · cases hw
      · cases hw
    · cases hw
  | none =>
    simp only
    split
    · have hR := wr_redo hw
      obtain ⟨a1, a2⟩ := appS_w (redoL l) ep at_ b
      refine ⟨?_, fun k hk => ?_, .inr ⟨?_, fun c hc => ?_⟩, fun _ => ⟨⟨at_, ep, b⟩, ?_, rfl, rfl⟩⟩
      · unfold epOf; rw [hR, a1]
      · unfold cellAt; rw [hR, a2, if_neg hk]
      · unfold cellAt; rw [hR, a2, if_pos rfl]
      · unfold cellAt at hc
        unfold wrI at hw
        rw [hc] at hw
        simp only at hw
        split at hw
        · cases hw
        split at hw
        · cases hw
        split at hw
        · split at hw <;> cases hw
        · omega
      · unfold cellAt; rw [hR, a2, if_pos rfl]
    · rename_i hP
      exact ⟨rfl, fun _ _ => rfl, .inl rfl, fun he => absurd he hP⟩
/-- A write that is answered OK. -/
theorem nw_fine {room ep at_ : Int} {b : List Nat} {l : Pays} (h1 : epOf l ≤ ep) (h2 : 0 ≤ ep ∧ ep ≤ 1048576) (h3 : 0 ≤ at_ ∧ at_ < 4096) (h4 : b.length ≤ 2048) (h5 : ∀ c, cellAt l at_ = some c → c.epoch < ep) (h6 : (used l : Int) + 60 + b.length ≤ room) :
    (nw room ep at_ b l).2 = 0 ∧ used (nw room ep at_ b l).1 ≤ used l + 54 + b.length := by
  have hm : mayWr ⟨1, ep, at_, b⟩ = true := by
    unfold mayWr mayEp
    simp only [Bool.and_eq_true, decide_eq_true_eq]
    exact ⟨⟨h3, h2⟩, h4⟩
  have hw : wrI (redoL l) ep at_ b = none := by
    unfold wrI
    rw [if_neg (by rw [hm]; decide), if_neg (by unfold epOf at h1; omega)]
    cases hc : kget (redoL l).2.1 at_ with
    | none => rfl
    | some c => simp only; rw [if_neg (by have := h5 c hc; omega)]
  have ho : okAct ⟨1, ep, at_, b⟩ := ⟨by simp only; omega, by simp only; omega, by simp only; omega, h4⟩
  have hP : putBad room (l.flatMap frame) (payN ⟨1, ep, at_, b⟩) = 0 := pb0 ho (by unfold used at h6; simp only; omega)
  have hF := fr_len _ ho
  unfold nw
  rw [hw]
  simp only
  rw [if_pos hP]
  refine ⟨rfl, ?_⟩
  simp only at hF ⊢
  rw [used_snoc]
  omega
end Go.Proofs.YtilgpaibolollaaGreat.Pk
namespace Go.Proofs.YtilgpaibolollaaGreat.Pk
open Go Go.Proofs Go.Proofs.YtilgpaibolollaaGreat.Ab
set_option linter.unusedVariables false
set_option linter.unusedSimpArgs false
/-! ### Counting -/
def cntN (P : Nat → Bool) : Nat → Nat
  | 0 => 0
  | i + 1 => cntN P i + if P i = true then 1 else 0
theorem cntN_mono {P Q : Nat → Bool} : ∀ {n}, (∀ q, q < n → P q = true → Q q = true) → cntN P n ≤ cntN Q n
  | 0, _ => Nat.le_refl _
  | i + 1, h => by
    have ih := cntN_mono (P := P) (Q := Q) (n := i) fun q hq => h q (by omega)
    have h1 := h i (by omega)
    unfold cntN
    by_cases hp : P i = true
    · rw [if_pos hp, if_pos (h1 hp)]; omega
    · rw [if_neg hp]; omega
theorem cntN_congr {P Q : Nat → Bool} {n : Nat} (h : ∀ q, q < n → P q = Q q) : cntN P n = cntN Q n :=
  Nat.le_antisymm (cntN_mono fun q hq hp => by rw [← h q hq]; exact hp) (cntN_mono fun q hq hp => by rw [h q hq]; exact hp)
/-! ### Nodes -/
abbrev Nds := Nat → Pays
def allN (f : Pays → Pays × Int) (rc : Nat → Bool) (i : Nat) (nd : Nds) : Nds := fun q => if q < i ∧ rc q = true then (f (nd q)).1 else nd q
def fineN (f : Pays → Pays × Int) (rc : Nat → Bool) (nd : Nds) (q : Nat) : Bool := rc q && ((f (nd q)).2 == 0)
theorem fineN_rc {f : Pays → Pays × Int} {rc : Nat → Bool} {nd : Nds} {q : Nat} (h : fineN f rc nd q = true) : rc q = true ∧ (f (nd q)).2 = 0 := by
  unfold fineN at h
  simpa using h
theorem allN_n {f : Pays → Pays × Int} {rc : Nat → Bool} {n q : Nat} {nd : Nds} (hq : q < n) : allN f rc n nd q = if rc q = true then (f (nd q)).1 else nd q := by
  unfold allN
  by_cases h : rc q = true
  · rw [if_pos ⟨hq, h⟩, if_pos h]
  · rw [if_neg fun hh => h hh.2, if_neg h]
/-- A slot written at the nodes that are reached. -/
def wrL (room : Int) (n : Nat) (ep at_ : Int) (b : List Nat) (rc : Nat → Bool) (nd : Nds) : Nds × Bool :=
  (allN (nw room ep at_ b) rc n nd, decide (n / 2 + 1 ≤ cntN (fineN (nw room ep at_ b) rc nd) n))
structure LS where
  nd : Nds
  op : Bool
  ep : Int
  row : List (List Nat)
/-- What Append makes of a log, its place, and its error. -/
def appL (room : Int) (n : Nat) (rc : Nat → Bool) (b : List Nat) (s : LS) : LS × Nat × Int :=
  if s.op = false then (s, 0, 8) else
  if b.length = 0 ∨ 2048 < b.length then (s, 0, 2) else
  if 4096 ≤ s.row.length then (s, 0, 3) else
  if (wrL room n s.ep (s.row.length : Nat) b rc s.nd).2 = true then (⟨(wrL room n s.ep (s.row.length : Nat) b rc s.nd).1, true, s.ep, s.row ++ [b]⟩, s.row.length, 0)
  else (⟨(wrL room n s.ep (s.row.length : Nat) b rc s.nd).1, false, s.ep, s.row⟩, 0, 8)
end Go.Proofs.YtilgpaibolollaaGreat.Pk
namespace Go.Proofs.YtilgpaibolollaaGreat.Pk
open Go Go.Proofs Go.Proofs.YtilgpaibolollaaGreat.Ab
set_option linter.unusedVariables false
set_option linter.unusedSimpArgs false
/-! ### What is known stays -/
def geO : Option Cel → Int → Bool
  | some c, e => decide (e ≤ c.epoch)
  | none, _ => false
def isO : Option Cel → Int → List Nat → Bool
  | some c, e, b => decide (c.epoch = e) && decide (c.bytes = b)
  | none, _, _ => false
theorem geO_some {o : Option Cel} {e : Int} (h : geO o e = true) : ∃ c, o = some c ∧ e ≤ c.epoch := by
  cases o with
  | none => cases h
  | some c => exact ⟨c, rfl, by simpa [geO] using h⟩
theorem isO_some {o : Option Cel} {e : Int} {b : List Nat} (h : isO o e b = true) : ∃ c, o = some c ∧ c.epoch = e ∧ c.bytes = b := by
  cases o with
  | none => cases h
  | some c => simp [isO] at h; exact ⟨c, rfl, h.1, h.2⟩
theorem isO_mk (c : Cel) : isO (some c) c.epoch c.bytes = true := by simp [isO]
/-- A node that a write with the client's epoch was tried at. -/
structure Wst (n : Nat) (ep : Int) (at_ : Int) (b : List Nat) (nd nd' : Nds) : Prop where
  other : ∀ q, q < n → ∀ k, k ≠ at_ → cellAt (nd' q) k = cellAt (nd q) k
  at_ : ∀ q, q < n → cellAt (nd' q) at_ = cellAt (nd q) at_ ∨ (cellAt (nd' q) at_ = some ⟨at_, ep, b⟩ ∧ ∀ c, cellAt (nd q) at_ = some c → c.epoch < ep)
theorem wrL_st (room : Int) (n : Nat) (ep at_ : Int) (b : List Nat) (rc : Nat → Bool) (nd : Nds) : Wst n ep at_ b nd (wrL room n ep at_ b rc nd).1 := by
  constructor
  · intro q hq k hk
    unfold wrL
    simp only
    rw [allN_n hq]
    split
    · exact (nw_post room ep at_ b (nd q)).2.1 k hk
    · rfl
  · intro q hq
    unfold wrL
    simp only
    rw [allN_n hq]
    split
    · exact (nw_post room ep at_ b (nd q)).2.2.1
    · exact .inl rfl
theorem wrL_ok {room : Int} {n : Nat} {ep at_ : Int} {b : List Nat} {rc : Nat → Bool} {nd : Nds} (h : (wrL room n ep at_ b rc nd).2 = true) :
    n < 2 * cntN (fun q => isO (cellAt ((wrL room n ep at_ b rc nd).1 q) at_) ep b) n := by
  have h1 : n / 2 + 1 ≤ cntN (fineN (nw room ep at_ b) rc nd) n := by unfold wrL at h; simpa using h
  have h2 : cntN (fineN (nw room ep at_ b) rc nd) n ≤ cntN (fun q => isO (cellAt ((wrL room n ep at_ b rc nd).1 q) at_) ep b) n := by
    refine cntN_mono fun q hq hp => ?_
    obtain ⟨hr, h0⟩ := fineN_rc hp
    obtain ⟨c, hc, e1, e2⟩ := (nw_post room ep at_ b (nd q)).2.2.2 h0
    have : (wrL room n ep at_ b rc nd).1 q = (nw room ep at_ b (nd q)).1 := by
      unfold wrL; simp only; rw [allN_n hq, if_pos hr]
    simp only [this, hc]
    subst e1 e2
    exact isO_mk c
  omega
/-! Cells up to an epoch, without two values of one epoch; and what is known -/
structure Core (n : Nat) (nd : Nds) (ep : Int) (row : List (List Nat)) (es : List Int) : Prop where
  hi : ∀ q, q < n → ∀ k c, cellAt (nd q) k = some c → c.epoch ≤ ep
  one : ∀ q q', q < n → q' < n → ∀ k c c', cellAt (nd q) k = some c → cellAt (nd q') k = some c' → c.epoch = c'.epoch → c.bytes = c'.bytes
  el : es.length = row.length
  has : ∀ i : Nat, (h : i < es.length) → n < 2 * cntN (fun q => geO (cellAt (nd q) (i : Int)) es[i]) n
  is : ∀ i : Nat, (h : i < es.length) → (h2 : i < row.length) → ∀ q, q < n → ∀ c, cellAt (nd q) (i : Int) = some c → es[i] ≤ c.epoch → c.bytes = row[i]
/-- A write that keeps what is known: whoever has a cell of its epoch at the slot has its value, and so has what is known there. -/
theorem Core.write {n : Nat} {nd nd' : Nds} {ep : Int} {row : List (List Nat)} {es : List Int} (w : Core n nd ep row es) {at_ : Nat} {b : List Nat} (ws : Wst n ep (at_ : Int) b nd nd')
    (h1 : ∀ q, q < n → ∀ c, cellAt (nd q) (at_ : Int) = some c → c.epoch = ep → c.bytes = b) (h2 : (h : at_ < row.length) → row[at_] = b) : Core n nd' ep row es := by
  have step : ∀ q, q < n → ∀ k c, cellAt (nd' q) k = some c → cellAt (nd q) k = some c ∨ (k = at_ ∧ c = ⟨at_, ep, b⟩) := fun q hq k c hc => by
    by_cases hk : k = at_
    · subst hk
      rcases ws.at_ q hq with e | ⟨e, _⟩
      · rw [e] at hc; exact .inl hc
      · rw [e] at hc; exact .inr ⟨rfl, (Option.some.inj hc).symm⟩
    · rw [ws.other q hq k hk] at hc; exact .inl hc
  refine ⟨fun q hq k c hc => ?_, fun q q' hq hq' k c c' hc hc' he => ?_, w.el, fun i hi => ?_, fun i hi hi2 q hq c hc he => ?_⟩
  · rcases step q hq k c hc with h | ⟨_, rfl⟩
    · exact w.hi q hq k c h
    · exact Int.le_refl _
  · rcases step q hq k c hc with h | ⟨e1, rfl⟩
    · rcases step q' hq' k c' hc' with h' | ⟨e2, rfl⟩
      · exact w.one q q' hq hq' k c c' h h' he
      · subst e2; exact h1 q hq c h he
    · rcases step q' hq' k c' hc' with h' | ⟨e2, rfl⟩
      · subst e1; exact (h1 q' hq' c' h' he.symm).symm
      · rfl
  · refine Nat.lt_of_lt_of_le (w.has i hi) (Nat.mul_le_mul_left 2 (cntN_mono fun q hq hp => ?_))
    by_cases hk : (i : Int) = at_
    · rcases ws.at_ q hq with e | ⟨e, e2⟩
      · rw [hk, e, ← hk]; exact hp
      · rw [hk] at hp ⊢
        rw [e]
        obtain ⟨c, hc, h4⟩ := geO_some hp
        have h3 := e2 c hc
        simp only [geO, decide_eq_true_eq]
        omega
    · rw [ws.other q hq _ hk]; exact hp
  · rcases step q hq _ c hc with h | ⟨e1, rfl⟩
    · exact w.is i hi hi2 q hq c h he
    · have : i = at_ := by omega
      subst this
      exact (h2 hi2).symm
/-- A write that a quorum has, of a slot that has no cell of its epoch yet: one more is known. -/
theorem Core.more {n : Nat} {nd : Nds} {ep : Int} {row : List (List Nat)} {es : List Int} (w : Core n nd ep row es) {b : List Nat}
    (h1 : n < 2 * cntN (fun q => isO (cellAt (nd q) (row.length : Nat)) ep b) n)
    (h2 : ∀ q, q < n → ∀ c, cellAt (nd q) (row.length : Nat) = some c → c.epoch = ep → c.bytes = b) : Core n nd ep (row ++ [b]) (es ++ [ep]) := by
  refine ⟨w.hi, w.one, by simp [w.el], fun i hi => ?_, fun i hi hi2 q hq c hc he => ?_⟩
  · by_cases hh : i < es.length
    · rw [List.getElem_append_left hh]; exact w.has i hh
    · have hie : i = row.length := by simp at hi; have := w.el; omega
      subst hie
      rw [List.getElem_append_right (by have := w.el; omega)]
      refine Nat.lt_of_lt_of_le h1 (Nat.mul_le_mul_left 2 (cntN_mono fun q hq hp => ?_))
      obtain ⟨c, hc, h4, h5⟩ := isO_some hp
      rw [hc]
      simp [geO, h4]
  · by_cases hh : i < es.length
    · rw [List.getElem_append_left hh] at he
      rw [List.getElem_append_left (by have := w.el; omega)]
      exact w.is i hh (by have := w.el; omega) q hq c hc he
    · have hie : i = row.length := by simp at hi; have := w.el; omega
      subst hie
      rw [List.getElem_append_right (by have := w.el; omega)] at he
      rw [List.getElem_append_right (Nat.le_refl _)]
      have h3 := w.hi q hq _ c hc
      simp at he
      simp only [Nat.sub_self, List.getElem_cons_zero]
      exact h2 q hq c hc (by omega)
theorem Core.same {n : Nat} {nd nd' : Nds} {ep : Int} {row : List (List Nat)} {es : List Int} (w : Core n nd ep row es) (h : ∀ q, q < n → ∀ k, cellAt (nd' q) k = cellAt (nd q) k) : Core n nd' ep row es := by
  refine ⟨fun q hq k c hc => w.hi q hq k c (by rw [← h q hq]; exact hc), fun q q' hq hq' k c c' hc hc' he => w.one q q' hq hq' k c c' (by rw [← h q hq]; exact hc) (by rw [← h q' hq']; exact hc') he, w.el, fun i hi => ?_, fun i hi hi2 q hq c hc he => w.is i hi hi2 q hq c (by rw [← h q hq]; exact hc) he⟩
  have e : cntN (fun q => geO (cellAt (nd' q) (i : Int)) es[i]) n = cntN (fun q => geO (cellAt (nd q) (i : Int)) es[i]) n :=
    cntN_congr fun q hq => by rw [h q hq]
  rw [e]; exact w.has i hi
end Go.Proofs.YtilgpaibolollaaGreat.Pk
namespace Go.Proofs.YtilgpaibolollaaGreat.Pk
open Go Go.Proofs Go.Proofs.YtilgpaibolollaaGreat.Ab
set_option linter.unusedVariables false
set_option linter.unusedSimpArgs false
theorem Wst.step {n : Nat} {ep at_ : Int} {b : List Nat} {nd nd' : Nds} (ws : Wst n ep at_ b nd nd') {q : Nat} (hq : q < n) {k : Int} {c : Cel} (hc : cellAt (nd' q) k = some c) : cellAt (nd q) k = some c ∨ (k = at_ ∧ c = ⟨at_, ep, b⟩) := by
  by_cases hk : k = at_
  · subst hk
    rcases ws.at_ q hq with e | ⟨e, _⟩
    · rw [e] at hc; exact .inl hc
    · rw [e] at hc; exact .inr ⟨rfl, (Option.some.inj hc).symm⟩
  · rw [ws.other q hq k hk] at hc; exact .inl hc
structure Safe (n : Nat) (s : LS) : Prop where
  core : ∃ es, Core n s.nd s.ep s.row es
  new : s.op = true → ∀ q, q < n → ∀ k : Nat, s.row.length ≤ k → ∀ c, cellAt (s.nd q) (k : Int) = some c → c.epoch < s.ep
theorem Safe.app {room : Int} {n : Nat} {rc : Nat → Bool} {s : LS} {b : List Nat} (w : Safe n s) :
    Safe n (appL room n rc b s).1 ∧ ((appL room n rc b s).2.2 = 0 → (appL room n rc b s).2.1 = s.row.length ∧ (appL room n rc b s).1.row = s.row ++ [b]) ∧ ((appL room n rc b s).2.2 ≠ 0 → (appL room n rc b s).1.row = s.row) := by
  unfold appL
  split
  · exact ⟨w, fun h => absurd h (by simp), fun _ => rfl⟩
  rename_i hop
  have hop' : s.op = true := by simpa using hop
  split
  · exact ⟨w, fun h => absurd h (by simp), fun _ => rfl⟩
  split
  · exact ⟨w, fun h => absurd h (by simp), fun _ => rfl⟩
  obtain ⟨⟨es, c⟩, nw_⟩ := w
  have nw_ := nw_ hop'
  have ws := wrL_st room n s.ep (s.row.length : Nat) b rc s.nd
  have hno : ∀ q, q < n → ∀ c, cellAt (s.nd q) (s.row.length : Nat) = some c → c.epoch = s.ep → c.bytes = b := fun q hq d hd he => by
    have := nw_ q hq s.row.length (Nat.le_refl _) d hd
    omega
  have c1 := c.write ws hno (fun h => absurd h (Nat.lt_irrefl _))
  split
  · rename_i hok
    refine ⟨⟨⟨_, c1.more (b := b) (wrL_ok hok) (fun q hq d hd he => ?_)⟩, fun _ q hq k hk d hd => ?_⟩, fun _ => ⟨rfl, rfl⟩, fun h => absurd rfl h⟩
    · rcases ws.step hq hd with h | ⟨_, rfl⟩
      · exact hno q hq d h he
      · rfl
    · simp only [List.length_append, List.length_cons, List.length_nil] at hk hd ⊢
      rcases ws.step hq hd with h | ⟨e, rfl⟩
      · exact nw_ q hq k (by omega) d h
      · omega
  · exact ⟨⟨⟨es, c1⟩, fun h => (by cases h)⟩, fun h => absurd h (by simp), fun _ => rfl⟩
theorem Safe.same {n : Nat} {s : LS} {nd : Nds} (w : Safe n s) (h : ∀ q, q < n → ∀ k, cellAt (nd q) k = cellAt (s.nd q) k) : Safe n ⟨nd, s.op, s.ep, s.row⟩ := by
  obtain ⟨⟨es, c⟩, nw_⟩ := w
  exact ⟨⟨es, c.same h⟩, fun ho q hq k hk d hd => nw_ ho q hq k hk d (by rw [← h q hq]; exact hd)⟩
end Go.Proofs.YtilgpaibolollaaGreat.Pk
namespace Go.Proofs.YtilgpaibolollaaGreat.Pk
open Go Go.Proofs Go.Proofs.YtilgpaibolollaaGreat.Ab
set_option linter.unusedVariables false
set_option linter.unusedSimpArgs false
/-! ### What goes well -/
structure Good (n : Nat) (nd : Nds) (E : Int) (R : List (List Nat)) (B : Nat) : Prop where
  ep : ∀ q, q < n → epOf (nd q) ≤ E
  use_ : ∀ q, q < n → used (nd q) ≤ B
  cel : ∀ q, q < n → ∀ k c, cellAt (nd q) k = some c → ∃ i : Nat, ∃ h : i < R.length, k = (i : Int) ∧ c.bytes = R[i] ∧ c.epoch ≤ E
def Full (R : List (List Nat)) (l : Pays) : Prop := ∀ i : Nat, i < R.length → ∃ c, cellAt l (i : Int) = some c
/-- A write that each node that is reached answers OK. -/
theorem wrL_fine {room : Int} {n : Nat} {E at_ : Int} {b : List Nat} {rc : Nat → Bool} {nd : Nds} {B : Nat} (h1 : ∀ q, q < n → epOf (nd q) ≤ E) (h2 : 0 ≤ E ∧ E ≤ 1048576) (h3 : 0 ≤ at_ ∧ at_ < 4096) (h4 : b.length ≤ 2048)
    (h5 : ∀ q, q < n → ∀ c, cellAt (nd q) at_ = some c → c.epoch < E) (h6 : ∀ q, q < n → used (nd q) ≤ B) (h7 : (B : Int) + 60 + b.length ≤ room) :
    cntN (fineN (nw room E at_ b) rc nd) n = cntN rc n ∧ (∀ q, q < n → used ((wrL room n E at_ b rc nd).1 q) ≤ B + 54 + b.length) ∧
    (∀ q, q < n → epOf ((wrL room n E at_ b rc nd).1 q) ≤ E) ∧ (∀ q, q < n → rc q = true → ∃ c, cellAt ((wrL room n E at_ b rc nd).1 q) at_ = some c) := by
  have key : ∀ q, q < n → (nw room E at_ b (nd q)).2 = 0 ∧ used (nw room E at_ b (nd q)).1 ≤ used (nd q) + 54 + b.length := fun q hq =>
    nw_fine (h1 q hq) h2 h3 h4 (h5 q hq) (by have := h6 q hq; omega)
  refine ⟨cntN_congr fun q hq => ?_, fun q hq => ?_, fun q hq => ?_, fun q hq hr => ?_⟩
  · unfold fineN; rw [(key q hq).1]; simp
  · unfold wrL; simp only; rw [allN_n hq]
    have h8 := h6 q hq
    have h9 := (key q hq).2
    split <;> omega
  · unfold wrL; simp only; rw [allN_n hq]
    split
    · rw [(nw_post room E at_ b (nd q)).1]; exact h1 q hq
    · exact h1 q hq
  · unfold wrL; simp only; rw [allN_n hq, if_pos hr]
    obtain ⟨c, hc, _⟩ := (nw_post room E at_ b (nd q)).2.2.2 (key q hq).1
    exact ⟨c, hc⟩
theorem Wst.full {n : Nat} {ep at_ : Int} {b : List Nat} {nd nd' : Nds} (ws : Wst n ep at_ b nd nd') {q : Nat} (hq : q < n) {k : Int} {c : Cel} (hc : cellAt (nd q) k = some c) : ∃ c, cellAt (nd' q) k = some c := by
  by_cases hk : k = at_
  · subst hk
    rcases ws.at_ q hq with e | ⟨e, _⟩
    · exact ⟨c, by rw [e]; exact hc⟩
    · exact ⟨_, e⟩
  · exact ⟨c, by rw [ws.other q hq k hk]; exact hc⟩
theorem Good.write {room : Int} {n : Nat} {nd : Nds} {E : Int} {R : List (List Nat)} {B M : Nat} (w : Good n nd E R B) {at_ : Nat} {b : List Nat} {rc : Nat → Bool} (hE : 0 ≤ E ∧ E ≤ 1048576) (ha : at_ < R.length) (hb : R[at_] = b) (h4 : b.length ≤ M) (hM : M ≤ 2048) (h3 : at_ < 4096)
    (h5 : ∀ q, q < n → ∀ c, cellAt (nd q) (at_ : Int) = some c → c.epoch < E) (h7 : ((B + (60 + M) : Nat) : Int) ≤ room) :
    cntN (fineN (nw room E (at_ : Int) b) rc nd) n = cntN rc n ∧ Good n (wrL room n E (at_ : Int) b rc nd).1 E R (B + (54 + M)) ∧ (∀ q, q < n → rc q = true → ∃ c, cellAt ((wrL room n E (at_ : Int) b rc nd).1 q) (at_ : Int) = some c) := by
  obtain ⟨a1, a2, a3, a4⟩ := wrL_fine (room := room) (rc := rc) (at_ := (at_ : Int)) (b := b) w.ep hE ⟨by omega, by omega⟩ (by omega) h5 w.use_ (by omega)
  refine ⟨a1, ⟨a3, fun q hq => by have := a2 q hq; omega, fun q hq k c hc => ?_⟩, a4⟩
  rcases (wrL_st room n E (at_ : Int) b rc nd).step hq hc with h | ⟨e1, rfl⟩
  · exact w.cel q hq k c h
  · exact ⟨at_, ha, e1, hb.symm, Int.le_refl _⟩
/-- Append to an open log. -/
theorem Good.app {room : Int} {n : Nat} {rc : Nat → Bool} {s : LS} {b : List Nat} {B M : Nat} (w : Good n s.nd s.ep s.row B) (ho : s.op = true) (hM : M ≤ 2048) (hE : 0 ≤ s.ep ∧ s.ep ≤ 1048576) (h0 : b.length ≠ 0) (h1 : b.length ≤ M) (hl : s.row.length < 4096) (hB : ((B + (60 + M) : Nat) : Int) ≤ room) :
    Good n (appL room n rc b s).1.nd s.ep (s.row ++ [b]) (B + (54 + M)) ∧ (∀ q, q < n → rc q = true → Full s.row (s.nd q) → Full (s.row ++ [b]) ((appL room n rc b s).1.nd q)) ∧ (appL room n rc b s).1.ep = s.ep ∧
    if n / 2 + 1 ≤ cntN rc n then (appL room n rc b s).2 = (s.row.length, 0) ∧ (appL room n rc b s).1.row = s.row ++ [b] ∧ (appL room n rc b s).1.op = true
    else (appL room n rc b s).2 = (0, 8) ∧ (appL room n rc b s).1.row = s.row ∧ (appL room n rc b s).1.op = false := by
  have w2 : Good n s.nd s.ep (s.row ++ [b]) B := ⟨w.ep, w.use_, fun q hq k c hc => by
    obtain ⟨i, h1, h2, h3, h4⟩ := w.cel q hq k c hc
    exact ⟨i, by rw [List.length_append]; omega, h2, by rw [List.getElem_append_left h1]; exact h3, h4⟩⟩
  have hno : ∀ q, q < n → ∀ c, cellAt (s.nd q) (s.row.length : Nat) = some c → c.epoch < s.ep := fun q hq c hc => by
    obtain ⟨i, h1, h2, h3, h4⟩ := w.cel q hq _ c hc
    omega
  obtain ⟨a1, a2, a3⟩ := w2.write (room := room) (rc := rc) (at_ := s.row.length) (b := b) hE (by simp) (by rw [List.getElem_append_right (Nat.le_refl _)]; simp) h1 hM hl hno hB
  have ws := wrL_st room n s.ep (s.row.length : Nat) b rc s.nd
  have fu : ∀ q, q < n → rc q = true → Full s.row (s.nd q) → Full (s.row ++ [b]) ((wrL room n s.ep (s.row.length : Nat) b rc s.nd).1 q) := fun q hq hr hf i hi => by
    by_cases hi2 : i < s.row.length
    · obtain ⟨c, hc⟩ := hf i hi2
      exact ws.full hq hc
    · have : i = s.row.length := by rw [List.length_append] at hi; simp at hi; omega
      subst this
      exact a3 q hq hr
  unfold appL
  rw [if_neg (by rw [ho]; decide), if_neg (by omega), if_neg (by omega)]
  have hok : (wrL room n s.ep (s.row.length : Nat) b rc s.nd).2 = decide (n / 2 + 1 ≤ cntN rc n) := by unfold wrL; simp only; rw [a1]
  by_cases hq : n / 2 + 1 ≤ cntN rc n
  · rw [if_pos (by rw [hok]; simpa using hq), if_pos hq]
    exact ⟨a2, fu, rfl, rfl, rfl, rfl⟩
  · rw [if_neg (by rw [hok]; simpa using hq), if_neg hq]
    exact ⟨a2, fu, rfl, rfl, rfl, rfl⟩
end Go.Proofs.YtilgpaibolollaaGreat.Pk

namespace Go.Proofs.YtilgpaibolollaaGreat.Pk
open Go Go.Proofs Go.Proofs.YtilgpaibolollaaGreat.Ab
set_option maxRecDepth 10000
set_option linter.unusedVariables false
set_option linter.unusedSimpArgs false
/-! ### The counter -/
/-! ### A node among others -/
structure NR where
  a : Nat
  m : Nat
  k : Nat
  j : Nat
  i : Nat
  v : V
  pv : V
  torn : Int
def NP (r : NR) : Nat → Prop := NodP r.a r.m r.k r.j r.i r.v r.pv
structure NdB (h : AHeap) (room : Int) (r : NR) (l : Pays) : Prop where
  nd : IsNode h r.a r.m r.k r.j r.i room (l.flatMap frame) ((l.flatMap frame).length : Nat) r.v r.pv l r.torn (redoL l)
  ok : NOk (redoL l)
  pl : ∀ p ∈ l, p.length ≤ 4096 ∧ ∀ x ∈ p, x < 256
theorem NdB.keep {h h' : AHeap} {room : Int} {r : NR} {l : Pays} (d : NdB h room r l) {own : Nat → Prop} (hk : Keep h h' own) (hne : ∀ q, NP r q → ¬ own q) : NdB h' room r l := ⟨d.nd.keep hk hne, d.ok, d.pl⟩
theorem NdB.lt {h : AHeap} {room : Int} {r : NR} {l : Pays} (d : NdB h room r l) : ∀ q, NP r q → q < h.n := d.nd.parts_lt
/-- What a node is after a call: its blocks are its own or new, and nothing else is turned. -/
def NStep (h h' : AHeap) (r r' : NR) : Prop := r'.a = r.a ∧ r'.i = r.i ∧ Keep h h' (NP r) ∧ ∀ q, NP r' q → NP r q ∨ h.n ≤ q
theorem NStep.of {h h' : AHeap} {r : NR} (k : Keep h h' none_) : NStep h h' r r := ⟨rfl, rfl, k.mono fun _ h => h.elim, fun _ h => .inl h⟩
theorem NdB.nd0 {h : AHeap} {room : Int} {r : NR} {l : Pays} (d : NdB h room r l) : Nd ⟨0, fun _ => .dead, h.glob⟩ h r.a r.m r.k r.j r.i room r.v r.pv l r.torn :=
  ⟨d.nd, d.ok, d.pl, fun _ _ => Nat.zero_le _, ⟨Nat.zero_le _, fun _ hh => absurd hh (Nat.not_lt_zero _), rfl⟩⟩
theorem NdB.step {h h' : AHeap} {room : Int} {r : NR} {v' pv' : V} {l : Pays} {x : Act} (d : NdB h room r l)
    (n1 : IsNode h' r.a r.m r.k r.j r.i room (l.flatMap frame ++ frame (payN x)) ((l.flatMap frame ++ frame (payN x)).length : Nat) v' pv' (l ++ [payN x]) r.torn (appS (redoL l) x)) (n2 : NewP h r.i r.v v') (n3 : idOf pv' = idOf r.pv ∨ ∀ y, idOf pv' = some y → h.n ≤ y) (n4 : Keep h h' (NodP r.a r.m r.k r.j r.i r.v r.pv))
    (hx : redo (redoL l) (payN x) = appS (redoL l) x) (hw : NOk (appS (redoL l) x)) (hp : (payN x).length ≤ 4096 ∧ ∀ y ∈ payN x, y < 256) : NdB h' room { r with v := v', pv := pv' } (l ++ [payN x]) ∧ NStep h h' r { r with v := v', pv := pv' } := by
  have hR : redoL (l ++ [payN x]) = appS (redoL l) x := by rw [redoL_snoc, hx]
  have hF : (l ++ [payN x]).flatMap frame = l.flatMap frame ++ frame (payN x) := by simp
  refine ⟨⟨by rw [hR, hF]; exact n1, by rw [hR]; exact hw, fun p hp' => ?_⟩, rfl, rfl, n4, fun q hq => ?_⟩
  · rcases List.mem_append.1 hp' with h1 | h1
    · exact d.pl p h1
    · simp at h1; subst h1; exact hp
  · rcases hq with hq | hq | hq | hq | hq | hq | hq
    · exact .inl (.inl hq)
    · exact .inl (.inr (.inl hq))
    · exact .inl (.inr (.inr (.inl hq)))
    · exact .inl (.inr (.inr (.inr (.inl hq))))
    · exact .inl (.inr (.inr (.inr (.inr (.inl hq)))))
    · rcases n2 with n2 | n2
      · exact .inl (.inr (.inr (.inr (.inr (.inr (.inl (n2 ▸ hq)))))))
      · exact .inr (n2 q hq)
    · rcases n3 with n3 | n3
      · exact .inl (.inr (.inr (.inr (.inr (.inr (.inr (n3 ▸ hq)))))))
      · exact .inr (n3 q hq)
theorem nbWrite {h : AHeap} {room : Int} {r : NR} {l : Pays} (d : NdB h room r l) (ep at_ : Int) (b : List Nat) (hb : ∀ n ∈ b, n < 256) (hbl : b.length ≤ 2 ^ 50) :
    SCalls Tryz.prog 10 [.ptr r.a 0, .int .i64 ep, .int .i64 at_, .imm b.length (bytesV b)] h (fun x h' => x = .int .i64 (nw room ep at_ b l).2 ∧ ∃ r', NdB h' room r' (nw room ep at_ b l).1 ∧ NStep h h' r r') := by
  refine (nWrite h r.a r.m r.k r.j r.i room _ r.torn _ r.v r.pv l (redoL l) d.nd (by have := d.nd0.len; omega) ep at_ b hb hbl (fun c hc => (kget_ok d.ok hc).2.1)).mono fun x h' hp => ?_
  unfold nw
  cases hw : wrI (redoL l) ep at_ b with
  | some e =>
    rw [hw] at hp
    exact ⟨hp.1, r, ⟨hp.2.1, d.ok, d.pl⟩, NStep.of hp.2.2⟩
  | none =>
    rw [hw] at hp
    obtain ⟨e, hp⟩ := hp
    have hm := wr_ok hw
    obtain ⟨r1, r2, r3⟩ := wr_rng hm
    by_cases hP : putBad room (l.flatMap frame) (payN ⟨1, ep, at_, b⟩) = 0
    · rw [if_pos hP] at hp ⊢
      obtain ⟨v', pv', n1, n2, n3, n4⟩ := hp
      refine ⟨by rw [e, hP], _, d.step n1 n2 n3 n4 ?_ (d.ok.write ep at_ b hb hm) (pay_ok _ ⟨by simp only; omega, by simp only; omega, by simp only; omega, r3⟩ hb)⟩
      obtain ⟨e1, rfl⟩ : ∃ q : Nat, ep = q := ⟨ep.toNat, by omega⟩
      obtain ⟨e2, rfl⟩ : ∃ q : Nat, at_ = q := ⟨at_.toNat, by omega⟩
      exact redo_write _ e1 e2 b hw
    · rw [if_neg hP] at hp ⊢
      exact ⟨e, r, ⟨hp.1, d.ok, d.pl⟩, NStep.of hp.2⟩
theorem nbSeal {h : AHeap} {room : Int} {r : NR} {l : Pays} (d : NdB h room r l) (ep : Int) :
    SCalls Tryz.prog 15 [.ptr r.a 0, .int .i64 ep] h (fun x h' => ∃ rv, x = .tuple [rv, .int .i64 (nseal room ep l).2] ∧ ((nseal room ep l).2 ≠ 0 → rv = .snil) ∧ ∃ r', NdB h' room r' (nseal room ep l).1 ∧ NStep h h' r r' ∧
      ((nseal room ep l).2 = 0 → ∃ out : List Cel, out.Perm ((redoL l).2.1.map (·.2.2)) ∧ (out.Pairwise fun a b => ¬ b.at_ < a.at_) ∧ Own h' 48 3 rv (out.flatMap celE) ∧ (∀ q, idOf rv = some q → h.n ≤ q ∧ ¬ NP r' q))) := by
  have hll := d.nd0.len
  have hrl := redoL_len l (0, [], 0)
  refine (nSeal h r.a r.m r.k r.j r.i room _ r.torn _ r.v r.pv l (redoL l) d.nd d.ok (by omega) (by unfold redoL; simp only [List.length_nil] at hrl; omega) ep).mono fun x h' hp => ?_
  unfold nseal
  cases hs : selI (redoL l) ep with
  | some e =>
    rw [hs] at hp
    refine ⟨.snil, hp.1, fun _ => rfl, r, ⟨hp.2.1, d.ok, d.pl⟩, NStep.of hp.2.2, fun he => ?_⟩
    simp only at he
    subst he
    unfold selI at hs
    split at hs
    · cases hs
    split at hs <;> cases hs
  | none =>
    rw [hs] at hp
    obtain ⟨hm, hlt⟩ := sel_rng hs
    by_cases hP : putBad room (l.flatMap frame) (payN (selA ep)) = 0
    · simp only at hp ⊢
      rw [if_pos hP] at hp ⊢
      obtain ⟨v', pv', rv, out, e, n1, o1, o2, o3, o4, n2, n3, n4⟩ := hp
      have st := d.step n1 n2 n3 n4 (by
        obtain ⟨e1, rfl⟩ : ∃ q : Nat, ep = q := ⟨ep.toNat, by omega⟩
        exact redo_seal _ e1 (by omega) hlt) (d.ok.sealed ep) (pay_ok _ ⟨by simp only [selA]; omega, by simp only [selA]; omega, by simp only [selA]; omega, by simp [selA]⟩ (by simp [selA]))
      exact ⟨rv, e, fun hh => absurd rfl hh, _, st.1, st.2, fun _ => ⟨out, o1, o2, o3, o4⟩⟩
    · simp only at hp ⊢
      rw [if_neg hP] at hp ⊢
      exact ⟨.snil, hp.1, fun _ => rfl, r, ⟨hp.2.1, d.ok, d.pl⟩, NStep.of hp.2.2, fun he => absurd he hP⟩
/-! ### A node opened on its disk -/
theorem nbOpen {h : AHeap} {room safe : Int} {i : Nat} {v : V} {l : Pays} (hd : IsDisk h (.ptr i 0) room (nI (l.flatMap frame)) safe i v) (ok : NOk (redoL l)) (pl : ∀ p ∈ l, p.length ≤ 4096 ∧ ∀ x ∈ p, x < 256) :
    SCalls Tryz.prog 8 [.ptr i 0] h (fun x h' => ∃ r', x = .ptr r'.a 0 ∧ NdB h' room r' l ∧ r'.i = i ∧ Keep h h' (Parts i v) ∧ ∀ q, NP r' q → Parts i v q ∨ h.n ≤ q) := by
  have hb : ∀ x ∈ l.flatMap frame, x < 256 := fun x hx => by
    obtain ⟨p, hp, hx⟩ := List.mem_flatMap.1 hx
    have he := enc_lt p.length p.length (Nat.le_refl _)
    unfold frame encBytes at hx
    rcases List.mem_append.1 hx with hx | hx
    · rcases List.mem_append.1 hx with hx | hx
      · exact he x hx
      · exact (pl p hp).2 x hx
    · simp only [sumL, List.mem_cons, List.not_mem_nil, or_false] at hx
      rcases hx with rfl | rfl | rfl | rfl <;> exact sumB_lt _ _
  have hs := scan_all l (fun p hp => (pl p hp).1)
  refine (nOpen h i room (l.flatMap frame) hb _ v hd).mono fun x h' ⟨a', m', k', j', v2, pv2, e, n1, i1, ha, hm, hk', hj, hp, kp⟩ => ?_
  rw [hs] at n1
  simp only [List.take_length, Int.sub_self] at n1
  refine ⟨⟨a', m', k', j', i, v2, pv2, 0⟩, e, ⟨n1, ok, pl⟩, rfl, kp, fun q hq => ?_⟩
  rcases hq with hq | hq | hq | hq | hq | hq | hq
  · right; simp only at hq; omega
  · right; simp only at hq; omega
  · right; simp only at hq; omega
  · right; simp only at hq; omega
  · exact .inl (.inl hq)
  · exact .inl (.inr (by rw [← i1]; exact hq))
  · exact .inr (hp q hq)
theorem NdB.disk {h : AHeap} {room : Int} {r : NR} {l : Pays} (d : NdB h room r l) : IsDisk h (.ptr r.i 0) room (nI (l.flatMap frame)) ((l.flatMap frame).length : Nat) r.i r.v := d.nd.seg.disk
theorem Parts.np {r : NR} {q : Nat} (h : Parts r.i r.v q) : NP r q := by
  rcases h with h | h
  · exact .inr (.inr (.inr (.inr (.inl h))))
  · exact .inr (.inr (.inr (.inr (.inr (.inl h)))))
theorem nbCrash {h : AHeap} {room : Int} {r : NR} {l : Pays} (d : NdB h room r l) (keep turn : Int) :
    SCalls Tryz.prog 18 [.ptr r.i 0, .int .i64 keep, .int .i64 turn] h (fun x h' => ∃ v' safe, IsDisk h' (.ptr r.i 0) room (nI (l.flatMap frame)) safe r.i v' ∧ idOf v' = idOf r.v ∧ Keep h h' (NP r)) := by
  have hl := nI_len (l.flatMap frame)
  refine (dCrash h _ room _ _ r.i r.v d.disk keep turn).mono fun x h' ⟨v', e1, e2, e3⟩ => ?_
  rw [← hl, crashed_safe, hl] at e1
  exact ⟨v', _, e1, e2, e3.mono fun _ => Parts.np⟩
end Go.Proofs.YtilgpaibolollaaGreat.Pk
namespace Go.Proofs.YtilgpaibolollaaGreat.Pk
open Go Go.Proofs Go.Proofs.YtilgpaibolollaaGreat.Ab
set_option maxRecDepth 10000
set_option linter.unusedVariables false
set_option linter.unusedSimpArgs false
/-! ### A node and the reference's, call by call -/
def yE (room : Int) (l : Pays) (t : Int) : List V := rnE room (l.flatMap frame) [] t (redoRL l)
theorem yE_snoc (room : Int) (l : Pays) (p : List Nat) (t : Int) : rnE room (l.flatMap frame ++ frame p) [] t (redoR (redoRL l) p) = yE room (l ++ [p]) t := by
  unfold yE
  rw [redoRL_snoc, List.flatMap_append]
  simp
theorem topI_at : ∀ (l : List Int) (t : Int), l.foldl (fun t k => max t (k + 1)) t = t ∨ ∃ k ∈ l, l.foldl (fun t k => max t (k + 1)) t = k + 1
  | [], t => .inl rfl
  | k :: l, t => by
    rw [List.foldl_cons]
    rcases topI_at l (max t (k + 1)) with h | ⟨x, hx, h⟩
    · rw [h]
      by_cases z : t ≤ k + 1
      · exact .inr ⟨k, by simp, by omega⟩
      · exact .inl (by omega)
    · exact .inr ⟨x, by simp [hx], h⟩
theorem topI_leZ : ∀ (l : List Int) (t : Int), t ≤ l.foldl (fun t k => max t (k + 1)) t
  | [], t => Int.le_refl _
  | k :: l, t => Int.le_trans (by omega) (topI_leZ l (max t (k + 1)))
theorem topI_memZ {l : List Int} {k : Int} (hk : k ∈ l) : k + 1 ≤ topI l := by
  obtain ⟨a, b, rfl⟩ := List.append_of_mem hk
  unfold topI
  rw [List.foldl_append, List.foldl_cons]
  exact Int.le_trans (by omega) (topI_leZ b _)
theorem topI_sub {a b : List Int} (h : ∀ k ∈ a, k ∈ b) : topI a ≤ topI b := by
  rcases topI_at a 0 with e | ⟨k, hk, e⟩
  · unfold topI; rw [e]; exact topI_leZ b 0
  · have := topI_memZ (h k hk)
    unfold topI at this ⊢
    rw [e]; exact this
theorem tail_like {s : NSt} {n : RNd} (w : Like s n) (ok : NOk s) : topI (s.2.1.map (·.2.1)) = tailR n.2 := by
  have h1 : ∀ k, k ∈ s.2.1.map (·.2.1) ↔ k ∈ n.2.map (·.at_) := fun k => by
    constructor
    · intro h
      obtain ⟨e, he, rfl⟩ := List.mem_map.1 h
      have hs := (ok.sm e he).2.2.2.2
      have hm := (kget_iff ok.nd (fun e he => (ok.sm e he).2.2.2.2) e.2.2).2 (List.mem_map_of_mem he)
      have := (w.mem _ _).1 hm
      exact List.mem_map.2 ⟨e.2.2, this.1, hs⟩
    · intro h
      obtain ⟨c, hc, rfl⟩ := List.mem_map.1 h
      obtain ⟨e, he, h2⟩ := kget_mem ((w.mem c.at_ c).2 ⟨hc, rfl⟩)
      exact List.mem_map.2 ⟨e, he, by rw [h2]⟩
  have h2 : topI (s.2.1.map (·.2.1)) = topI (n.2.map (·.at_)) := Int.le_antisymm (topI_sub fun k hk => (h1 k).1 hk) (topI_sub fun k hk => (h1 k).2 hk)
  rw [h2]
  exact topI_rise n.2 0 w.ri fun c hc => by have := (cel_ok ok w c hc).1; omega
theorem NdB.lens {h : AHeap} {room : Int} {r : NR} {l : Pays} (d : NdB h room r l) : room ≤ 1048576 ∧ ((l.flatMap frame).length : Int) ≤ room ∧ (redoRL l).2.length ≤ 1048576 ∧ (∀ x ∈ l.flatMap frame, x < 256) ∧ (∀ c ∈ (redoRL l).2, (0 ≤ c.at_ ∧ c.at_ < 4096) ∧ (∀ x ∈ c.bytes, x < 256) ∧ c.bytes.length ≤ 2048) := by
  have h1 := d.disk.len
  have h2 := d.disk.most
  have h3 := frames_len l
  have h4 := redoRL_len l
  rw [nI_len] at h1
  refine ⟨h2, h1, by omega, fun x hx => ?_, cel_ok d.ok (like_all l)⟩
  obtain ⟨p, hp, hx⟩ := List.mem_flatMap.1 hx
  have he := enc_lt p.length p.length (Nat.le_refl _)
  unfold frame encBytes at hx
  rcases List.mem_append.1 hx with hx | hx
  · rcases List.mem_append.1 hx with hx | hx
    · exact he x hx
    · exact (d.pl p hp).2 x hx
  · simp only [sumL, List.mem_cons, List.not_mem_nil, or_false] at hx
    rcases hx with rfl | rfl | rfl | rfl <;> exact sumB_lt _ _
theorem nbOpenAny {h : AHeap} {room safe : Int} {i : Nat} {v : V} {bs : List Nat} (hb : ∀ x ∈ bs, x < 256) (hd : IsDisk h (.ptr i 0) room (nI bs) safe i v) :
    SCalls Tryz.prog 8 [.ptr i 0] h (fun x h' => ∃ r', x = .ptr r'.a 0 ∧ NdB h' room r' (scanF bs.length bs).1 ∧ r'.i = i ∧ Keep h h' (Parts i v) ∧ ∀ q, NP r' q → Parts i v q ∨ h.n ≤ q) := by
  obtain ⟨s1, s2⟩ := scan_back bs.length bs hb
  have s3 := scanF_mem bs.length bs hb
  have s4 : (bs.take (scanF bs.length bs).2).length = (scanF bs.length bs).2 := by
    rw [List.length_take]; have := scanF_le bs.length bs; omega
  refine (nOpen h i room bs hb safe v hd).mono fun x h' ⟨a', m', k', j', v2, pv2, e, n1, i1, ha, hm, hk', hj, hp, kp⟩ => ?_
  rw [s1, ← s4, s1] at n1
  refine ⟨⟨a', m', k', j', i, v2, pv2, _⟩, e, ⟨n1, NOk.all _ NOk.nil fun p hp => (s3 p hp).2, fun p hp => ⟨s2 p hp, (s3 p hp).2⟩⟩, rfl, kp, fun q hq => ?_⟩
  rcases hq with hq | hq | hq | hq | hq | hq | hq
  · right; simp only at hq; omega
  · right; simp only at hq; omega
  · right; simp only at hq; omega
  · right; simp only at hq; omega
  · exact .inl (.inl hq)
  · exact .inl (.inr (by rw [← i1]; exact hq))
  · exact .inr (hp q hq)
def selV (room ep : Int) (l : Pays) : V := if (nseal room ep l).2 = 0 then .imm (redoRL (nseal room ep l).1).2.length ((redoRL (nseal room ep l).1).2.flatMap celE) else .snil
theorem nbSealV {h : AHeap} {room : Int} {r : NR} {l : Pays} (d : NdB h room r l) (ep : Int) :
    SCalls Tryz.prog 15 [.ptr r.a 0, .int .i64 ep] h (fun x h' => x = .tuple [selV room ep l, .int .i64 (nseal room ep l).2] ∧ ∃ r', NdB h' room r' (nseal room ep l).1 ∧ NStep h h' r r') := by
  refine SCalls.cast ((nbSeal d ep).mono fun x h' ⟨rv, ex, hz, r', dn, st, ho⟩ => ?_)
  subst ex
  unfold selV
  by_cases h0 : (nseal room ep l).2 = 0
  · obtain ⟨out, o1, o2, o3, o4⟩ := ho h0
    have lk := like_all (nseal room ep l).1
    have hE : (redoL (nseal room ep l).1).2.1 = (redoL l).2.1 := by
      unfold nseal at h0 ⊢
      cases hs : selI (redoL l) ep with
      | some e => rfl
      | none =>
        rw [hs] at h0
        simp only at h0 ⊢
        obtain ⟨hm, hlt⟩ := sel_rng hs
        obtain ⟨q, rfl⟩ : ∃ q : Nat, ep = q := ⟨ep.toNat, by omega⟩
        by_cases hP : putBad room (l.flatMap frame) (payN (selA (q : Nat))) = 0
        · rw [if_pos hP]
          simp only
          rw [redoL_snoc, redo_seal _ q (by omega) hlt]
          simp [appS, appC, selA]
        · rw [if_neg hP] at h0
          exact absurd h0 hP
    have ho : out = (redoRL (nseal room ep l).1).2 := by
      refine lk.all dn.ok.nd (fun e he => (dn.ok.sm e he).2.2.2.2) (by rw [hE]; exact o1) o2
    rw [if_pos h0, ← ho]
    obtain ⟨h2, c, kc⟩ := Cast.own o3 (n := out.length) (rows_len celE_len _) (by decide)
    have dk : Keep h' h2 (isId rv) := kc
    refine ⟨_, h2, Cast.tuple (CastL.cons c (CastL.refl _ _)), rfl, r', dn.keep dk (fun q hq hh => (o4 q hh).2 hq), st.1, st.2.1, st.2.2.1.trans dk fun q hq hh => ?_, st.2.2.2⟩
    have := (o4 q hh).1
    omega
  · rw [if_neg h0, hz h0]
    exact ⟨_, _, Cast.refl _ _, rfl, r', dn, st⟩
theorem yWrite {h0 : AHeap} {room : Int} {r : NR} {l : Pays} (d : NdB h0 room r l) (t ep at_ : Int) (b : List Nat) (hb : ∀ x ∈ b, x < 256) (hbl : b.length ≤ 2 ^ 50) (h : AHeap) :
    Pure Tryz.prog 11 [.agg (yE room l t), .int .i64 ep, .int .i64 at_, .imm b.length (bytesV b)] h (.tuple [.agg (yE room (nw room ep at_ b l).1 t), .int .i64 (nw room ep at_ b l).2]) := by
  obtain ⟨l1, l2, l3, l4, l5⟩ := d.lens
  have := pWriteR room (l.flatMap frame) t (redoRL l) ep at_ b l1 (by omega) (like_all l).ri (by omega) (fun c hc => (l5 c hc).2.1) hb hbl h
  unfold writeV at this
  rw [wrR_eq (like_all l)] at this
  unfold nw
  cases hw : wrI (redoL l) ep at_ b with
  | some e => rw [hw] at this; exact this
  | none =>
    rw [hw] at this
    simp only at this ⊢
    unfold noteV at this
    by_cases hP : putBad room (l.flatMap frame) (payN ⟨1, ep, at_, b⟩) = 0
    · rw [if_pos hP] at this ⊢
      rw [yE_snoc] at this
      exact this
    · rw [if_neg hP] at this ⊢
      exact this
theorem ySeal {h0 : AHeap} {room : Int} {r : NR} {l : Pays} (d : NdB h0 room r l) (t ep : Int) (h : AHeap) :
    Pure Tryz.prog 16 [.agg (yE room l t), .int .i64 ep] h (.tuple [.agg (yE room (nseal room ep l).1 t), selV room ep l, .int .i64 (nseal room ep l).2]) := by
  obtain ⟨l1, l2, l3, l4, l5⟩ := d.lens
  have := pSealR room (l.flatMap frame) t (redoRL l) ep l1 (by omega) (like_all l).ri (by omega) h
  unfold sealV at this
  rw [selR_eq (like_all l)] at this
  unfold selV nseal
  cases hw : selI (redoL l) ep with
  | some e =>
    rw [hw] at this
    simp only at this ⊢
    have he : e ≠ 0 := by
      rintro rfl
      unfold selI at hw
      split at hw
      · cases hw
      split at hw <;> cases hw
    rw [if_neg he]
    exact this
  | none =>
    rw [hw] at this
    simp only at this ⊢
    by_cases hP : putBad room (l.flatMap frame) (payN (selA ep)) = 0
    · rw [if_pos hP] at this ⊢
      rw [yE_snoc, ← redoRL_snoc] at this
      exact this
    · rw [if_neg hP] at this ⊢
      simp only
      rw [if_neg hP]
      exact this
theorem yRead {h0 : AHeap} {room : Int} {r : NR} {l : Pays} (d : NdB h0 room r l) (t at_ : Int) (h : AHeap) :
    Pure Tryz.prog 13 [.agg (yE room l t), .int .i64 at_] h (.tuple [.agg (celE (readI (redoL l) at_).1), .int .i64 (readI (redoL l) at_).2]) := by
  obtain ⟨l1, l2, l3, l4, l5⟩ := d.lens
  have := pReadR room (l.flatMap frame) [] t (redoRL l) (by omega) at_ h
  unfold readRV at this
  unfold readI
  rw [(like_all l).find]
  cases hr : rfind (redoRL l).2 at_ with
  | some c => rw [hr] at this; exact this
  | none => rw [hr] at this; exact this
theorem yTail {h0 : AHeap} {room : Int} {r : NR} {l : Pays} (d : NdB h0 room r l) (t : Int) (h : AHeap) :
    Pure Tryz.prog 24 [.agg (yE room l t)] h (.int .i64 (topI ((redoL l).2.1.map (·.2.1)))) := by
  obtain ⟨l1, l2, l3, l4, l5⟩ := d.lens
  rw [tail_like (like_all l) d.ok]
  exact pTailR room (l.flatMap frame) [] t (redoRL l) (by omega) (fun c hc => (l5 c hc).1) h
theorem yCrash (room : Int) (s : List Nat) (keep turn : Int) (hs : s.length ≤ 2 ^ 29) (h : AHeap) :
    Pure Tryz.prog 19 [.agg (xE room (nI s) (nI [])), .int .i64 keep, .int .i64 turn] h (.agg (xE room (nI s) (nI []))) := by
  have := rCrash room (nI s) [] keep turn h (by rw [nI_len]; simp; omega)
  have e : leftM [] keep turn = [] := by unfold leftM; rw [List.take_nil]; exact torn_no (by simp)
  rw [e, List.append_nil] at this
  exact this
end Go.Proofs.YtilgpaibolollaaGreat.Pk
namespace Go.Proofs.YtilgpaibolollaaGreat.Pk
open Go Go.Proofs Go.Proofs.YtilgpaibolollaaGreat.Ab
set_option maxRecDepth 10000
set_option linter.unusedVariables false
set_option linter.unusedSimpArgs false
/-! ### What the law's loop needs -/
theorem NdB.kk {h h' : AHeap} {room : Int} {r : NR} {l : Pays} (d : NdB h room r l) (hk : Keep h h' none_ ∨ h' = h) : NdB h' room r l := by
  rcases hk with hk | rfl
  · exact d.keep hk fun _ _ h => h
  · exact d
theorem NStep.get' {h h' : AHeap} {r r' : NR} (st : NStep h h' r r') {z : Nat} (hz : z < h.n) (nz : ¬ NP r z) : h'.get z = h.get z ∧ ¬ NP r' z ∧ z < h'.n :=
  ⟨st.2.2.1.get z hz nz, fun hh => by rcases st.2.2.2 z hh with h1 | h1; exact nz h1; omega, Nat.lt_of_lt_of_le hz st.2.2.1.n⟩
theorem readI_okZ {s : NSt} (w : NOk s) (at_ : Int) : ∀ n ∈ (readI s at_).1.bytes, n < 256 := by
  unfold readI
  cases hg : kget s.2.1 at_ with
  | none => intro n hn; cases hn
  | some c => exact (kget_ok w hg).2.1
theorem xE_rn (room : Int) (s m : List Nat) : xE room (nI s) (nI m) = [.int .i64 room, .imm s.length (bytesV s), .imm m.length (bytesV m)] := by
  unfold xE
  rw [bV_nI, bV_nI, nI_len, nI_len]
def addM (room : Int) (s b : List Nat) : List Nat := if (s.length + b.length : Int) ≤ room then b else []
theorem addM_lt {room : Int} {s b : List Nat} (hs : (s.length : Int) ≤ room) : ((s ++ addM room s b).length : Int) ≤ room := by
  unfold addM
  split
  · rw [List.length_append]; omega
  · rw [List.append_nil]; exact hs
theorem addM_b {room : Int} {s b : List Nat} (h1 : ∀ x ∈ s, x < 256) (h2 : ∀ x ∈ b, x < 256) : ∀ x ∈ s ++ addM room s b, x < 256 := fun x hx => by
  unfold addM at hx
  split at hx
  · rcases List.mem_append.1 hx with hx | hx
    · exact h1 x hx
    · exact h2 x hx
  · rw [List.append_nil] at hx; exact h1 x hx
theorem nbAppend {h : AHeap} {room : Int} {r : NR} {l : Pays} (d : NdB h room r l) (b : List Nat) :
    SCalls Tryz.prog 20 [.ptr r.i 0, .imm b.length (bytesV b)] h (fun x h' => ∃ v' safe, IsDisk h' (.ptr r.i 0) room (nI (l.flatMap frame ++ addM room (l.flatMap frame) b)) safe r.i v' ∧ (∀ q, Parts r.i v' q → NP r q ∨ h.n ≤ q) ∧ Keep h h' (NP r)) := by
  have := dAppendImm h _ room _ _ r.i r.v d.disk (nI b)
  rw [nI_len, nI_bytes] at this
  refine this.mono fun x h' hp => ?_
  unfold addM
  rw [nI_len] at hp
  by_cases hc : ((l.flatMap frame).length + b.length : Int) ≤ room
  · rw [if_pos hc] at hp ⊢
    obtain ⟨_, v', e1, e2, e3⟩ := hp
    rw [nI_app]
    refine ⟨v', _, e1, fun q hq => ?_, e3.mono fun _ => Parts.np⟩
    rcases hq with hq | hq
    · exact .inl (Parts.np (.inl hq))
    · rcases e2 with e2 | e2
      · exact .inl (Parts.np (.inr (e2 ▸ hq)))
      · exact .inr (e2 q hq)
  · rw [if_neg hc] at hp ⊢
    obtain ⟨_, rfl⟩ := hp
    rw [List.append_nil]
    exact ⟨r.v, _, d.disk, fun q hq => .inl (Parts.np hq), Keep.refl _ _⟩
theorem yAppend (room : Int) (s b : List Nat) (hr : room ≤ 1048576) (hs : s.length ≤ 2 ^ 29) (hb : b.length ≤ 2 ^ 47) :
    ∃ e : Int, ∀ h, Pure Tryz.prog 21 [.agg (xE room (nI s) (nI [])), .imm b.length (bytesV b)] h (.tuple [.agg (xE room (nI s) (nI (addM room s b))), .int .i64 e]) := by
  have := fun h => rAppend room (nI s) [] (nI b) h hr (by rw [nI_len]; simp; omega) (by rw [nI_len]; exact hb)
  simp only [bV_nI, nI_len] at this
  unfold addM
  by_cases hc : (s.length + b.length : Int) ≤ room
  · rw [if_pos hc]
    exact ⟨0, fun h => by have := this h; rw [if_pos (by simpa using hc)] at this; exact this⟩
  · rw [if_neg hc]
    exact ⟨3, fun h => by have := this h; rw [if_neg (by simpa using hc)] at this; exact this⟩
theorem yOpenT (room : Int) (s m : List Nat) (hb : ∀ x ∈ s ++ m, x < 256) (hl : (s ++ m).length ≤ 2 ^ 29) :
    ∃ t, ∀ h, Pure Tryz.prog 9 [.agg (xE room (nI s) (nI m))] h (.agg (yE room (scanF (s ++ m).length (s ++ m)).1 t)) :=
  ⟨_, fun h => pNodeR room s m hb hl h⟩
theorem yOpenL {h0 : AHeap} {room : Int} {r : NR} {l : Pays} (d : NdB h0 room r l) : ∃ t, ∀ h, Pure Tryz.prog 9 [.agg (xE room (nI (l.flatMap frame)) (nI []))] h (.agg (yE room l t)) := by
  obtain ⟨l1, l2, l3, l4, l5⟩ := d.lens
  obtain ⟨t, ht⟩ := yOpenT room (l.flatMap frame) [] (by rw [List.append_nil]; exact l4) (by rw [List.append_nil]; omega)
  rw [List.append_nil, scan_all l fun p hp => (d.pl p hp).1] at ht
  exact ⟨t, ht⟩
theorem yCells {h0 : AHeap} {room : Int} {r : NR} {l : Pays} {ep : Int} (d : NdB h0 room r (nseal room ep l).1) (h : AHeap) : Pure Tryz.prog 17 [selV room ep l, selV room ep l] h (.bool true) := by
  obtain ⟨l1, l2, l3, l4, l5⟩ := d.lens
  unfold selV
  split
  · exact pCellsT _ (by omega) (fun c hc => (l5 c hc).2.1) h
  · exact Pure.args (CastL.cons (Cast.nil0 h) (CastL.cons (Cast.nil0 h) (CastL.refl _ _))) (pCellsT [] (by decide) (fun c hc => by cases hc) h)
theorem ySame {s : NSt} (w : NOk s) (at_ : Int) (h : AHeap) : Pure Tryz.prog 14 [.agg (celE (readI s at_).1), .agg (celE (readI s at_).1)] h (.bool true) := by
  have := pSameL (readI s at_).1 (readI s at_).1 (readI_okZ w at_) (readI_okZ w at_) h
  simpa using this
structure DeedS where
  kind : Int
  epoch : Int
  at_ : Int
  keep : Int
  turn : Int
  b : List Nat
def dsE (d : DeedS) : List V := [.int .i64 d.kind, .int .i64 d.epoch, .int .i64 d.at_, .int .i64 d.keep, .int .i64 d.turn, .imm d.b.length (bytesV d.b)]
theorem dsE_len (d : DeedS) : (dsE d).length = 6 := rfl
theorem ds_ix {l : List DeedS} {k : Nat} (hk : k < l.length) : aIndexAddr Tryz.prog 23 (.imm l.length (l.flatMap dsE)) (.int .i64 (k : Int)) = some (.at (dsE l[k] ++ (l.drop (k + 1)).flatMap dsE)) := rows_ix dsE_len hk ss_23
theorem ds_ld (c : DeedS) (r : List V) : (if 6 ≤ (dsE c ++ r).length then some (V.agg (List.take 6 (dsE c ++ r))) else none) = some (.agg (dsE c)) := by rw [if_pos (by rw [List.length_append, dsE_len]; omega)]; rfl
theorem ds_store (c : DeedS) : setC (some 6) (AObj.cells [V.int .i64 0, V.int .i64 0, V.int .i64 0, V.int .i64 0, V.int .i64 0, V.snil] 43 none) 0 (dsE c) = some (.cells (dsE c) 43 none) := rfl
theorem ds_l0 (c : DeedS) : loadGo (some none) (some (dsE c)) = some (.int .i64 c.kind) := rfl
theorem ds_d1 (c : DeedS) : dropC (AObj.cells (dsE c) 43 none) 1 = some [.int .i64 c.epoch, .int .i64 c.at_, .int .i64 c.keep, .int .i64 c.turn, .imm c.b.length (bytesV c.b)] := rfl
theorem ds_d2 (c : DeedS) : dropC (AObj.cells (dsE c) 43 none) 2 = some [.int .i64 c.at_, .int .i64 c.keep, .int .i64 c.turn, .imm c.b.length (bytesV c.b)] := rfl
theorem ds_d3 (c : DeedS) : dropC (AObj.cells (dsE c) 43 none) 3 = some [.int .i64 c.keep, .int .i64 c.turn, .imm c.b.length (bytesV c.b)] := rfl
theorem ds_d4 (c : DeedS) : dropC (AObj.cells (dsE c) 43 none) 4 = some [.int .i64 c.turn, .imm c.b.length (bytesV c.b)] := rfl
theorem ds_d5 (c : DeedS) : dropC (AObj.cells (dsE c) 43 none) 5 = some [.imm c.b.length (bytesV c.b)] := rfl
theorem yE_l6b (room : Int) (l : Pays) (t : Int) : (if 6 ≤ (yE room l t).length then some (V.agg (List.take 6 (yE room l t))) else none) = some (.agg (yE room l t)) := rfl
theorem yE_s0 (room : Int) (l : Pays) (t : Int) : setC (some 6) (AObj.cells [.int .i64 0, .snil, .snil, .int .i64 0, .int .i64 0, .snil] 40 none) 0 (yE room l t) = some (.cells (yE room l t) 40 none) := rfl
theorem yE_s6 (room : Int) (l l' : Pays) (t t' : Int) : setC (some 6) (AObj.cells (yE room l t) 40 none) 0 (yE room l' t') = some (.cells (yE room l' t') 40 none) := rfl
theorem yE_e4 (room : Int) (l : Pays) (t : Int) : dropC (AObj.cells (yE room l t) 40 none) 4 = some [.int .i64 (redoL l).1, .imm (redoRL l).2.length ((redoRL l).2.flatMap celE)] := by rw [(like_all l).ep]; rfl
theorem yE_l3 (room : Int) (l : Pays) (t : Int) : (if 3 ≤ (yE room l t).length then some (V.agg (List.take 3 (yE room l t))) else none) = some (.agg (xE room (nI (l.flatMap frame)) (nI []))) := by rw [xE_rn]; rfl
theorem cA_s (c : Cel) : setC (some 3) (AObj.cells [.int .i64 0, .int .i64 0, .snil] 48 none) 0 (celE c) = some (.cells (celE c) 48 none) := rfl
theorem cR_s (c : Cel) : setC (some 3) (AObj.cells [.int .i64 0, .int .i64 0, .snil] 51 none) 0 (celE c) = some (.cells (celE c) 51 none) := rfl
theorem c_l3b (c : Cel) : (if 3 ≤ (celE c).length then some (V.agg (List.take 3 (celE c))) else none) = some (.agg (celE c)) := rfl
theorem xE_s (room : Int) (s m : List Nat) : setC (some 3) (AObj.cells [.int .i64 0, .snil, .snil] 31 none) 0 (xE room (nI s) (nI m)) = some (.cells (xE room (nI s) (nI m)) 31 none) := rfl
theorem xE_l3b (room : Int) (s m : List Nat) : (if 3 ≤ (xE room (nI s) (nI m)).length then some (V.agg (List.take 3 (xE room (nI s) (nI m)))) else none) = some (.agg (xE room (nI s) (nI m))) := rfl
end Go.Proofs.YtilgpaibolollaaGreat.Pk
