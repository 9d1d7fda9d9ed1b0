/-
  What functions of the program do, told of abstract states. Conditions: as each theorem says.
-/
import Derived.Test.YtilgpaibolollaaGreatNi
import Derived.Test.YtilgpaibolollaaGreatAcD
namespace Go.Proofs.YtilgpaibolollaaGreat.Pk
open Go Go.Proofs Go.Proofs.YtilgpaibolollaaGreat.Ab
set_option maxRecDepth 10000
set_option linter.unusedVariables false
set_option linter.unusedSimpArgs false
/-! ### Layer 10 of the reference: write -/
theorem updN_self {α : Type} (f : Nat → α) (k : Nat) : updN f k (f k) = f := by
  funext x; unfold updN; split
  · rename_i h; rw [h]
  · rfl
theorem allN_upd (f : Pays → Pays × Int) (rc : Nat → Bool) (i : Nat) (nd : Nds) (h : rc i = true) : updN (allN f rc i nd) i (f (nd i)).1 = allN f rc (i + 1) nd := by
  rw [allN_succ, if_pos h]; rfl
theorem lgE_s4 (room : Int) (n n' : Nat) (nd nd' : Nds) (ts ts' : Nat → Int) (op op' : Bool) (ep ep' : Int) (row row' : List (List Nat)) : setC (some 4) (AObj.cells (lgE room n nd ts op ep row) 75 none) 0 (lgE room n' nd' ts' op' ep' row') = some (.cells (lgE room n' nd' ts' op' ep' row') 75 none) := rfl
theorem lgE_s0 (room : Int) (n : Nat) (nd : Nds) (ts : Nat → Int) (op : Bool) (ep : Int) (row : List (List Nat)) : setC (some 4) (AObj.cells [.snil, .bool false, .int .i64 0, .snil] 75 none) 0 (lgE room n nd ts op ep row) = some (.cells (lgE room n nd ts op ep row) 75 none) := rfl
theorem lgE_l4b (room : Int) (n : Nat) (nd : Nds) (ts : Nat → Int) (op : Bool) (ep : Int) (row : List (List Nat)) : (if 4 ≤ (lgE room n nd ts op ep row).length then some (V.agg (List.take 4 (lgE room n nd ts op ep row))) else none) = some (.agg (lgE room n nd ts op ep row)) := rfl
theorem lgE_l0 (room : Int) (n : Nat) (nd : Nds) (ts : Nat → Int) (op : Bool) (ep : Int) (row : List (List Nat)) : loadGo (some none) (some (lgE room n nd ts op ep row)) = some (.imm n (ndsE room n nd ts)) := rfl
theorem lgE_d1 (room : Int) (n : Nat) (nd : Nds) (ts : Nat → Int) (op : Bool) (ep : Int) (row : List (List Nat)) : dropC (AObj.cells (lgE room n nd ts op ep row) 75 none) 1 = some [.bool op, .int .i64 ep, .imm row.length (rowV row)] := rfl
theorem lgE_d2 (room : Int) (n : Nat) (nd : Nds) (ts : Nat → Int) (op : Bool) (ep : Int) (row : List (List Nat)) : dropC (AObj.cells (lgE room n nd ts op ep row) 75 none) 2 = some [.int .i64 ep, .imm row.length (rowV row)] := rfl
theorem lgE_d3 (room : Int) (n : Nat) (nd : Nds) (ts : Nat → Int) (op : Bool) (ep : Int) (row : List (List Nat)) : dropC (AObj.cells (lgE room n nd ts op ep row) 75 none) 3 = some [.imm row.length (rowV row)] := rfl
theorem yE_lab (room : Int) (l : Pays) (t : Int) (r : List V) : (if 6 ≤ (yE room l t ++ r).length then some (V.agg (List.take 6 (yE room l t ++ r))) else none) = some (.agg (yE room l t)) := by
  rw [if_pos (by rw [List.length_append, yE_len]; omega)]; rfl
theorem yE_l6d (room : Int) (l : Pays) (t : Int) : (if 6 ≤ (yE room l t).length then some (V.agg (List.take 6 (yE room l t))) else none) = some (.agg (yE room l t)) := rfl
theorem yE_s0d (room : Int) (l : Pays) (t : Int) : setC (some 6) (AObj.cells [.int .i64 0, .snil, .snil, .int .i64 0, .int .i64 0, .snil] 40 none) 0 (yE room l t) = some (.cells (yE room l t) 40 none) := rfl
set_option maxHeartbeats 2000000 in
theorem pWrite10 (room : Int) (n : Nat) (nd : Nds) (ts : Nat → Int) (op : Bool) (ep : Int) (row : List (List Nat)) (hn : n ≤ 1000) (ok : ∀ q, q < n → Okl room (nd q)) (at_ : Int) (b : List Nat) (hb : ∀ x ∈ b, x < 256) (hbl : b.length ≤ 2 ^ 50) (reach : List Bool) (h : AHeap) :
    Pure Tryz.prog 65 [.agg (lgE room n nd ts op ep row), .int .i64 at_, .imm b.length (bytesV b), .imm reach.length (boV reach)] h (.tuple [.agg (lgE room n (wrL room n ep at_ b (rch reach) nd).1 ts op ep row), .bool (wrL room n ep at_ b (rch reach) nd).2]) := by
  refine Pure.val (Clo.tuple (CloL.cons (Clo.agg (lgE_clo _ _ _ _ _ _ _)) (CloL.cons (Clo.bool _) CloL.nil))) ?_
  refine SCalls.enterI (c := _) Tryz.func65 rfl (by kernel_rfl) (by simp) ?_
  have D2 := lgE_d2
  simp only [bW, zc_75]
  have k0 : Keep h ((h.push (.cells (lgE room n nd ts op ep row) 75 none)).push (.cells [.snil, .bool false, .int .i64 0, .snil] 75 none)) none_ := (Keep.push _ _ _).trans (Keep.push _ _ _) (fun _ _ h => h)
  have gL : ((h.push (.cells (lgE room n nd ts op ep row) 75 none)).push (.cells [.snil, .bool false, .int .i64 0, .snil] 75 none)).get h.n = .cells (lgE room n nd ts op ep row) 75 none := get_p2 _ _ _
  have gZ : ((h.push (.cells (lgE room n nd ts op ep row) 75 none)).push (.cells [.snil, .bool false, .int .i64 0, .snil] 75 none)).get (h.n + 1) = .cells [.snil, .bool false, .int .i64 0, .snil] 75 none := get_push_new
  have n0 : ((h.push (.cells (lgE room n nd ts op ep row) 75 none)).push (.cells [.snil, .bool false, .int .i64 0, .snil] 75 none)).n = h.n + 2 := rfl
  generalize (h.push (.cells (lgE room n nd ts op ep row) 75 none)).push (.cells [.snil, .bool false, .int .i64 0, .snil] 75 none) = H at k0 gL gZ n0 ⊢
  unfold wrL
  refine SWp.loopG (α := Nat) (fun i f h' => f 1 = .int .i64 at_ ∧ f 2 = .imm b.length (bytesV b) ∧ f 3 = .imm reach.length (boV reach) ∧ f 4 = .ptr h.n 0 ∧ f 8 = .ptr (h.n + 1) 0 ∧ f 10 = .int .i64 (cntN (fineN (nw room ep at_ b) (rch reach) nd) i : Nat) ∧ f 11 = .int .i64 (i : Nat) ∧ i ≤ n ∧
    h'.get h.n = .cells (lgE room n (allN (nw room ep at_ b) (rch reach) i nd) ts op ep row) 75 none ∧ Keep H h' (fun q => q = h.n)) (fun i => n - i) 0
    ⟨rfl, rfl, rfl, rfl, rfl, rfl, rfl, Nat.zero_le _, by rw [allN_zero]; exact gL, Keep.refl _ _⟩ ?_
  rintro i f h1 ⟨f1, f2, f3, f4, f8, f10, f11, hi, g1, k1⟩
  refine wpI_sound (by kernel_rfl) ?_
  have hcn := cntN_le (fineN (nw room ep at_ b) (rch reach) nd) i
  have n1 := k1.n
  by_cases hlt : i < n
  · have d1 : decide ((i : Int) < ((n : Nat) : Int)) = true := by simp; omega
    have hi1 : IntKind.i64.wrap ((i : Int) + 1) = ((i + 1 : Nat) : Int) := by rw [Go.IntWalk.i64_in _ (by omega)]; rfl
    simp only [bW, Nat.reduceEqDiff, ft_75_0, kt_72, lt_72, f3, f4, f11, g1, lgE_l0, d1]
    refine callI_pure cal69 (pReached reach i _) ?_
    by_cases hrc : rch reach i = true
    · rw [hrc]
      obtain ⟨rr, hx⟩ := ndsE_ix room (allN (nw room ep at_ b) (rch reach) i nd) ts hlt (kk := .i64)
      rw [allN_at] at hx
      have hW := fun h' => yWriteO (ok i hlt) (ts i) ep at_ b hb hbl h'
      have hup := allN_upd (nw room ep at_ b) (rch reach) i nd hrc
      have hfine : fineN (nw room ep at_ b) (rch reach) nd i = ((nw room ep at_ b (nd i)).2 == 0) := by unfold fineN; rw [hrc]; rfl
      have hcs : cntN (fineN (nw room ep at_ b) (rch reach) nd) (i + 1) = cntN (fineN (nw room ep at_ b) (rch reach) nd) i + if ((nw room ep at_ b (nd i)).2 == 0) = true then 1 else 0 := by rw [cntN, hfine]
      simp only [bW, Nat.reduceEqDiff]
      refine SWp.drawnS none_ [13, 14] (.q 0 (.q 1 (.q 2 (.q 3 (.q 4 (.q 5 (.q 6 (.q 7 (.q 8 (.c 9 (.q 10 (.q 11 (.q 12 (.e 13 (.e 14 (.q 15 .done) .stop) .stop)))))))))))))) (by kernel_rfl) (by kernel_rfl) (by kernel_rfl) ?_
      simp only [bW, bS, Nat.reduceEqDiff, ft_75_0, ft_75_2, lt_3, lt_40, lt_72, f1, f2, f4, f11, g1, lgE_l0, D2, hx, yE_lab]
      refine siI_c rfl rfl rfl (fun h' _ => hW h') ?_
      simp only [bW, bS, Nat.reduceEqDiff, lt_75, zc_40, zt_40, f4, yE_s0d]
      have kN : Keep h1 (h1.push (.cells (yE room (nw room ep at_ b (nd i)).1 (ts i)) 40 none)) none_ := Keep.push _ _ _
      have gN : (h1.push (.cells (yE room (nw room ep at_ b (nd i)).1 (ts i)) 40 none)).get h1.n = .cells (yE room (nw room ep at_ b (nd i)).1 (ts i)) 40 none := get_push_new
      have g2 := (kN.get h.n (by omega) (fun hh => hh)).trans g1
      have kk : Keep H (h1.push (.cells (yE room (nw room ep at_ b (nd i)).1 (ts i)) 40 none)) (fun q => q = h.n) := k1.trans (kN.mono fun _ h => h.elim) fun _ _ h => h
      generalize h1.push (.cells (yE room (nw room ep at_ b (nd i)).1 (ts i)) 40 none) = h2 at kN gN g2 kk ⊢
      simp only [bW, Nat.reduceEqDiff, lt_40, f11, g2, gN, lgE_l4b, yE_l6d]
      refine callI_pure cal70 (pWith10 room n (allN (nw room ep at_ b) (rch reach) i nd) ts op ep row (by omega) i hlt (nw room ep at_ b (nd i)).1 (ts i) _) ?_
      rw [hup, updN_self]
      have hfin : ∀ o, Keep H (h2.set h.n o) (fun q => q = h.n) := fun o => kk.trans (Keep.set _ _ _) fun _ _ h => h
      by_cases he : (nw room ep at_ b (nd i)).2 = 0
      · have b1 : ((nw room ep at_ b (nd i)).2 == 0) = true := by simpa using he
        have hw1 : IntKind.i64.wrap (((cntN (fineN (nw room ep at_ b) (rch reach) nd) i : Nat) : Int) + 1) = ((cntN (fineN (nw room ep at_ b) (rch reach) nd) i + 1 : Nat) : Int) := by rw [Go.IntWalk.i64_in _ (by omega)]; rfl
        rw [b1, if_pos rfl] at hcs
        simp only [bW, Nat.reduceEqDiff, zt_75, f4, f10, f11, g2, lgE_s4, b1, hw1, hi1]
        exact hid_mk ⟨i + 1, ⟨f1, f2, f3, f4, f8, by rw [hcs]; rfl, rfl, hlt, get_set_same, hfin _⟩, by omega⟩
      · have b1 : ((nw room ep at_ b (nd i)).2 == 0) = false := by simpa using he
        rw [b1, if_neg (by simp), Nat.add_zero] at hcs
        simp only [bW, Nat.reduceEqDiff, zt_75, f4, f11, g2, lgE_s4, b1, hi1]
        exact hid_mk ⟨i + 1, ⟨f1, f2, f3, f4, f8, by rw [hcs]; exact f10, rfl, hlt, get_set_same, hfin _⟩, by omega⟩
    · have hrc' : rch reach i = false := by simpa using hrc
      rw [hrc']
      simp only [bW, Nat.reduceEqDiff, f11, hi1]
      exact hid_mk ⟨i + 1, ⟨f1, f2, f3, f4, f8, by rw [show cntN (fineN (nw room ep at_ b) (rch reach) nd) (i + 1) = cntN (fineN (nw room ep at_ b) (rch reach) nd) i by rw [cntN, if_neg (by unfold fineN; rw [hrc']; simp)]; rfl]; exact f10, rfl, hlt, by rw [allN_succ, if_neg hrc]; exact g1, k1⟩, by omega⟩
  · have d1 : decide ((i : Int) < ((n : Nat) : Int)) = false := by simp; omega
    obtain rfl : i = n := by omega
    have z1 := (k1.get (h.n + 1) (by omega) (by omega)).trans gZ
    simp only [bW, Nat.reduceEqDiff, ft_75_0, kt_72, lt_72, f4, f11, g1, lgE_l0, d1]
    refine SWp.drawnS (fun x => x = h.n + 1) [7] (.q 0 (.q 1 (.q 2 (.q 3 (.q 4 (.c 5 (.q 6 (.e 7 (.q 8 .done) .stop)))))))) (by kernel_rfl) (by kernel_rfl) (by kernel_rfl) ?_
    have hne : (h.n = h.n + 1) = False := eq_false (by omega)
    simp only [bW, bS, bM, Nat.reduceEqDiff, ft_75_0, kt_72, lt_72, lt_75, f4, f10, g1, lgE_l0, lgE_l4b, hne]
    refine siI_c rfl rfl rfl (fun h' _ => pNeed9 i hn h') ?_
    have hdec : decide (((i / 2 + 1 : Nat) : Int) ≤ ((cntN (fineN (nw room ep at_ b) (rch reach) nd) i : Nat) : Int)) = decide (i / 2 + 1 ≤ cntN (fineN (nw room ep at_ b) (rch reach) nd) i) := by rw [Bool.eq_iff_iff]; simp; omega
    simp only [bW, bS, bM, Nat.reduceEqDiff, lt_75, zt_75, f8, lgE_l4b, z1, lgE_s0, hdec, retA_ret, Tryz.results65, resultsC_2, resultA_tmp, resultA_cell, res2_some]
    trace_state
    exact ⟨(Keep.set _ _ _).mono fun x h => h, hid_mk ⟨rfl, ((k0.trans k1 fun x hx hh => by omega).setNew (by omega) _)⟩⟩
end Go.Proofs.YtilgpaibolollaaGreat.Pk
namespace Go.Proofs.YtilgpaibolollaaGreat.Pk
open Go Go.Proofs Go.Proofs.YtilgpaibolollaaGreat.Ab
set_option maxRecDepth 10000
set_option linter.unusedVariables false
set_option linter.unusedSimpArgs false
/-! ### Layer 10 of the reference: Crash, Lose, Append -/
theorem xE_rnS (room : Int) (s m : List Nat) : xE room (nI s) (nI m) = [.int .i64 room, .imm s.length (bytesV s), .imm m.length (bytesV m)] := by
  unfold xE
  rw [bV_nI, bV_nI, nI_len, nI_len]
theorem yE_l3c (room : Int) (l : Pays) (t : Int) (r : List V) : (if 3 ≤ (yE room l t ++ r).length then some (V.agg (List.take 3 (yE room l t ++ r))) else none) = some (.agg (xE room (nI (l.flatMap frame)) (nI []))) := by
  rw [if_pos (by rw [List.length_append, yE_len]; omega), xE_rnS]; rfl
theorem pCrash10 (room : Int) (n : Nat) (nd : Nds) (ts : Nat → Int) (op : Bool) (ep : Int) (row : List (List Nat)) (hn : n ≤ 1000) (q : Nat) (hq : q < n) (ok : Okl room (nd q)) (keep turn : Int) :
    ∃ t, ∀ h, Pure Tryz.prog 33 [.agg (lgE room n nd ts op ep row), .int .i64 (q : Nat), .int .i64 keep, .int .i64 turn] h (.tuple [.agg (lgE room n nd (updN ts q t) op ep row), .int .i64 0]) := by
  obtain ⟨t, hO⟩ := yOpenLO ok
  obtain ⟨l1, l2, l3, l4, l5⟩ := ok.lens
  refine ⟨t, fun h => Pure.val (Clo.tuple (CloL.cons (Clo.agg (lgE_clo _ _ _ _ _ _ _)) (CloL.cons (Clo.int _ _) CloL.nil))) ?_⟩
  refine SCalls.enterI (c := _) Tryz.func33 rfl (by kernel_rfl) (by simp) ?_
  simp only [bW, Nat.reduceEqDiff, zc_75]
  have k0 : Keep h ((h.push (.cells (lgE room n nd ts op ep row) 75 none)).push (.cells [.snil, .bool false, .int .i64 0, .snil] 75 none)) none_ := (Keep.push _ _ _).trans (Keep.push _ _ _) (fun _ _ h => h)
  have gL : ((h.push (.cells (lgE room n nd ts op ep row) 75 none)).push (.cells [.snil, .bool false, .int .i64 0, .snil] 75 none)).get h.n = .cells (lgE room n nd ts op ep row) 75 none := get_p2 _ _ _
  have gZ : ((h.push (.cells (lgE room n nd ts op ep row) 75 none)).push (.cells [.snil, .bool false, .int .i64 0, .snil] 75 none)).get (h.n + 1) = .cells [.snil, .bool false, .int .i64 0, .snil] 75 none := get_push_new
  have n0 : ((h.push (.cells (lgE room n nd ts op ep row) 75 none)).push (.cells [.snil, .bool false, .int .i64 0, .snil] 75 none)).n = h.n + 2 := rfl
  generalize (h.push (.cells (lgE room n nd ts op ep row) 75 none)).push (.cells [.snil, .bool false, .int .i64 0, .snil] 75 none) = H at k0 gL gZ n0 ⊢
  have hne : (h.n = h.n + 1) = False := eq_false (by omega)
  have D1 := lgE_d1
  have D2 := lgE_d2
  have D3 := lgE_d3
  have d1 : decide ((q : Int) < 0) = false := by simp
  have d2 : decide ((n : Int) ≤ (q : Int)) = false := by simp; omega
  obtain ⟨rr, hx⟩ := ndsE_ix room nd ts hq (kk := .i64)
  have hC := fun h => yCrash room ((nd q).flatMap frame) keep turn (by omega) h
  have hW := fun h => pWith10 room n nd ts op ep row (by omega) q hq (nd q) t h
  rw [updN_self] at hW
  simp only [bW, Nat.reduceEqDiff, ft_75_0, kt_72, lt_72, gL, lgE_l0, d1, d2]
  refine SWp.drawnS (fun x => x = h.n + 1) [14] (.q 0 (.q 1 (.q 2 (.q 3 (.q 4 (.q 5 (.q 6 (.q 7 (.q 8 (.q 9 (.q 10 (.c 11 (.c 12 (.c 13 (.a 14 (.q 15 .done)))))))))))))))) (by kernel_rfl) (by kernel_rfl) (by kernel_rfl) ?_
  simp only [bW, bS, bM, Nat.reduceEqDiff, ft_37_0, ft_40_0, ft_75_0, lt_31, lt_72, lt_75, gL, lgE_l4b, lgE_l0, hx, yE_l3c, hne]
  refine siI_c rfl rfl rfl (fun h' _ => hC h') ?_
  simp only [bS]
  refine siI_c rfl rfl rfl (fun h' _ => hO h') ?_
  simp only [bS]
  refine siI_c rfl rfl rfl (fun h' _ => hW h') ?_
  simp only [bW, bS, Nat.reduceEqDiff, lt_75, zt_75, gZ, lgE_l4b, lgE_s0, retA_ret, Tryz.results33, resultsC_2, resultA_tmp, resultA_cell, res2_some]
  exact hid_mk ⟨rfl, k0.setNew (by omega) _⟩
theorem pCrash10No (room : Int) (n : Nat) (nd : Nds) (ts : Nat → Int) (op : Bool) (ep : Int) (row : List (List Nat)) (hn : n ≤ 1000) (q : Int) (hq : q < 0 ∨ (n : Int) ≤ q) (keep turn : Int) (h : AHeap) :
    Pure Tryz.prog 33 [.agg (lgE room n nd ts op ep row), .int .i64 q, .int .i64 keep, .int .i64 turn] h (.tuple [.agg (lgE room n nd ts op ep row), .int .i64 1]) := by
  refine Pure.val (Clo.tuple (CloL.cons (Clo.agg (lgE_clo _ _ _ _ _ _ _)) (CloL.cons (Clo.int _ _) CloL.nil))) ?_
  refine SCalls.enterI (c := _) Tryz.func33 rfl (by kernel_rfl) (by simp) ?_
  simp only [bW, Nat.reduceEqDiff, zc_75]
  have k0 : Keep h ((h.push (.cells (lgE room n nd ts op ep row) 75 none)).push (.cells [.snil, .bool false, .int .i64 0, .snil] 75 none)) none_ := (Keep.push _ _ _).trans (Keep.push _ _ _) (fun _ _ h => h)
  have gL : ((h.push (.cells (lgE room n nd ts op ep row) 75 none)).push (.cells [.snil, .bool false, .int .i64 0, .snil] 75 none)).get h.n = .cells (lgE room n nd ts op ep row) 75 none := get_p2 _ _ _
  have gZ : ((h.push (.cells (lgE room n nd ts op ep row) 75 none)).push (.cells [.snil, .bool false, .int .i64 0, .snil] 75 none)).get (h.n + 1) = .cells [.snil, .bool false, .int .i64 0, .snil] 75 none := get_push_new
  have n0 : ((h.push (.cells (lgE room n nd ts op ep row) 75 none)).push (.cells [.snil, .bool false, .int .i64 0, .snil] 75 none)).n = h.n + 2 := rfl
  generalize (h.push (.cells (lgE room n nd ts op ep row) 75 none)).push (.cells [.snil, .bool false, .int .i64 0, .snil] 75 none) = H at k0 gL gZ n0 ⊢
  have hne : (h.n = h.n + 1) = False := eq_false (by omega)
  have D1 := lgE_d1
  have D2 := lgE_d2
  have D3 := lgE_d3
  by_cases h1 : q < 0
  · have d1 : decide (q < 0) = true := by simpa using h1
    simp only [bW, Nat.reduceEqDiff, lt_75, zt_75, gL, gZ, lgE_l4b, lgE_s0, d1, retA_ret, Tryz.results33, resultsC_2, resultA_tmp, resultA_cell, res2_some]
    exact hid_mk ⟨rfl, k0.setNew (by omega) _⟩
  · have d1 : decide (q < 0) = false := by simpa using h1
    have d2 : decide ((n : Int) ≤ q) = true := by simp; omega
    simp only [bW, Nat.reduceEqDiff, ft_75_0, kt_72, lt_72, lt_75, zt_75, gL, gZ, lgE_l4b, lgE_s0, lgE_l0, d1, d2, retA_ret, Tryz.results33, resultsC_2, resultA_tmp, resultA_cell, res2_some]
    exact hid_mk ⟨rfl, k0.setNew (by omega) _⟩
theorem pLose10 (room : Int) (n : Nat) (nd : Nds) (ts : Nat → Int) (op : Bool) (ep : Int) (row : List (List Nat)) (hn : n ≤ 1000) (q : Nat) (hq : q < n) (ok : Okl room (nd q)) (hr : 0 ≤ room) :
    ∃ t, ∀ h, Pure Tryz.prog 35 [.agg (lgE room n nd ts op ep row), .int .i64 (q : Nat)] h (.tuple [.agg (lgE room n (updN nd q []) (updN ts q t) op ep row), .int .i64 0]) := by
  obtain ⟨t, hO⟩ := yOpenLO (Okl.nil hr ok.r1)
  obtain ⟨l1, l2, l3, l4, l5⟩ := ok.lens
  refine ⟨t, fun h => Pure.val (Clo.tuple (CloL.cons (Clo.agg (lgE_clo _ _ _ _ _ _ _)) (CloL.cons (Clo.int _ _) CloL.nil))) ?_⟩
  refine SCalls.enterI (c := _) Tryz.func35 rfl (by kernel_rfl) (by simp) ?_
  simp only [bW, Nat.reduceEqDiff, zc_75]
  have k0 : Keep h ((h.push (.cells (lgE room n nd ts op ep row) 75 none)).push (.cells [.snil, .bool false, .int .i64 0, .snil] 75 none)) none_ := (Keep.push _ _ _).trans (Keep.push _ _ _) (fun _ _ h => h)
  have gL : ((h.push (.cells (lgE room n nd ts op ep row) 75 none)).push (.cells [.snil, .bool false, .int .i64 0, .snil] 75 none)).get h.n = .cells (lgE room n nd ts op ep row) 75 none := get_p2 _ _ _
  have gZ : ((h.push (.cells (lgE room n nd ts op ep row) 75 none)).push (.cells [.snil, .bool false, .int .i64 0, .snil] 75 none)).get (h.n + 1) = .cells [.snil, .bool false, .int .i64 0, .snil] 75 none := get_push_new
  have n0 : ((h.push (.cells (lgE room n nd ts op ep row) 75 none)).push (.cells [.snil, .bool false, .int .i64 0, .snil] 75 none)).n = h.n + 2 := rfl
  generalize (h.push (.cells (lgE room n nd ts op ep row) 75 none)).push (.cells [.snil, .bool false, .int .i64 0, .snil] 75 none) = H at k0 gL gZ n0 ⊢
  have hne : (h.n = h.n + 1) = False := eq_false (by omega)
  have D1 := lgE_d1
  have D2 := lgE_d2
  have D3 := lgE_d3
  have d1 : decide ((q : Int) < 0) = false := by simp
  have d2 : decide ((n : Int) ≤ (q : Int)) = false := by simp; omega
  obtain ⟨rr, hx⟩ := ndsE_ix room nd ts hq (kk := .i64)
  have hC := rCut room (nI ((nd q).flatMap frame)) (nI []) 0 H (by rw [nI_len]; have : (nI []).length = 0 := rfl; omega)
  rw [if_pos ⟨by omega, by omega⟩] at hC
  have e1 : xE room ((nI ((nd q).flatMap frame)).take (0 : Int).toNat) ((nI []).take ((0 : Int).toNat - (nI ((nd q).flatMap frame)).length)) = xE room (nI (([] : Pays).flatMap frame)) (nI []) := by
    rw [show (0 : Int).toNat = 0 from rfl, List.take_zero, Nat.zero_sub, List.take_zero]; rfl
  rw [e1] at hC
  have hW := fun h => pWith10 room n nd ts op ep row (by omega) q hq [] t h
  simp only [bW, Nat.reduceEqDiff, ft_37_0, ft_40_0, ft_75_0, kt_72, lt_31, lt_72, gL, lgE_l0, d1, d2, hx, yE_l3c]
  refine callI_pure cal78 hC ?_
  have cX : ∀ l : Pays, (V.agg (xE room (nI (l.flatMap frame)) (nI []))).cells = some (xE room (nI (l.flatMap frame)) (nI [])) := fun l => rfl
  have sX : ∀ l : Pays, setC (some 3) (AObj.cells [.int .i64 0, .snil, .snil] 31 none) 0 (xE room (nI (l.flatMap frame)) (nI [])) = some (.cells (xE room (nI (l.flatMap frame)) (nI [])) 31 none) := fun l => rfl
  have lX : ∀ l : Pays, loadGo (some (some 3)) (some (xE room (nI (l.flatMap frame)) (nI []))) = some (.agg (xE room (nI (l.flatMap frame)) (nI []))) := fun l => rfl
  have lXb : ∀ l : Pays, (if 3 ≤ (xE room (nI (l.flatMap frame)) (nI [])).length then some (V.agg (List.take 3 (xE room (nI (l.flatMap frame)) (nI [])))) else none) = some (.agg (xE room (nI (l.flatMap frame)) (nI []))) := fun l => rfl
  have kX : Keep H (H.push (.cells (xE room (nI (([] : Pays).flatMap frame)) (nI [])) 31 none)) none_ := Keep.push _ _ _
  have gX : (H.push (.cells (xE room (nI (([] : Pays).flatMap frame)) (nI [])) 31 none)).get H.n = .cells (xE room (nI (([] : Pays).flatMap frame)) (nI [])) 31 none := get_push_new
  have gL := (kX.get h.n (by omega) (fun h => h)).trans gL
  have gZ := (kX.get (h.n + 1) (by omega) (fun h => h)).trans gZ
  have kk := k0.trans kX fun _ _ h => h
  simp only [bW, Nat.reduceEqDiff, zc_31, zt_31, cX, sX]
  generalize H.push (.cells (xE room (nI (([] : Pays).flatMap frame)) (nI [])) 31 none) = H2 at kX gX gL gZ kk ⊢
  have hne2 : (H.n = h.n + 1) = False := eq_false (by omega)
  refine SWp.drawnS (fun x => x = h.n + 1) [5] (.q 0 (.q 1 (.q 2 (.c 3 (.c 4 (.a 5 (.q 6 .done))))))) (by kernel_rfl) (by kernel_rfl) (by kernel_rfl) ?_
  simp only [bW, bS, bM, Nat.reduceEqDiff, lt_31, lt_75, gL, lgE_l4b, gX, lX, hne, hne2]
  refine siI_c rfl rfl rfl (fun h' _ => hO h') ?_
  simp only [bS]
  refine siI_c rfl rfl rfl (fun h' _ => hW h') ?_
  simp only [bW, bS, Nat.reduceEqDiff, lt_75, zt_75, gZ, lgE_l4b, lgE_s0, retA_ret, Tryz.results35, resultsC_2, resultA_tmp, resultA_cell, res2_some]
  exact hid_mk ⟨rfl, kk.setNew (by omega) _⟩
theorem pLose10No (room : Int) (n : Nat) (nd : Nds) (ts : Nat → Int) (op : Bool) (ep : Int) (row : List (List Nat)) (hn : n ≤ 1000) (q : Int) (hq : q < 0 ∨ (n : Int) ≤ q) (h : AHeap) :
    Pure Tryz.prog 35 [.agg (lgE room n nd ts op ep row), .int .i64 q] h (.tuple [.agg (lgE room n nd ts op ep row), .int .i64 1]) := by
  refine Pure.val (Clo.tuple (CloL.cons (Clo.agg (lgE_clo _ _ _ _ _ _ _)) (CloL.cons (Clo.int _ _) CloL.nil))) ?_
  refine SCalls.enterI (c := _) Tryz.func35 rfl (by kernel_rfl) (by simp) ?_
  simp only [bW, Nat.reduceEqDiff, zc_75]
  have k0 : Keep h ((h.push (.cells (lgE room n nd ts op ep row) 75 none)).push (.cells [.snil, .bool false, .int .i64 0, .snil] 75 none)) none_ := (Keep.push _ _ _).trans (Keep.push _ _ _) (fun _ _ h => h)
  have gL : ((h.push (.cells (lgE room n nd ts op ep row) 75 none)).push (.cells [.snil, .bool false, .int .i64 0, .snil] 75 none)).get h.n = .cells (lgE room n nd ts op ep row) 75 none := get_p2 _ _ _
  have gZ : ((h.push (.cells (lgE room n nd ts op ep row) 75 none)).push (.cells [.snil, .bool false, .int .i64 0, .snil] 75 none)).get (h.n + 1) = .cells [.snil, .bool false, .int .i64 0, .snil] 75 none := get_push_new
  have n0 : ((h.push (.cells (lgE room n nd ts op ep row) 75 none)).push (.cells [.snil, .bool false, .int .i64 0, .snil] 75 none)).n = h.n + 2 := rfl
  generalize (h.push (.cells (lgE room n nd ts op ep row) 75 none)).push (.cells [.snil, .bool false, .int .i64 0, .snil] 75 none) = H at k0 gL gZ n0 ⊢
  have hne : (h.n = h.n + 1) = False := eq_false (by omega)
  have D1 := lgE_d1
  have D2 := lgE_d2
  have D3 := lgE_d3
  by_cases h1 : q < 0
  · have d1 : decide (q < 0) = true := by simpa using h1
    simp only [bW, Nat.reduceEqDiff, lt_75, zt_75, gL, gZ, lgE_l4b, lgE_s0, d1, retA_ret, Tryz.results35, resultsC_2, resultA_tmp, resultA_cell, res2_some]
    exact hid_mk ⟨rfl, k0.setNew (by omega) _⟩
  · have d1 : decide (q < 0) = false := by simpa using h1
    have d2 : decide ((n : Int) ≤ q) = true := by simp; omega
    simp only [bW, Nat.reduceEqDiff, ft_75_0, kt_72, lt_72, lt_75, zt_75, gL, gZ, lgE_l4b, lgE_s0, lgE_l0, d1, d2, retA_ret, Tryz.results35, resultsC_2, resultA_tmp, resultA_cell, res2_some]
    exact hid_mk ⟨rfl, k0.setNew (by omega) _⟩
end Go.Proofs.YtilgpaibolollaaGreat.Pk
namespace Go.Proofs.YtilgpaibolollaaGreat.Pk
open Go Go.Proofs Go.Proofs.YtilgpaibolollaaGreat.Ab
set_option maxRecDepth 10000
set_option linter.unusedVariables false
set_option linter.unusedSimpArgs false
/-! ### Layer 10 of the reference: Append -/
def lgS (room : Int) (n : Nat) (ts : Nat → Int) (s : LS) : List V := lgE room n s.nd ts s.op s.ep s.row
theorem lgS_clo (room : Int) (n : Nat) (ts : Nat → Int) (s : LS) : CloL (lgS room n ts s) := lgE_clo _ _ _ _ _ _ _
theorem rowV_oneS (l : List (List Nat)) : (rowV l).all (·.one) = true := by
  rw [List.all_eq_true]
  intro x hx
  obtain ⟨p, _, rfl⟩ := List.mem_map.1 hx
  rfl
theorem lgE_b1 (room : Int) (n : Nat) (nd : Nds) (ts : Nat → Int) (op : Bool) (ep : Int) (row : List (List Nat)) : (if 1 ≤ (lgE room n nd ts op ep row).length then some (List.drop 1 (lgE room n nd ts op ep row)) else none) = some [.bool op, .int .i64 ep, .imm row.length (rowV row)] := rfl
theorem lgE_b2 (room : Int) (n : Nat) (nd : Nds) (ts : Nat → Int) (op op' : Bool) (ep : Int) (row : List (List Nat)) : (if 2 ≤ (lgE room n nd ts op ep row).length then some (AObj.cells ((lgE room n nd ts op ep row).set 1 (.bool op')) 75 none) else none) = some (.cells (lgE room n nd ts op' ep row) 75 none) := rfl
theorem appR0 (h : AHeap) : aBuildSlice Tryz.prog 73 0 [] h = some (.sl h.n 0 0 0, h.push (.cells [] 29 none)) := by rw [buildSlice_go sl_73]; rfl
/-- A log whose row is an own one. -/
def lgV (room : Int) (n : Nat) (nd : Nds) (ts : Nat → Int) (op : Bool) (ep : Int) (v : V) : List V := [.imm n (ndsE room n nd ts), .bool op, .int .i64 ep, v]
theorem lgV_s0 {room : Int} {n : Nat} {nd : Nds} {ts : Nat → Int} {op : Bool} {ep : Int} {v : V} (hv : v.one = true) : setC (some 4) (AObj.cells [.snil, .bool false, .int .i64 0, .snil] 75 none) 0 (lgV room n nd ts op ep v) = some (.cells (lgV room n nd ts op ep v) 75 none) := by
  rw [setC_row (n := 4) rfl (by simp [lgV, hv]; exact ⟨rfl, rfl, rfl⟩), if_pos (by decide)]; rfl
theorem lgV_s3 {room : Int} {n : Nat} {nd : Nds} {ts : Nat → Int} {op : Bool} {ep : Int} {row : List (List Nat)} {v : V} (hv : v.one = true) : setC (some 1) (AObj.cells (lgE room n nd ts op ep row) 75 none) 3 [v] = some (.cells (lgV room n nd ts op ep v) 75 none) := by
  rw [setC_one hv, if_pos (by show 3 < 4; decide)]; rfl
theorem lgV_cast {room : Int} {n : Nat} {nd : Nds} {ts : Nat → Int} {op : Bool} {ep : Int} {v : V} {row : List (List Nat)} {h h2 : AHeap} (c : Cast v h (.imm row.length (rowV row)) h2) : Cast (.agg (lgV room n nd ts op ep v)) h (.agg (lgE room n nd ts op ep row)) h2 :=
  Pk.Cast.agg (CastL.cons (Cast.refl _ _) (CastL.cons (Cast.refl _ _) (CastL.cons (Cast.refl _ _) (CastL.cons c (CastL.refl _ _)))))
set_option maxHeartbeats 2000000 in
theorem pAppend10 (room : Int) (n : Nat) (nd : Nds) (ts : Nat → Int) (op : Bool) (ep : Int) (row : List (List Nat)) (hn : n ≤ 1000) (ok : ∀ q, q < n → Okl room (nd q)) (b : List Nat) (hb : ∀ x ∈ b, x < 256) (hbl : b.length ≤ 2 ^ 50) (reach : List Bool) (h : AHeap) :
    Pure Tryz.prog 29 [.agg (lgS room n ts ⟨nd, op, ep, row⟩), .imm b.length (bytesV b), .imm reach.length (boV reach)] h (.tuple [.agg (lgS room n ts (appL room n (rch reach) b ⟨nd, op, ep, row⟩).1), .int .i64 ((appL room n (rch reach) b ⟨nd, op, ep, row⟩).2.1 : Nat), .int .i64 (appL room n (rch reach) b ⟨nd, op, ep, row⟩).2.2]) := by
  refine Pure.of (Clo.tuple (CloL.cons (Clo.agg (lgS_clo _ _ _ _)) (CloL.cons (Clo.int _ _) (CloL.cons (Clo.int _ _) CloL.nil)))) ?_
  show SCalls Tryz.prog 29 [.agg (lgE room n nd ts op ep row), .imm b.length (bytesV b), .imm reach.length (boV reach)] h _
  refine SCalls.enterI (c := _) Tryz.func29 rfl (by kernel_rfl) (by simp) ?_
  simp only [bW, Nat.reduceEqDiff, ft_75_1, lt_4, zc_75]
  have k0 : Keep h ((h.push (.cells (lgE room n nd ts op ep row) 75 none)).push (.cells [.snil, .bool false, .int .i64 0, .snil] 75 none)) none_ := (Keep.push _ _ _).trans (Keep.push _ _ _) (fun _ _ h => h)
  have gL : ((h.push (.cells (lgE room n nd ts op ep row) 75 none)).push (.cells [.snil, .bool false, .int .i64 0, .snil] 75 none)).get h.n = .cells (lgE room n nd ts op ep row) 75 none := get_p2 _ _ _
  have gZ : ((h.push (.cells (lgE room n nd ts op ep row) 75 none)).push (.cells [.snil, .bool false, .int .i64 0, .snil] 75 none)).get (h.n + 1) = .cells [.snil, .bool false, .int .i64 0, .snil] 75 none := get_push_new
  have n0 : ((h.push (.cells (lgE room n nd ts op ep row) 75 none)).push (.cells [.snil, .bool false, .int .i64 0, .snil] 75 none)).n = h.n + 2 := rfl
  generalize (h.push (.cells (lgE room n nd ts op ep row) 75 none)).push (.cells [.snil, .bool false, .int .i64 0, .snil] 75 none) = H at k0 gL gZ n0 ⊢
  have hne : (h.n = h.n + 1) = False := eq_false (by omega)
  have D1 := lgE_d1
  have D2 := lgE_d2
  have D3 := lgE_d3
  by_cases h1 : op = false
  · subst h1
    have hA : appL room n (rch reach) b ⟨nd, false, ep, row⟩ = (⟨nd, false, ep, row⟩, 0, 8) := by unfold appL; rw [if_pos rfl]
    rw [hA]
    simp only [bW, Nat.reduceEqDiff, lt_75, zt_75, gL, gZ, lgE_l4b, lgE_s0, lgE_b1, retA_ret, Tryz.results29, resultsC_3, resultA_tmp, resultA_cell, res3_some]
    exact hid_mk ⟨_, Cast.refl _ _, k0.setNew (by omega) _⟩
  obtain rfl : op = true := by simpa using h1
  have bad : b.length = 0 ∨ 2048 < b.length → appL room n (rch reach) b ⟨nd, true, ep, row⟩ = (⟨nd, true, ep, row⟩, 0, 2) := fun hh => by
    unfold appL; rw [if_neg (by simp), if_pos hh]
  by_cases h2 : b.length = 0
  · have d2 : (((b.length : Nat) : Int) == 0) = true := by rw [h2]; rfl
    rw [bad (.inl h2)]
    simp only [bW, Nat.reduceEqDiff, kt_29, lt_75, zt_75, gL, gZ, lgE_l4b, lgE_s0, lgE_b1, d2, retA_ret, Tryz.results29, resultsC_3, resultA_tmp, resultA_cell, res3_some]
    exact hid_mk ⟨_, Cast.refl _ _, k0.setNew (by omega) _⟩
  have d2 : (((b.length : Nat) : Int) == 0) = false := by rw [beq_eq_false_iff_ne]; omega
  by_cases h3 : 2048 < b.length
  · have d3 : decide ((2048 : Int) < ((b.length : Nat) : Int)) = true := by simp; omega
    rw [bad (.inr h3)]
    simp only [bW, Nat.reduceEqDiff, kt_29, lt_75, zt_75, gL, gZ, lgE_l4b, lgE_s0, lgE_b1, d2, d3, retA_ret, Tryz.results29, resultsC_3, resultA_tmp, resultA_cell, res3_some]
    exact hid_mk ⟨_, Cast.refl _ _, k0.setNew (by omega) _⟩
  have d3 : decide ((2048 : Int) < ((b.length : Nat) : Int)) = false := by simp; omega
  by_cases h4 : 4096 ≤ row.length
  · have d4 : decide ((4096 : Int) ≤ ((row.length : Nat) : Int)) = true := by simp; omega
    have hA : appL room n (rch reach) b ⟨nd, true, ep, row⟩ = (⟨nd, true, ep, row⟩, 0, 3) := by
      unfold appL; rw [if_neg (by simp), if_neg (by omega), if_pos h4]
    rw [hA]
    simp only [bW, Nat.reduceEqDiff, ft_75_3, kt_29, kt_73, lt_73, lt_75, zt_75, gL, gZ, lgE_l4b, lgE_s0, D3, lgE_b1, d2, d3, d4, retA_ret, Tryz.results29, resultsC_3, resultA_tmp, resultA_cell, res3_some]
    exact hid_mk ⟨_, Cast.refl _ _, k0.setNew (by omega) _⟩
  have d4 : decide ((4096 : Int) ≤ ((row.length : Nat) : Int)) = false := by simp; omega
  simp only [bW, Nat.reduceEqDiff, ft_75_3, kt_29, kt_73, lt_73, lt_75, gL, lgE_l4b, D3, lgE_b1, d2, d3, d4]
  refine callI_pureG (fun f => f 1 = .imm b.length (bytesV b) ∧ f 3 = .ptr h.n 0 ∧ f 6 = .ptr (h.n + 1) 0 ∧ f 9 = .int .i64 (row.length : Nat) ∧ f 38 = .tuple [.agg (lgE room n (wrL room n ep (row.length : Nat) b (rch reach) nd).1 ts true ep row), .bool (wrL room n ep (row.length : Nat) b (rch reach) nd).2]) cal65 (pWrite10 room n nd ts true ep row hn ok (row.length : Nat) b hb hbl reach _) ⟨rfl, rfl, rfl, rfl, rfl⟩ ?_
  rintro f ⟨f1, f3, f6, f9, f38⟩
  have hA : appL room n (rch reach) b ⟨nd, true, ep, row⟩ = if (wrL room n ep (row.length : Nat) b (rch reach) nd).2 = true then (⟨(wrL room n ep (row.length : Nat) b (rch reach) nd).1, true, ep, row ++ [b]⟩, row.length, 0) else (⟨(wrL room n ep (row.length : Nat) b (rch reach) nd).1, false, ep, row⟩, 0, 8) := by
    conv => lhs; unfold appL
    rw [if_neg (by simp), if_neg (by omega), if_neg h4]
  rw [hA]
  generalize wrL room n ep (row.length : Nat) b (rch reach) nd = W at f38 ⊢
  obtain ⟨nd', w⟩ := W
  simp only at f38 ⊢
  have kW : Keep H (H.push (.cells (lgE room n nd' ts true ep row) 75 none)) none_ := Keep.push _ _ _
  have gW : (H.push (.cells (lgE room n nd' ts true ep row) 75 none)).get H.n = .cells (lgE room n nd' ts true ep row) 75 none := get_push_new
  have nW : (H.push (.cells (lgE room n nd' ts true ep row) 75 none)).n = H.n + 1 := rfl
  have gL := (kW.get h.n (by omega) (fun h => h)).trans gL
  have gZ := (kW.get (h.n + 1) (by omega) (fun h => h)).trans gZ
  have kk := k0.trans kW fun _ _ h => h
  simp only [bW, Nat.reduceEqDiff, lt_75, zc_75, zt_75, f38, lgE_s0]
  generalize H.push (.cells (lgE room n nd' ts true ep row) 75 none) = H2 at kW gW nW gL gZ kk ⊢
  have gL3 : ∀ o, (H2.set h.n o).get h.n = o := fun o => get_set_same
  have gZ3 : ∀ o, (H2.set h.n o).get (h.n + 1) = H2.get (h.n + 1) := fun o => get_set_ne (by omega)
  have gL4 : ∀ o o', ((H2.set h.n o).set h.n o').get h.n = o' := fun o o' => get_set_same
  have gZ4 : ∀ o o', ((H2.set h.n o).set h.n o').get (h.n + 1) = H2.get (h.n + 1) := fun o o' => (get_set_ne (by omega)).trans (get_set_ne (by omega))
  cases w with
  | false =>
    rw [if_neg (show ¬ (false = true) by decide)]
    simp only [bW, Nat.reduceEqDiff, Nat.reduceAdd, ft_75_1, lt_75, zt_4, zt_75, f3, f6, gL, gZ, gZ3, lgE_l4b, lgE_s4, lgE_b2, lgE_s0, retA_ret, Tryz.results29, resultsC_3, resultA_tmp, resultA_cell, res3_some]
    exact hid_mk ⟨_, Cast.refl _ _, (kk.setNew (Nat.le_refl _) _).setNew (by omega) _⟩
  | true =>
    rw [if_pos (show true = true from rfl)]
    simp only [bW, Nat.reduceEqDiff, zt_75, f3, gL, lgE_l4b, lgE_s4]
    have gL5 := gL3 (.cells (lgE room n nd' ts true ep row) 75 none)
    have gZ5 := (gZ3 (.cells (lgE room n nd' ts true ep row) 75 none)).trans gZ
    have k5 := kk.setNew (Nat.le_refl _) (.cells (lgE room n nd' ts true ep row) 75 none)
    have n5 : (H2.set h.n (.cells (lgE room n nd' ts true ep row) 75 none)).n = h.n + 3 := by rw [set_n]; omega
    generalize H2.set h.n (.cells (lgE room n nd' ts true ep row) 75 none) = H5 at gL5 gZ5 k5 n5 ⊢
    have lit := appR0 H5
    obtain ⟨v1, h1, q1, a1⟩ := (accN0 H5 29 1).appM (P := Tryz.prog) (tx := 73) (x := .imm row.length (rowV row)) (n := row.length) (news := rowV row) sl_73 (by decide) (imm_src kt_73 (by rw [rowV_len, Nat.mul_one]) (rowV_oneS _)) (by rw [rowV_len]; exact (Nat.mul_one _).symm) (fun m hm => by
      have hm' : m * 1 = 0 + (rowV row).length := hm
      rw [rowV_len] at hm'
      exact ⟨by show m * 24 ≤ lim; simp only [lim]; omega, by simp only [lim]; omega⟩)
    rw [List.nil_append] at a1
    obtain ⟨v2, h2, q2, o2, kp2, dd2⟩ := append_elemM (P := Tryz.prog) sl_73 (by decide) a1.own (xs := [.imm b.length (bytesV b)]) rfl rfl (fun m hm => by
      have hm' : m * 1 = (rowV row).length + 1 := hm
      rw [rowV_len] at hm'
      exact ⟨by show m * 24 ≤ lim; simp only [lim]; omega, by simp only [lim]; omega⟩)
    have lit2 := litRow h1 (.imm b.length (bytesV b)) rfl rfl
    have a2 := (a1.step o2 kp2 dd2).conv (show _ = rowV (row ++ [b]) by rw [rowV_snoc])
    obtain ⟨v2c, v2o⟩ := one_of_own a2.own
    have gLp := fun o => (get_push_lt (h := H5) (o := o) (show h.n < H5.n by omega)).trans gL5
    have gL1 := (a1.keep.get h.n (by omega) (fun h => h)).trans gL5
    have gL6 := (a2.keep.get h.n (by omega) (fun h => h)).trans gL5
    have gZ6 := (a2.keep.get (h.n + 1) (by omega) (fun h => h)).trans gZ5
    have gS7 : (h2.set h.n (.cells (lgV room n nd' ts true ep v2) 75 none)).get h.n = .cells (lgV room n nd' ts true ep v2) 75 none := get_set_same
    have gZ7 : (h2.set h.n (.cells (lgV room n nd' ts true ep v2) 75 none)).get (h.n + 1) = .cells [.snil, .bool false, .int .i64 0, .snil] 75 none := (get_set_ne (by omega)).trans gZ6
    have lV : loadGo (some (some 4)) (some (lgV room n nd' ts true ep v2)) = some (.agg (lgV room n nd' ts true ep v2)) := rfl
    have cV : (V.agg (lgV room n nd' ts true ep v2)).cells = some (lgV room n nd' ts true ep v2) := by
      show (V.agg [.imm n (ndsE room n nd' ts), .bool true, .int .i64 ep, v2]).cells = _
      simp only [V.cells]
      try rfl
    have s3 := lgV_s3 (room := room) (n := n) (nd := nd') (ts := ts) (op := true) (ep := ep) (row := row) v2o
    have s0 := lgV_s0 (room := room) (n := n) (nd := nd') (ts := ts) (op := true) (ep := ep) v2o
    simp only [bW, Nat.reduceEqDiff, ft_75_3, lt_73, lt_75, zt_73, zt_75, f1, f3, f6, f9, lit, gLp, q1, D3, lit2, q2, v2c, gL6, s3, lV, cV, gZ7, s0, retA_ret, Tryz.results29, resultsC_3, resultA_tmp, resultA_cell, res3_some]
    have nw : ∀ j, idOf v2 = some j → h.n + 3 ≤ j := fun j hj => by have := a2.new j hj; omega
    obtain ⟨h3, c, k⟩ := Acc.cast (h0 := h) (h := (h2.set h.n (.cells (lgV room n nd' ts true ep v2) 75 none)).set (h.n + 1) (.cells (lgV room n nd' ts true ep v2) 75 none)) (v := v2) (cs := rowV (row ++ [b])) (e := 29) (sz := 1) ⟨(a2.own.keep (Keep.set _ _ _) fun j hj hh => by have := nw j hj; omega).keep (Keep.set _ _ _) fun j hj hh => by have := nw j hj; omega, ((k5.trans' a2.keep).setNew (Nat.le_refl _) _).setNew (by omega) _, fun j hj => by have := nw j hj; omega⟩ (n := (row ++ [b]).length) (by rw [rowV_len, Nat.mul_one]) (by decide)
    exact hid_mk ⟨h3, Cast.tuple (CastL.cons (lgV_cast c) (CastL.refl _ _)), k⟩
end Go.Proofs.YtilgpaibolollaaGreat.Pk
namespace Go.Proofs.YtilgpaibolollaaGreat.Pk
open Go Go.Proofs Go.Proofs.YtilgpaibolollaaGreat.Ab
set_option maxRecDepth 10000
set_option linter.unusedVariables false
set_option linter.unusedSimpArgs false
/-! ### Layer 10 of the reference: New -/
def lg0 : V := .agg [.snil, .bool false, .int .i64 0, .snil]
theorem lg0_clo : Clo lg0 := Clo.agg (CloL.cons Clo.snil (CloL.cons (Clo.bool _) (CloL.cons (Clo.int _ _) (CloL.cons Clo.snil CloL.nil))))
theorem pNew10Bad (i room : Int) (hi : i < 1 ∨ 7 < i ∨ i.tmod 2 = 0) (h : AHeap) : Pure Tryz.prog 27 [.int .i64 i, .int .i64 room] h (.tuple [lg0, .int .i64 1]) := by
  refine Pure.val (Clo.tuple (CloL.cons lg0_clo (CloL.cons (Clo.int _ _) CloL.nil))) ?_
  refine SCalls.enterI (c := _) Tryz.func27 rfl (by kernel_rfl) (by simp) ?_
  by_cases h1 : i < 1
  · have d1 : decide (i < 1) = true := by simpa using h1
    simp only [bW, Nat.reduceEqDiff, Nat.reduceAdd, reduceCtorEq, lt_75, pl_75, zc_75, zt_75, d1, retA_ret, Tryz.results27, resultsC_2, resultA_tmp, resultA_cell, res2_some]
    exact hid_mk ⟨rfl, Keep.push _ _ _⟩
  have d1 : decide (i < 1) = false := by simpa using h1
  by_cases h2 : 7 < i
  · have d2 : decide (7 < i) = true := by simpa using h2
    simp only [bW, Nat.reduceEqDiff, Nat.reduceAdd, reduceCtorEq, lt_75, pl_75, zc_75, zt_75, d1, d2, retA_ret, Tryz.results27, resultsC_2, resultA_tmp, resultA_cell, res2_some]
    exact hid_mk ⟨rfl, Keep.push _ _ _⟩
  have d2 : decide (7 < i) = false := by simpa using h2
  have d3 : (i.tmod 2 == 0) = true := by rw [beq_iff_eq]; omega
  simp only [bW, Nat.reduceEqDiff, Nat.reduceAdd, reduceCtorEq, lt_75, pl_75, zc_75, zt_75, d1, d2, aBin_rem (show (2 : Int) ≠ 0 by decide), d3, retA_ret, Tryz.results27, resultsC_2, resultA_tmp, resultA_cell, res2_some]
  exact hid_mk ⟨rfl, Keep.push _ _ _⟩
theorem litN10 (h : AHeap) (room : Int) (l : Pays) (t : Int) : aBuildSlice Tryz.prog 72 1 [(0, .agg (yE room l t))] h = some (.sl h.n 0 1 1, h.push (.cells (yE room l t) 40 none)) := by rw [buildSlice_go sl_72]; rfl
theorem pNew10 (n : Nat) (hn : n = 1 ∨ n = 3 ∨ n = 5 ∨ n = 7) (room : Int) (r0 : 0 ≤ room) (r1 : room ≤ 1048576) : ∃ t, ∀ h, Pure Tryz.prog 27 [.int .i64 (n : Nat), .int .i64 room] h (.tuple [.agg (lgE room n (fun _ => []) (fun _ => t) false 0 []), .int .i64 0]) := by
  obtain ⟨t, hO⟩ := yOpenLO (Okl.nil r0 r1)
  refine ⟨t, fun h => Pure.of (Clo.tuple (CloL.cons (Clo.agg (lgE_clo _ _ _ _ _ _ _)) (CloL.cons (Clo.int _ _) CloL.nil))) ?_⟩
  refine SCalls.enterI (c := _) Tryz.func27 rfl (by kernel_rfl) (by simp) ?_
  have d1 : decide ((n : Int) < 1) = false := by simp; omega
  have d2 : decide (7 < (n : Int)) = false := by simp; omega
  have d3 : ((n : Int).tmod 2 == 0) = false := by rw [beq_eq_false_iff_ne, Int.tmod_eq_emod_of_nonneg (by omega)]; omega
  simp only [bW, Nat.reduceEqDiff, Nat.reduceAdd, reduceCtorEq, pl_75, zc_75, zt_75, d1, d2, aBin_rem (show (2 : Int) ≠ 0 by decide), d3]
  have k0 : Keep h (h.push (.cells [.snil, .bool false, .int .i64 0, .snil] 75 none)) none_ := Keep.push _ _ _
  have gZ0 : (h.push (.cells [.snil, .bool false, .int .i64 0, .snil] 75 none)).get h.n = .cells [.snil, .bool false, .int .i64 0, .snil] 75 none := get_push_new
  have n0 : (h.push (.cells [.snil, .bool false, .int .i64 0, .snil] 75 none)).n = h.n + 1 := rfl
  generalize h.push (.cells [.snil, .bool false, .int .i64 0, .snil] 75 none) = H0 at k0 gZ0 n0 ⊢
  have gL0 : (H0.push (.cells [.snil, .bool false, .int .i64 0, .snil] 75 none)).get H0.n = .cells [.snil, .bool false, .int .i64 0, .snil] 75 none := get_push_new
  have kL : Keep H0 (H0.push (.cells [.snil, .bool false, .int .i64 0, .snil] 75 none)) none_ := Keep.push _ _ _
  rw [n0] at gL0
  refine SWp.loopG (α := Nat × V) (fun x f h' => f 0 = .int .i64 (n : Nat) ∧ f 1 = .int .i64 room ∧ f 4 = .ptr h.n 0 ∧ f 6 = .ptr (h.n + 1) 0 ∧ f 7 = .int .i64 (x.1 : Nat) ∧ x.1 ≤ n ∧ Acc H0 h' 40 6 x.2 (ndsE room x.1 (fun _ => []) (fun _ => t)) ∧
    h'.get (h.n + 1) = .cells [x.2, .bool false, .int .i64 0, .snil] 75 none ∧ idOf x.2 ≠ some (h.n + 1) ∧ (h.n + 1) < h'.n) (fun x => n - x.1) (0, .snil)
    ⟨rfl, rfl, rfl, rfl, rfl, Nat.zero_le _, Acc.nil kL, gL0, (fun hh => by cases hh), by rw [push_n, n0]; omega⟩ ?_
  rintro ⟨i, v⟩ f h1 ⟨f0, f1, f4, f6, f7, hi, a1, g1, hne, lt1⟩
  simp only at f7 hi a1 g1 hne
  refine wpI_sound (by kernel_rfl) ?_
  by_cases hlt : i < n
  · have c1 : decide ((i : Int) < (n : Int)) = true := by simp; omega
    have hi1 : IntKind.i64.wrap ((i : Int) + 1) = ((i + 1 : Nat) : Int) := by rw [Go.IntWalk.i64_in _ (by omega)]; rfl
    simp only [bW, Nat.reduceEqDiff, reduceCtorEq, f0, f1, f7, c1]
    refine callI_pure cal7 (rNew room h1 r0 r1) ?_
    have cX : (V.agg (xE room [] [])).cells = some (xE room [] []) := rfl
    have sX : setC (some 3) (AObj.cells [.int .i64 0, .snil, .snil] 31 none) 0 (xE room [] []) = some (.cells (xE room [] []) 31 none) := rfl
    have lX : loadGo (some (some 3)) (some (xE room [] [])) = some (.agg (xE room [] [])) := rfl
    have kX : Keep h1 (h1.push (.cells (xE room [] []) 31 none)) none_ := Keep.push _ _ _
    have gX : (h1.push (.cells (xE room [] []) 31 none)).get h1.n = .cells (xE room [] []) 31 none := get_push_new
    have g2 := (kX.get (h.n + 1) lt1 (fun h => h)).trans g1
    have a2 := a1.on kX
    have n2 : (h1.push (.cells (xE room [] []) 31 none)).n = h1.n + 1 := rfl
    simp only [bW, Nat.reduceEqDiff, zc_31, zt_31, cX, sX]
    generalize h1.push (.cells (xE room [] []) 31 none) = h2 at kX gX g2 a2 n2 ⊢
    have lit := litN10 h2 room [] t
    obtain ⟨v3, h3, q3, o3, kp3, dd3⟩ := append_elemM (P := Tryz.prog) sl_72 (by decide) a2.own (xs := yE room [] t) rfl rfl (fun m hm => by
      have hm' : m * 6 = (ndsE room i (fun _ => []) (fun _ => t)).length + 6 := hm
      rw [ndsE_len] at hm'
      exact ⟨by show m * 96 ≤ lim; simp only [lim]; omega, by simp only [lim]; omega⟩)
    have a3 := (a2.step o3 kp3 dd3).conv (show _ = ndsE room (i + 1) (fun _ => []) (fun _ => t) by rw [ndsE_snoc])
    obtain ⟨v3c, v3o⟩ := one_of_own a3.own
    have g3 := (kp3.get (h.n + 1) (by omega) hne).trans g2
    have hO2 : ∀ h', Pure Tryz.prog 9 [.agg (xE room [] [])] h' (.agg (yE room [] t)) := hO
    have m2 : ¬ idOf v = some (h.n + 1) := hne
    have m3 : ¬ idOf v = some h1.n := fun hh => by have := a1.own.lt _ hh; omega
    refine SWp.drawnS (fun x => idOf v = some x) [4, 5, 7] (.q 0 (.q 1 (.q 2 (.c 3 (.e 4 (.a 5 (.q 6 (.a 7 .done))) .stop))))) (by kernel_rfl) (by kernel_rfl) (by kernel_rfl) ?_
    simp only [bW, bS, bM, Nat.reduceEqDiff, Nat.reduceAdd, ft_75_0, lt_31, lt_72, f6, g2, gX, lX, m2, m3]
    refine siI_c rfl rfl rfl (fun h' _ => hO2 h') ?_
    simp only [bW, bS, bM, Nat.reduceEqDiff, Nat.reduceAdd, Nat.reduceLeDiff, ft_75_0, zt_72, f6, f7, lit, q3, g3, v3c, v3o, hi1]
    have hne3 : idOf v3 ≠ some (h.n + 1) := fun hh => by
      rcases dd3 with dd | dd
      · exact hne (dd ▸ hh)
      · have := dd _ hh; omega
    have n3 := kp3.n
    exact hid_mk ⟨(i + 1, v3), ⟨f0, f1, f4, f6, rfl, hlt, ⟨a3.own.keep (Keep.set _ _ _) fun j hj hh => hne3 (by rw [hj, show j = h.n + 1 from hh]), a3.keep.setNew (by omega) _, a3.new⟩, get_set_same, hne3, by rw [set_n]; omega⟩, by simp only; omega⟩
  · have c1 : decide ((i : Int) < (n : Int)) = false := by simp; omega
    obtain rfl : i = n := by omega
    obtain ⟨vc, vo⟩ := one_of_own a1.own
    have z1 := (a1.keep.get h.n (by omega) (fun h => h)).trans gZ0
    have hset : setC (some 4) (AObj.cells [.snil, .bool false, .int .i64 0, .snil] 75 none) 0 [v, .bool false, .int .i64 0, .snil] = some (.cells [v, .bool false, .int .i64 0, .snil] 75 none) := by
      rw [setC_row (n := 4) rfl (by simp [vo]; exact ⟨rfl, rfl, rfl⟩), if_pos (by decide)]; rfl
    simp only [bW, Nat.reduceEqDiff, Nat.reduceAdd, reduceCtorEq, lt_75, zt_75, f0, f4, f6, f7, c1, g1, z1, hset, retA_ret, Tryz.results27, resultsC_2, resultA_tmp, resultA_cell, res2_some]
    have nw : ∀ j, idOf v = some j → h.n + 1 ≤ j := fun j hj => by have := a1.new j hj; omega
    obtain ⟨h3, c, k⟩ := Acc.cast (h0 := h) (h := h1.set h.n (.cells [v, .bool false, .int .i64 0, .snil] 75 none)) (v := v) (e := 40) (sz := 6) (cs := ndsE room i (fun _ => []) (fun _ => t)) ⟨a1.own.keep (Keep.set _ _ _) fun j hj hh => by have := nw j hj; have : j = h.n := hh; omega, (k0.trans' a1.keep).setNew (Nat.le_refl _) _, fun j hj => by have := nw j hj; omega⟩ (n := i) (ndsE_len _ _ _ _) (by decide)
    exact hid_mk ⟨h3, Cast.tuple (CastL.cons (Pk.Cast.agg (CastL.cons c (CastL.cons (Cast.refl _ _) (CastL.cons (Cast.refl _ _) (CastL.cons (Cast.nil0 _) (CastL.refl _ _)))))) (CastL.refl _ _)), k⟩
end Go.Proofs.YtilgpaibolollaaGreat.Pk
namespace Go.Proofs.YtilgpaibolollaaGreat.Pk
open Go Go.Proofs Go.Proofs.YtilgpaibolollaaGreat.Ab
set_option maxRecDepth 10000
set_option linter.unusedVariables false
set_option linter.unusedSimpArgs false
/-! ### What Open tells, step by step -/
def rowsN (room E : Int) (nd : Nds) (P : Nat → Bool) : Nat → List (List Cel)
  | 0 => []
  | i + 1 => rowsN room E nd P i ++ if P i = true then [(redoRL (nseal room E (nd i)).1).2] else []
theorem rowsN_len (room E : Int) (nd : Nds) (P : Nat → Bool) : ∀ n, (rowsN room E nd P n).length = cntN P n
  | 0 => rfl
  | i + 1 => by
    unfold rowsN cntN
    rw [List.length_append, rowsN_len]
    split <;> rfl
theorem atOf_rise : ∀ {l : List Cel}, Rise l → ∀ k, atOf l k = (rfind l k).toList
  | [], _, k => rfl
  | x :: l, r, k => by
    have hx := (List.pairwise_cons.1 r).1
    have ih := atOf_rise (List.pairwise_cons.1 r).2 k
    unfold atOf at ih ⊢
    unfold rfind at ih ⊢
    rw [List.filter_cons, List.find?_cons]
    by_cases h : x.at_ = k
    · rw [if_pos (by simpa using h), show decide (x.at_ = k) = true by simpa using h]
      have : l.filter (fun c => c.at_ == k) = [] := List.filter_eq_nil_iff.2 fun y hy => by have := hx y hy; simp; omega
      rw [this]
      rfl
    · rw [if_neg (by simpa using h), show decide (x.at_ = k) = false by simpa using h]
      exact ih
theorem rowsN_rep (room E : Int) {nd : Nds} {P : Nat → Bool} : ∀ n, (∀ q, q < n → Okl room (nd q)) → Rep P nd n (rowsN room E nd P n)
  | 0, _ => Rep.nil P nd
  | n + 1, ok => by
    have ih := rowsN_rep (P := P) room E n fun q hq => ok q (by omega)
    unfold rowsN
    by_cases h : P n = true
    · rw [if_pos h]
      have o := (ok n (by omega)).nseal E
      obtain ⟨l1, l2, l3, l4, l5⟩ := o.lens
      refine ih.more h (fun k => ?_) l3 fun c hc => ⟨⟨(l5 c hc).2.2, (l5 c hc).2.1⟩, (l5 c hc).1⟩
      have lk := like_all (nseal room E (nd n)).1
      rw [atOf_rise lk.ri, ← lk.find]
      exact congrArg Option.toList ((nseal_post room E (nd n)).1 k)
    · rw [if_neg h, List.append_nil]
      exact ih.skip (by simpa using h)
theorem OpenR.one {room : Int} {n : Nat} {rc : Nat → Bool} {s a b : LS} {e d : Int} (h1 : OpenR room n rc s a e) (h2 : OpenR room n rc s b d) : a = b ∧ e = d := by
  unfold OpenR at h1 h2
  by_cases hq : n / 2 + 1 ≤ cntN (fineN (nseal room (s.ep + 1)) rc s.nd) n
  · rw [if_pos hq] at h1 h2
    obtain ⟨r1, i1, o1⟩ := h1
    obtain ⟨r2, i2, o2⟩ := h2
    have hle : ∀ {r r' : List (List Nat)}, RowIs (fun k => votes (fineN (nseal room (s.ep + 1)) rc s.nd) s.nd k n) r → RowIs (fun k => votes (fineN (nseal room (s.ep + 1)) rc s.nd) s.nd k n) r' → r'.length ≤ r.length := fun {r r'} w w' => by
      rcases w'.top with h | h
      · rw [h]; exact Nat.zero_le _
      · by_cases hz : r.length < r'.length
        · exact absurd (w.no (r'.length - 1) (by omega)) h
        · omega
    have hl : r1.length = r2.length := Nat.le_antisymm (hle i2 i1) (hle i1 i2)
    have hr : r1 = r2 := List.ext_getElem hl fun k h3 h4 => by rw [i1.is k h3, i2.is k h4]
    subst hr
    by_cases hw : (wRow room n (s.ep + 1) rc r1 0 (allN (nseal room (s.ep + 1)) rc n s.nd)).2 = true
    · rw [if_pos hw] at o1 o2
      exact ⟨o1.1.trans o2.1.symm, o1.2.trans o2.2.symm⟩
    · rw [if_neg hw] at o1 o2
      exact ⟨o1.1.trans o2.1.symm, o1.2.trans o2.2.symm⟩
  · rw [if_neg hq] at h1 h2
    exact ⟨h1.1.trans h2.1.symm, h1.2.trans h2.2.symm⟩
/-! Rows, cell by cell -/
theorem seqV_succ (m : List Cel) (j : Nat) : seqV m (j + 1) = seqV m j ++ [match seqC m j with | some c => .imm c.bytes.length (bytesV c.bytes) | none => .snil] := by
  unfold seqV
  rw [List.range_succ, List.map_append]
  rfl
theorem seqC_none {m : List Cel} {j : Nat} (h : ∀ c ∈ m, c.at_ ≠ (j : Int)) : seqC m j = none := List.find?_eq_none.2 fun c hc => by have := h c hc; simpa using this
theorem take_lt {M : List Cel} (up : Rise M) {i : Nat} (hi : i < M.length) : ∀ c ∈ M.take i, c.at_ < M[i].at_ := fun c hc => by
  obtain ⟨j, hj, rfl⟩ := List.getElem_of_mem hc
  rw [List.length_take] at hj
  rw [List.getElem_take]
  exact (List.pairwise_iff_getElem.1 up) j i (by omega) hi (by omega)
theorem seqLen_take {M : List Cel} {i : Nat} (hi : i < M.length) : seqLen (M.take (i + 1)) = (M[i].at_ + 1).toNat := by
  unfold seqLen
  rw [List.take_succ_eq_append_getElem hi, List.getLast?_concat]
theorem seqLen_lt {M : List Cel} {i : Nat} (hr : ∀ c ∈ M, 0 ≤ c.at_ ∧ c.at_ < 4096) (hi : i ≤ M.length) : ∀ c ∈ M.take i, Rise M → c.at_ < (seqLen (M.take i) : Int) := fun c hc up => by
  cases i with
  | zero => simp at hc
  | succ i =>
    have hi' : i < M.length := hi
    rw [seqLen_take hi']
    have h0 := hr M[i] (List.getElem_mem _)
    rw [List.take_succ_eq_append_getElem hi'] at hc
    rcases List.mem_append.1 hc with hc | hc
    · have := take_lt up hi' c hc; omega
    · simp at hc; subst hc; omega
theorem seqLen_at {M : List Cel} (up : Rise M) (hr : ∀ c ∈ M, 0 ≤ c.at_ ∧ c.at_ < 4096) {i : Nat} (hi : i < M.length) : (seqLen (M.take i) : Int) ≤ M[i].at_ := by
  cases i with
  | zero => have := hr M[0] (List.getElem_mem _); simpa [seqLen] using this.1
  | succ i =>
    rw [seqLen_take (show i < M.length by omega)]
    have h1 := (List.pairwise_iff_getElem.1 up) i (i + 1) (by omega) hi (by omega)
    have h0 := hr M[i] (List.getElem_mem _)
    omega
/-- One gap more. -/
theorem seqV_gap {M : List Cel} (up : Rise M) (hr : ∀ c ∈ M, 0 ≤ c.at_ ∧ c.at_ < 4096) {i j : Nat} (hi : i ≤ M.length) (hj : seqLen (M.take i) ≤ j) : seqV (M.take i) (j + 1) = seqV (M.take i) j ++ [.snil] := by
  rw [seqV_succ, seqC_none fun c hc => by have := seqLen_lt hr hi c hc up; omega]
/-- One cell more. -/
theorem seqV_cell {M : List Cel} (up : Rise M) {i a : Nat} (hi : i < M.length) (ha : M[i].at_ = (a : Int)) : seqV (M.take (i + 1)) (a + 1) = seqV (M.take i) a ++ [.imm M[i].bytes.length (bytesV M[i].bytes)] := by
  have ht := List.take_succ_eq_append_getElem hi
  have h1 : seqC (M.take (i + 1)) a = some M[i] := seqC_some (List.Pairwise.sublist (List.take_sublist _ _) up) (by rw [ht]; exact List.mem_append.2 (.inr (List.mem_singleton.2 rfl))) ha
  rw [seqV_succ, h1]
  congr 1
  unfold seqV
  refine List.map_congr_left fun k hk => ?_
  have hk : k < a := by simpa using hk
  have : seqC (M.take (i + 1)) k = seqC (M.take i) k := by
    unfold seqC
    rw [ht, List.find?_append]
    have : ([M[i]] : List Cel).find? (fun c => c.at_ == (k : Int)) = none := List.find?_eq_none.2 fun c hc => by
      simp at hc; subst hc; simp; omega
    rw [this, Option.or_none]
  rw [this]
theorem seqV_cast (m : List Cel) (n : Nat) (h : AHeap) (r : List V) : CastL (seqV m n ++ r) h (rowV (seqR m n) ++ r) h := by
  have hq : ∀ l : List Nat, CastL ((l.map fun k => match seqC m k with | some c => V.imm c.bytes.length (bytesV c.bytes) | none => .snil) ++ r) h (rowV (l.map fun k => match seqC m k with | some c => c.bytes | none => []) ++ r) h := by
    intro l
    induction l with
    | nil => exact CastL.refl _ _
    | cons k l ih =>
      have ho : ∀ o : Option Cel, Cast (match o with | some c => V.imm c.bytes.length (bytesV c.bytes) | none => .snil) h (.imm (match o with | some c => c.bytes | none => []).length (bytesV (match o with | some c => c.bytes | none => []))) h := fun o => by
        cases o with
        | some c => exact Cast.refl _ _
        | none => exact Cast.nil0 h
      exact CastL.cons (ho (seqC m k)) ih
  exact hq (List.range n)
theorem seqV_get {m : List Cel} {n k : Nat} (hk : k < (seqV m n).length) (hk2 : k < (seqR m n).length) (h : AHeap) : Cast (seqV m n)[k] h (.imm (seqR m n)[k].length (bytesV (seqR m n)[k])) h := by
  have e1 : (seqV m n)[k] = match seqC m k with | some c => V.imm c.bytes.length (bytesV c.bytes) | none => .snil := by
    simp only [seqV, List.getElem_map, List.getElem_range]
    all_goals (cases seqC m k <;> rfl)
  rw [e1, seqR_get]
  cases seqC m k with
  | some c => exact Cast.refl _ _
  | none => exact Cast.nil0 h
/-! Lists of payloads stay such -/
theorem Okl.all {room : Int} {n : Nat} {nd : Nds} (ok : ∀ q, q < n → Okl room (nd q)) {f : Pays → Pays × Int} (hf : ∀ l, Okl room l → Okl room (f l).1) (rc : Nat → Bool) : ∀ q, q < n → Okl room (allN f rc n nd q) := fun q hq => by
  rw [allN_n hq]
  split
  · exact hf _ (ok q hq)
  · exact ok q hq
theorem Okl.wrL {room : Int} {n : Nat} {nd : Nds} (ok : ∀ q, q < n → Okl room (nd q)) (ep at_ : Int) {b : List Nat} (hb : ∀ x ∈ b, x < 256) (rc : Nat → Bool) : ∀ q, q < n → Okl room ((Pk.wrL room n ep at_ b rc nd).1 q) :=
  Okl.all ok (fun l o => o.nw ep at_ hb) rc
theorem Okl.wRow {room : Int} {n : Nat} {ep : Int} {rc : Nat → Bool} : ∀ (r : List (List Nat)) (at_ : Nat) (nd : Nds), (∀ b ∈ r, ∀ x ∈ b, x < 256) → (∀ q, q < n → Okl room (nd q)) → ∀ q, q < n → Okl room ((Pk.wRow room n ep rc r at_ nd).1 q)
  | [], at_, nd, _, ok => ok
  | b :: r, at_, nd, hb, ok => by
    have o1 := Okl.wrL ok ep (at_ : Int) (hb b (by simp)) rc
    rw [wRow_cons]
    split
    · exact Okl.wRow r (at_ + 1) _ (fun c hc => hb c (by simp [hc])) o1
    · exact o1
end Go.Proofs.YtilgpaibolollaaGreat.Pk
namespace Go.Proofs.YtilgpaibolollaaGreat.Pk
open Go Go.Proofs Go.Proofs.YtilgpaibolollaaGreat.Ab
set_option maxRecDepth 20000
set_option linter.unusedVariables false
set_option linter.unusedSimpArgs false
/-! ### Layer 10 of the reference: Start -/
theorem lgE_b3 (room : Int) (n : Nat) (nd : Nds) (ts : Nat → Int) (op : Bool) (ep ep' : Int) (row : List (List Nat)) : (if 3 ≤ (lgE room n nd ts op ep row).length then some (AObj.cells ((lgE room n nd ts op ep row).set 2 (.int .i64 ep')) 75 none) else none) = some (.cells (lgE room n nd ts op ep' row) 75 none) := rfl
theorem lgV_b2 (room : Int) (n : Nat) (nd : Nds) (ts : Nat → Int) (op op' : Bool) (ep : Int) (v : V) : (if 2 ≤ (lgV room n nd ts op ep v).length then some (AObj.cells ((lgV room n nd ts op ep v).set 1 (.bool op')) 75 none) else none) = some (.cells (lgV room n nd ts op' ep v) 75 none) := rfl
theorem lgV_l4b (room : Int) (n : Nat) (nd : Nds) (ts : Nat → Int) (op : Bool) (ep : Int) (v : V) : (if 4 ≤ (lgV room n nd ts op ep v).length then some (V.agg (List.take 4 (lgV room n nd ts op ep v))) else none) = some (.agg (lgV room n nd ts op ep v)) := rfl
def mergeN (room E : Int) (nd : Nds) (P : Nat → Bool) (n : Nat) : List Cel := mergeC (rowsN room E nd P n).flatten
def openF (room : Int) (n : Nat) (rc : Nat → Bool) (s : LS) : LS × Int :=
  if n / 2 + 1 ≤ cntN (fineN (nseal room (s.ep + 1)) rc s.nd) n then
    if (wRow room n (s.ep + 1) rc (seqR (mergeN room (s.ep + 1) s.nd (fineN (nseal room (s.ep + 1)) rc s.nd) n) (seqLen (mergeN room (s.ep + 1) s.nd (fineN (nseal room (s.ep + 1)) rc s.nd) n))) 0 (allN (nseal room (s.ep + 1)) rc n s.nd)).2 = true then
      (⟨(wRow room n (s.ep + 1) rc (seqR (mergeN room (s.ep + 1) s.nd (fineN (nseal room (s.ep + 1)) rc s.nd) n) (seqLen (mergeN room (s.ep + 1) s.nd (fineN (nseal room (s.ep + 1)) rc s.nd) n))) 0 (allN (nseal room (s.ep + 1)) rc n s.nd)).1, true, s.ep + 1, seqR (mergeN room (s.ep + 1) s.nd (fineN (nseal room (s.ep + 1)) rc s.nd) n) (seqLen (mergeN room (s.ep + 1) s.nd (fineN (nseal room (s.ep + 1)) rc s.nd) n))⟩, 0)
    else (⟨(wRow room n (s.ep + 1) rc (seqR (mergeN room (s.ep + 1) s.nd (fineN (nseal room (s.ep + 1)) rc s.nd) n) (seqLen (mergeN room (s.ep + 1) s.nd (fineN (nseal room (s.ep + 1)) rc s.nd) n))) 0 (allN (nseal room (s.ep + 1)) rc n s.nd)).1, false, s.ep + 1, s.row⟩, 8)
  else (⟨allN (nseal room (s.ep + 1)) rc n s.nd, false, s.ep + 1, s.row⟩, 8)
theorem mergeN_ok {room E : Int} {nd : Nds} {P : Nat → Bool} {n : Nat} (ok : ∀ q, q < n → Okl room (nd q)) : ∀ c ∈ mergeN room E nd P n, (c.bytes.length ≤ 2048 ∧ ∀ x ∈ c.bytes, x < 256) ∧ 0 ≤ c.at_ ∧ c.at_ < 4096 := fun c hc => by
  have w := mergeC_is (rowsN room E nd P n).flatten
  have h1 := (w.mem c).1 hc
  exact (rowsN_rep room E n ok).sm c (atOf_mem.1 (bestOf_mem h1)).1
theorem openF_is {room : Int} {n : Nat} (rc : Nat → Bool) {s : LS} (ok : ∀ q, q < n → Okl room (s.nd q)) : OpenR room n rc s (openF room n rc s).1 (openF room n rc s).2 := by
  unfold OpenR openF
  by_cases hq : n / 2 + 1 ≤ cntN (fineN (nseal room (s.ep + 1)) rc s.nd) n
  · rw [if_pos hq, if_pos hq]
    refine ⟨_, rowIs_of (rowsN_rep room (s.ep + 1) n ok).at_ (mergeC_is _) fun c hc => (mergeN_ok ok c hc).2, ?_⟩
    show if (wRow room n (s.ep + 1) rc (seqR (mergeN room (s.ep + 1) s.nd (fineN (nseal room (s.ep + 1)) rc s.nd) n) (seqLen (mergeN room (s.ep + 1) s.nd (fineN (nseal room (s.ep + 1)) rc s.nd) n))) 0 (allN (nseal room (s.ep + 1)) rc n s.nd)).2 = true then _ else _
    split
    · exact ⟨rfl, rfl⟩
    · exact ⟨rfl, rfl⟩
  · rw [if_neg hq, if_neg hq]
    exact ⟨rfl, rfl⟩
theorem castOwnS {h : AHeap} {e : TypeId} {sz : Nat} {v : V} {cs es : List V} (o : Own h e sz v cs) (hcl : ∀ r, CastL (cs ++ r) h (es ++ r) h) (hle : es.length = cs.length) : ∃ h2, Cast v h v h2 ∧ Own h2 e sz v es ∧ Keep h h2 (isId v) := by
  rcases o with ⟨hv, hc⟩ | ⟨i, len, cap, c, ex, rfl, hi, hg, hlen, htake, hcap⟩
  · subst hc
    have : es = [] := List.length_eq_zero_iff.1 hle
    subst this
    exact ⟨h, Cast.refl _ _, .inl ⟨hv, rfl⟩, Keep.refl _ _⟩
  · have hcc : c = cs ++ c.drop (len * sz) := by rw [← htake, List.take_append_drop]
    have h1 : h.get i = .cells (cs ++ c.drop (len * sz)) e ex := by rw [← hcc]; exact hg
    refine ⟨h.set i (.cells (es ++ c.drop (len * sz)) e ex), Cast.cellC h1 (hcl _) h1 (by rw [List.length_append, List.length_append, hle]) _, .inr ⟨i, len, cap, es ++ c.drop (len * sz), ex, rfl, hi, get_set_same, by rw [hle, hlen], ?_, ?_⟩, (Keep.set _ _ _).mono fun q hq => by rw [isId]; simp [idOf, hq]⟩
    · have : len * sz = es.length := by rw [hle, hlen]
      rw [this, List.take_left']
      rfl
    · have hl : (es ++ c.drop (len * sz)).length = c.length := by conv => rhs; rw [hcc]
                                                                  rw [List.length_append, List.length_append, hle]
      rw [hl]
      exact hcap
theorem litRow10 (h : AHeap) (l : List Cel) : aBuildSlice Tryz.prog 134 1 [(0, .imm l.length (l.flatMap celE))] h = some (.sl h.n 0 1 1, h.push (.cells (rowE l) 55 none)) := by rw [buildSlice_go sl_134]; rfl
set_option maxHeartbeats 16000000 in
theorem pStart10 (room : Int) (n : Nat) (ts : Nat → Int) (s : LS) (hn : n ≤ 100) (ok : ∀ q, q < n → Okl room (s.nd q)) (he : 0 ≤ s.ep ∧ s.ep < 2 ^ 40) (reach : List Bool) (h : AHeap) :
    Pure Tryz.prog 31 [.agg (lgS room n ts s), .imm reach.length (boV reach)] h (.tuple [.agg (lgS room n ts (openF room n (rch reach) s).1), .int .i64 (openF room n (rch reach) s).2]) := by
  refine Pure.of (Clo.tuple (CloL.cons (Clo.agg (lgS_clo _ _ _ _)) (CloL.cons (Clo.int _ _) CloL.nil))) ?_
  obtain ⟨nd, op, ep, row⟩ := s
  obtain ⟨Q, hQ⟩ : ∃ Q, Q = openF room n (rch reach) ⟨nd, op, ep, row⟩ := ⟨_, rfl⟩
  rw [← hQ]
  unfold openF at hQ
  simp only at hQ ok he
  show SCalls Tryz.prog 31 [.agg (lgE room n nd ts op ep row), .imm reach.length (boV reach)] h _
  refine SCalls.enterI (c := _) Tryz.func31 rfl (by kernel_rfl) (by simp) ?_
  have we : IntKind.i64.wrap (ep + 1) = ep + 1 := Go.IntWalk.i64_in _ (by omega)
  have D2 := lgE_d2
  have D3 := lgE_d3
  simp only [bW, Nat.reduceEqDiff, Nat.reduceAdd, ft_75_1, ft_75_2, lt_3, zc_75, zt_3, zt_4, D2, lgE_b3, lgE_b2, we]
  have k0 : Keep h ((h.push (.cells (lgE room n nd ts false (ep + 1) row) 75 none)).push (.cells [.snil, .bool false, .int .i64 0, .snil] 75 none)) none_ := (Keep.push _ _ _).trans (Keep.push _ _ _) (fun _ _ h => h)
  have gL : ((h.push (.cells (lgE room n nd ts false (ep + 1) row) 75 none)).push (.cells [.snil, .bool false, .int .i64 0, .snil] 75 none)).get h.n = .cells (lgE room n nd ts false (ep + 1) row) 75 none := get_p2 _ _ _
  have gZ : ((h.push (.cells (lgE room n nd ts false (ep + 1) row) 75 none)).push (.cells [.snil, .bool false, .int .i64 0, .snil] 75 none)).get (h.n + 1) = .cells [.snil, .bool false, .int .i64 0, .snil] 75 none := get_push_new
  have n0 : ((h.push (.cells (lgE room n nd ts false (ep + 1) row) 75 none)).push (.cells [.snil, .bool false, .int .i64 0, .snil] 75 none)).n = h.n + 2 := rfl
  generalize (h.push (.cells (lgE room n nd ts false (ep + 1) row) 75 none)).push (.cells [.snil, .bool false, .int .i64 0, .snil] 75 none) = H at k0 gL gZ n0 ⊢
  refine SWp.loopG (α := Nat × V) (fun x f h' => f 1 = .imm reach.length (boV reach) ∧ f 2 = .ptr h.n 0 ∧ f 4 = .ptr (h.n + 1) 0 ∧ f 6 = x.2 ∧ f 7 = .int .i64 (x.1 : Nat) ∧ x.1 ≤ n ∧
    h'.get h.n = .cells (lgE room n (allN (nseal room (ep + 1)) (rch reach) x.1 nd) ts false (ep + 1) row) 75 none ∧ h'.get (h.n + 1) = .cells [.snil, .bool false, .int .i64 0, .snil] 75 none ∧ Own h' 55 1 x.2 ((rowsN room (ep + 1) nd (fineN (nseal room (ep + 1)) (rch reach) nd) x.1).flatMap rowE) ∧ Keep h h' none_ ∧ (∀ j, idOf x.2 = some j → h.n + 2 ≤ j) ∧ h.n + 2 ≤ h'.n) (fun x => n - x.1) (0, .snil)
    ⟨rfl, rfl, rfl, rfl, rfl, Nat.zero_le _, by rw [allN_zero]; exact gL, gZ, Own.snil _ _ _, k0, (fun j hj => by cases hj), by omega⟩ ?_
  rintro ⟨i, v⟩ f h1 ⟨f1, f2, f4, f6, f7, hi, g1, z1, o1, k1, nw, lt1⟩
  simp only at f6 f7 hi g1 o1 nw
  refine wpI_sound (by kernel_rfl) ?_
  have nv1 : idOf v ≠ some h.n := fun hh => by have := nw _ hh; omega
  have nv2 : idOf v ≠ some (h.n + 1) := fun hh => by have := nw _ hh; omega
  by_cases hlt : i < n
  · have d1 : decide ((i : Int) < ((n : Nat) : Int)) = true := by simp; omega
    have hi1 : IntKind.i64.wrap ((i : Int) + 1) = ((i + 1 : Nat) : Int) := by rw [Go.IntWalk.i64_in _ (by omega)]; rfl
    simp only [bW, Nat.reduceEqDiff, ft_75_0, kt_72, lt_72, f1, f2, f7, g1, lgE_l0, d1]
    refine callI_pure cal69 (pReached reach i _) ?_
    by_cases hrc : rch reach i = true
    · rw [hrc]
      obtain ⟨rr, hx⟩ := ndsE_ix room (allN (nseal room (ep + 1)) (rch reach) i nd) ts hlt (kk := .i64)
      rw [allN_at] at hx
      have hS := fun h' => ySealO (ok i hlt) (ts i) (ep + 1) h'
      have hup := allN_upd (nseal room (ep + 1)) (rch reach) i nd hrc
      have hfine : (fineN (nseal room (ep + 1)) (rch reach) nd) i = (((nseal room (ep + 1)) (nd i)).2 == 0) := by unfold fineN; rw [hrc]; rfl
      have oi := (ok i hlt).nseal (ep + 1)
      obtain ⟨l1, l2, l3, l4, l5⟩ := oi.lens
      have hrow : rowsN room (ep + 1) nd (fineN (nseal room (ep + 1)) (rch reach) nd) (i + 1) = rowsN room (ep + 1) nd (fineN (nseal room (ep + 1)) (rch reach) nd) i ++ if (((nseal room (ep + 1)) (nd i)).2 == 0) = true then [(redoRL ((nseal room (ep + 1)) (nd i)).1).2] else [] := by rw [rowsN, hfine]
      have hsel : ((nseal room (ep + 1)) (nd i)).2 = 0 → selV room (ep + 1) (nd i) = .imm (redoRL ((nseal room (ep + 1)) (nd i)).1).2.length ((redoRL ((nseal room (ep + 1)) (nd i)).1).2.flatMap celE) := fun e => by unfold selV; rw [if_pos e]
      have hsel0 : ((nseal room (ep + 1)) (nd i)).2 ≠ 0 → selV room (ep + 1) (nd i) = .snil := fun e => by unfold selV; rw [if_neg e]
      have kN : Keep h1 (h1.push (.cells (yE room ((nseal room (ep + 1)) (nd i)).1 (ts i)) 40 none)) none_ := Keep.push _ _ _
      have gN : (h1.push (.cells (yE room ((nseal room (ep + 1)) (nd i)).1 (ts i)) 40 none)).get h1.n = .cells (yE room ((nseal room (ep + 1)) (nd i)).1 (ts i)) 40 none := get_push_new
      have g2 := (kN.get h.n (by omega) (fun hh => hh)).trans g1
      have z2 := (kN.get (h.n + 1) (by omega) (fun hh => hh)).trans z1
      have o2 := o1.keepN kN
      have k2 := k1.trans kN fun _ _ h => h
      have n2 : (h1.push (.cells (yE room ((nseal room (ep + 1)) (nd i)).1 (ts i)) 40 none)).n = h1.n + 1 := rfl
      have hwith := fun h' => pWith10 room n (allN (nseal room (ep + 1)) (rch reach) i nd) ts false (ep + 1) row (by omega) i hlt ((nseal room (ep + 1)) (nd i)).1 (ts i) h'
      rw [hup, updN_self] at hwith
      by_cases hz : ((nseal room (ep + 1)) (nd i)).2 = 0
      · have b1 : (((nseal room (ep + 1)) (nd i)).2 == 0) = true := by simpa using hz
        rw [hsel hz] at hS
        rw [b1, if_pos rfl] at hrow
        generalize hLL : (redoRL ((nseal room (ep + 1)) (nd i)).1).2 = LL at hS hrow l3
        simp only [bW, Nat.reduceEqDiff]
        refine SWp.drawnS none_ [12, 13] (.q 0 (.q 1 (.q 2 (.q 3 (.q 4 (.q 5 (.q 6 (.c 7 (.q 8 (.q 9 (.q 10 (.q 11 (.e 12 (.e 13 (.q 14 (.q 15 .done)) .stop) .stop))))))))))))) (by kernel_rfl) (by kernel_rfl) (by kernel_rfl) ?_
        simp only [bW, bS, Nat.reduceEqDiff, ft_75_0, ft_75_2, lt_3, lt_40, lt_72, f2, f7, g1, lgE_l0, D2, hx, yE_lab]
        refine siI_c rfl rfl rfl (fun h' _ => hS h') ?_
        simp only [bW, bS, Nat.reduceEqDiff, lt_75, zc_40, zt_40, f2, yE_s0d]
        generalize h1.push (.cells (yE room ((nseal room (ep + 1)) (nd i)).1 (ts i)) 40 none) = h2 at kN gN g2 z2 o2 k2 n2 ⊢
        simp only [bW, Nat.reduceEqDiff, lt_40, f7, g2, gN, lgE_l4b, yE_l6d]
        refine callI_pure cal70 (hwith _) ?_
        have g3 : (h2.set h.n (.cells (lgE room n (allN (nseal room (ep + 1)) (rch reach) (i + 1) nd) ts false (ep + 1) row) 75 none)).get h.n = .cells (lgE room n (allN (nseal room (ep + 1)) (rch reach) (i + 1) nd) ts false (ep + 1) row) 75 none := get_set_same
        have z3 : (h2.set h.n (.cells (lgE room n (allN (nseal room (ep + 1)) (rch reach) (i + 1) nd) ts false (ep + 1) row) 75 none)).get (h.n + 1) = .cells [.snil, .bool false, .int .i64 0, .snil] 75 none := (get_set_ne (by omega)).trans z2
        have o3 : Own (h2.set h.n (.cells (lgE room n (allN (nseal room (ep + 1)) (rch reach) (i + 1) nd) ts false (ep + 1) row) 75 none)) 55 1 v ((rowsN room (ep + 1) nd (fineN (nseal room (ep + 1)) (rch reach) nd) i).flatMap rowE) := o2.keep (Keep.set _ _ _) fun j hj hh => nv1 (by rw [hj, show j = h.n from hh])
        have k3 := k2.setNew (Nat.le_refl _) (.cells (lgE room n (allN (nseal room (ep + 1)) (rch reach) (i + 1) nd) ts false (ep + 1) row) 75 none)
        have n3 : (h2.set h.n (.cells (lgE room n (allN (nseal room (ep + 1)) (rch reach) (i + 1) nd) ts false (ep + 1) row) 75 none)).n = h2.n := rfl
        simp only [bW, Nat.reduceEqDiff, zt_75, f2, f6, g2, lgE_s4, b1]
        generalize h2.set h.n (.cells (lgE room n (allN (nseal room (ep + 1)) (rch reach) (i + 1) nd) ts false (ep + 1) row) 75 none) = h3 at g3 z3 o3 k3 n3 ⊢
        refine callI_pure cal71 (pReal LL (by omega) _) ?_
        obtain ⟨v4, h4, q4, o4, kp4, dd4⟩ := append_elemM (P := Tryz.prog) sl_134 (by decide) o3 (xs := rowE LL) rfl rfl (fun m hm => by
          have hm' : m * 1 = ((rowsN room (ep + 1) nd (fineN (nseal room (ep + 1)) (rch reach) nd) i).flatMap rowE).length + 1 := hm
          have hlen := rows_len rowE_len (rowsN room (ep + 1) nd (fineN (nseal room (ep + 1)) (rch reach) nd) i)
          have hcn := rowsN_len room (ep + 1) nd (fineN (nseal room (ep + 1)) (rch reach) nd) i
          have hcl := cntN_le (fineN (nseal room (ep + 1)) (rch reach) nd) i
          exact ⟨by show m * 24 ≤ lim; simp only [lim]; omega, by simp only [lim]; omega⟩)
        have lit4 := litRow10 h3 LL
        have n4 := kp4.n
        simp only [bW, Nat.reduceEqDiff, f7, lit4, q4, hi1]
        refine hid_mk ⟨(i + 1, v4), ⟨f1, f2, f4, rfl, rfl, hlt, (kp4.get h.n (by omega) (fun hh => nv1 hh)).trans g3, (kp4.get (h.n + 1) (by omega) (fun hh => nv2 hh)).trans z3, ?_, k3.trans kp4 fun q hq hh => by have := nw q hh; omega, fun j hj => ?_, by omega⟩, by simp only; omega⟩
        · rw [hrow, List.flatMap_append]
          simpa using o4
        · rcases dd4 with dd | dd
          · exact nw j (dd ▸ hj)
          · have := dd j hj; omega
      · have b1 : (((nseal room (ep + 1)) (nd i)).2 == 0) = false := by simpa using hz
        rw [hsel0 hz] at hS
        rw [b1, if_neg (by simp), List.append_nil] at hrow
        simp only [bW, Nat.reduceEqDiff]
        refine SWp.drawnS none_ [12, 13] (.q 0 (.q 1 (.q 2 (.q 3 (.q 4 (.q 5 (.q 6 (.c 7 (.q 8 (.q 9 (.q 10 (.q 11 (.e 12 (.e 13 (.q 14 (.q 15 .done)) .stop) .stop))))))))))))) (by kernel_rfl) (by kernel_rfl) (by kernel_rfl) ?_
        simp only [bW, bS, Nat.reduceEqDiff, ft_75_0, ft_75_2, lt_3, lt_40, lt_72, f2, f7, g1, lgE_l0, D2, hx, yE_lab]
        refine siI_c rfl rfl rfl (fun h' _ => hS h') ?_
        simp only [bW, bS, Nat.reduceEqDiff, lt_75, zc_40, zt_40, f2, yE_s0d]
        generalize h1.push (.cells (yE room ((nseal room (ep + 1)) (nd i)).1 (ts i)) 40 none) = h2 at kN gN g2 z2 o2 k2 n2 ⊢
        simp only [bW, Nat.reduceEqDiff, lt_40, f7, g2, gN, lgE_l4b, yE_l6d]
        refine callI_pure cal70 (hwith _) ?_
        simp only [bW, Nat.reduceEqDiff, zt_75, f2, f7, g2, lgE_s4, b1, hi1]
        exact hid_mk ⟨(i + 1, v), ⟨f1, f2, f4, f6, rfl, hlt, get_set_same, (get_set_ne (by omega)).trans z2, by rw [hrow]; exact o2.keep (Keep.set _ _ _) fun j hj hh => nv1 (by rw [hj, show j = h.n from hh]), k2.setNew (Nat.le_refl _) _, nw, by rw [set_n]; omega⟩, by simp only; omega⟩
    · have hrc' : rch reach i = false := by simpa using hrc
      have hno : rowsN room (ep + 1) nd (fineN (nseal room (ep + 1)) (rch reach) nd) (i + 1) = rowsN room (ep + 1) nd (fineN (nseal room (ep + 1)) (rch reach) nd) i := by rw [rowsN, if_neg (by unfold fineN; rw [hrc']; simp), List.append_nil]
      rw [hrc']
      simp only [bW, Nat.reduceEqDiff, f7, hi1]
      exact hid_mk ⟨(i + 1, v), ⟨f1, f2, f4, f6, rfl, hlt, by rw [allN_succ, if_neg hrc]; exact g1, z1, by rw [hno]; exact o1, k1, nw, lt1⟩, by simp only; omega⟩
  · have d1 : decide ((i : Int) < ((n : Nat) : Int)) = false := by simp; omega
    obtain rfl : n = i := by omega
    have hln := rowsN_len room (ep + 1) nd (fineN (nseal room (ep + 1)) (rch reach) nd) n
    have hcn := cntN_le (fineN (nseal room (ep + 1)) (rch reach) nd) n
    have rep := rowsN_rep (P := (fineN (nseal room (ep + 1)) (rch reach) nd)) room (ep + 1) n ok
    have hlen1 : aLen Tryz.prog 134 v h1 = some (.int .i64 (cntN (fineN (nseal room (ep + 1)) (rch reach) nd) n : Nat)) := by
      have := o1.length (by decide) Tryz.prog kt_134
      rw [rows_len rowE_len, Nat.mul_one, Nat.div_one, hln] at this
      exact this
    simp only [bW, Nat.reduceEqDiff, ft_75_0, kt_72, lt_72, f2, f6, f7, g1, lgE_l0, d1, hlen1]
    refine callI_pure cal72 (pNeed9 n (by omega) _) ?_
    by_cases hq : n / 2 + 1 ≤ cntN (fineN (nseal room (ep + 1)) (rch reach) nd) n
    rotate_left
    · have d2 : decide (((cntN (fineN (nseal room (ep + 1)) (rch reach) nd) n : Nat) : Int) < ((n / 2 + 1 : Nat) : Int)) = true := by rw [decide_eq_true_iff]; omega
      rw [if_neg hq] at hQ
      simp only [bW, Nat.reduceEqDiff, lt_75, zt_75, f2, f4, g1, z1, lgE_l4b, lgE_s0, d2, retA_ret, Tryz.results31, resultsC_2, resultA_tmp, resultA_cell, res2_some]
      rw [hQ]
      exact hid_mk ⟨_, Cast.refl _ _, k1.setNew (by omega) _⟩
    have d2 : decide (((cntN (fineN (nseal room (ep + 1)) (rch reach) nd) n : Nat) : Int) < ((n / 2 + 1 : Nat) : Int)) = false := by rw [decide_eq_false_iff_not]; omega
    rw [if_pos hq] at hQ
    simp only [bW, Nat.reduceEqDiff, f6, d2]
    obtain ⟨hc, cc, kc⟩ := Cast.own o1 (n := (rowsN room (ep + 1) nd (fineN (nseal room (ep + 1)) (rch reach) nd) n).length) (rows_len rowE_len _) (by decide)
    have hfl : (rowsN room (ep + 1) nd (fineN (nseal room (ep + 1)) (rch reach) nd) n).flatten.length ≤ 2 ^ 29 := by
      have h2 := rep.len
      have : n * mostC ≤ 100 * mostC := Nat.mul_le_mul_right _ hn
      unfold mostC at *
      omega
    refine callI_of cal73 (SCalls.args (CastL.cons cc (CastL.refl _ _)) (pMerge9 (rowsN room (ep + 1) nd (fineN (nseal room (ep + 1)) (rch reach) nd) n) (by omega) hfl hc)) fun r h2 ⟨e1, e2⟩ => ?_
    subst e1 e2
    have g2 := (kc.get h.n (by omega) (fun hh => nv1 hh)).trans g1
    have z2 := (kc.get (h.n + 1) (by omega) (fun hh => nv2 hh)).trans z1
    have k2 : Keep h h2 none_ := k1.trans kc fun q hq hh => by have := nw q hh; omega
    have n2 := kc.n
    have hmok := mergeN_ok (room := room) (E := ep + 1) (P := (fineN (nseal room (ep + 1)) (rch reach) nd)) ok
    have hup : Rise (mergeN room (ep + 1) nd (fineN (nseal room (ep + 1)) (rch reach) nd) n) := (mergeC_is _).up
    have hml : (mergeN room (ep + 1) nd (fineN (nseal room (ep + 1)) (rch reach) nd) n).length ≤ 2 ^ 29 := Nat.le_trans (mergeC_len _) hfl
    change (mergeN room (ep + 1) nd (fineN (nseal room (ep + 1)) (rch reach) nd) n).length ≤ 2 ^ 29 at hml
    rw [show mergeC (rowsN room (ep + 1) nd (fineN (nseal room (ep + 1)) (rch reach) nd) n).flatten = mergeN room (ep + 1) nd (fineN (nseal room (ep + 1)) (rch reach) nd) n from rfl]
    generalize mergeN room (ep + 1) nd (fineN (nseal room (ep + 1)) (rch reach) nd) n = M at hQ hmok hup hml ⊢
    have hat : ∀ c ∈ M, 0 ≤ c.at_ ∧ c.at_ < 4096 := fun c hc => (hmok c hc).2
    have hsl := seqLen_le hat
    have hRb := seqR_ok (fun c hc => (hmok c hc).1) (seqLen M)
    simp only [bW, Nat.reduceEqDiff]
    clear hlen1 o1 kc cc
    refine SWp.loopG (α := Nat × V) (fun x f h' => f 1 = .imm reach.length (boV reach) ∧ f 2 = .ptr h.n 0 ∧ f 4 = .ptr (h.n + 1) 0 ∧ f 11 = .imm M.length (M.flatMap celE) ∧ f 12 = x.2 ∧ f 13 = .int .i64 (x.1 : Nat) ∧ x.1 ≤ M.length ∧
      h'.get h.n = .cells (lgE room n ((allN (nseal room (ep + 1)) (rch reach) n nd)) ts false (ep + 1) row) 75 none ∧ h'.get (h.n + 1) = .cells [.snil, .bool false, .int .i64 0, .snil] 75 none ∧ Own h' 29 1 x.2 (seqV (M.take x.1) (seqLen (M.take x.1))) ∧ Keep h h' none_ ∧ (∀ j, idOf x.2 = some j → h.n + 2 ≤ j) ∧ h.n + 2 ≤ h'.n) (fun x => M.length - x.1) (0, .snil)
      ⟨f1, f2, f4, rfl, rfl, rfl, Nat.zero_le _, g2, z2, Own.snil _ _ _, k2, (fun j hj => by cases hj), by omega⟩ ?_
    clear f1 f2 f4 f6 f7 g1 z1 k1 nw lt1 nv1 nv2 d1 d2 g2 z2 k2 n2 f
    rintro ⟨i, v⟩ f h1 ⟨f1, f2, f4, f11, f12, f13, hi, g1, z1, o1, k1, nw, lt1⟩
    simp only at f12 f13 hi o1 nw
    refine wpI_sound (by kernel_rfl) ?_
    by_cases hlt : i < M.length
    · have d1 : decide ((i : Int) < ((M.length : Nat) : Int)) = true := by simp; omega
      have hi1 : IntKind.i64.wrap ((i : Int) + 1) = ((i + 1 : Nat) : Int) := by rw [Go.IntWalk.i64_in _ (by omega)]; rfl
      have hx := cel_ixA hlt (kk := .i64)
      have lx0 : ∀ r : List V, loadGo (some none) (some (celE M[i] ++ r)) = some (.int .i64 M[i].at_) := fun r => rfl
      have hx2 : ∀ (c : Cel) (r : List V), (if 2 ≤ (celE c ++ r).length then some (V.at (List.drop 2 (celE c ++ r))) else none) = some (V.at (.imm c.bytes.length (bytesV c.bytes) :: r)) := fun c r => if_pos (by simp [celE])
      have h0 := hat M[i] (List.getElem_mem _)
      have hsa := seqLen_at hup hat hlt
      obtain ⟨a, ha⟩ : ∃ a : Nat, M[i].at_ = (a : Int) := ⟨M[i].at_.toNat, by omega⟩
      have hstep : seqLen (M.take (i + 1)) = a + 1 := by rw [seqLen_take hlt]; omega
      simp only [bW, Nat.reduceEqDiff, kt_55, f11, f13, d1]
      refine SWp.loopG (α := Nat × V) (fun x f h' => f 1 = .imm reach.length (boV reach) ∧ f 2 = .ptr h.n 0 ∧ f 4 = .ptr (h.n + 1) 0 ∧ f 11 = .imm M.length (M.flatMap celE) ∧ f 12 = x.2 ∧ f 13 = .int .i64 (i : Nat) ∧ seqLen (M.take i) ≤ x.1 ∧ x.1 ≤ a ∧
        h'.get h.n = .cells (lgE room n ((allN (nseal room (ep + 1)) (rch reach) n nd)) ts false (ep + 1) row) 75 none ∧ h'.get (h.n + 1) = .cells [.snil, .bool false, .int .i64 0, .snil] 75 none ∧ Own h' 29 1 x.2 (seqV (M.take i) x.1) ∧ Keep h h' none_ ∧ (∀ j, idOf x.2 = some j → h.n + 2 ≤ j) ∧ h.n + 2 ≤ h'.n) (fun x => a - x.1) (seqLen (M.take i), v)
        ⟨f1, f2, f4, f11, f12, f13, Nat.le_refl _, by simp only; omega, g1, z1, o1, k1, nw, lt1⟩ ?_
      clear f1 f2 f4 f11 f12 f13 g1 z1 o1 k1 nw lt1 f
      rintro ⟨j, v⟩ f h1 ⟨f1, f2, f4, f11, f12, f13, hj1, hj2, g1, z1, o1, k1, nw, lt1⟩
      simp only at f12 hj1 hj2 o1 nw
      refine wpI_sound (by kernel_rfl) ?_
      have nv1 : idOf v ≠ some h.n := fun hh => by have := nw _ hh; omega
      have nv2 : idOf v ≠ some (h.n + 1) := fun hh => by have := nw _ hh; omega
      have hlen1 : aLen Tryz.prog 73 v h1 = some (.int .i64 (j : Nat)) := by
        have := o1.length (by decide) Tryz.prog kt_73
        rw [seqV_len, Nat.div_one] at this
        exact this
      have bnd : ∀ m, m * 1 = (seqV (M.take i) j).length + 1 → m * 24 ≤ lim ∧ m ≤ lim := fun m hm => by
        rw [seqV_len] at hm
        exact ⟨by simp only [lim]; omega, by simp only [lim]; omega⟩
      by_cases hja : j < a
      · have d3 : decide ((j : Int) < M[i].at_) = true := by simp; omega
        obtain ⟨v2, h2, q2, o2, kp2, dd2⟩ := append_elemM (P := Tryz.prog) sl_73 (by decide) o1 (xs := [.snil]) rfl rfl bnd
        have lit2 := litRow h1 .snil rfl rfl
        have n2 := kp2.n
        simp only [bW, Nat.reduceEqDiff, ft_48_0, lt_3, f11, f12, f13, hlen1, hx, lx0, d3, lit2, q2]
        refine hid_mk ⟨(j + 1, v2), ⟨f1, f2, f4, f11, rfl, f13, by simp only; omega, hja, (kp2.get h.n (by omega) (fun hh => nv1 hh)).trans g1, (kp2.get (h.n + 1) (by omega) (fun hh => nv2 hh)).trans z1, by rw [seqV_gap hup hat (by omega) hj1]; exact o2, k1.trans kp2 fun q hq hh => by have := nw q hh; omega, fun k hk => ?_, by omega⟩, by simp only; omega⟩
        rcases dd2 with dd | dd
        · exact nw k (dd ▸ hk)
        · have := dd k hk; omega
      · have d3 : decide ((j : Int) < M[i].at_) = false := by simp; omega
        obtain rfl : a = j := by omega
        obtain ⟨v2, h2, q2, o2, kp2, dd2⟩ := append_elemM (P := Tryz.prog) sl_73 (by decide) o1 (xs := [.imm M[i].bytes.length (bytesV M[i].bytes)]) rfl rfl bnd
        have lit2 := litRow h1 (.imm M[i].bytes.length (bytesV M[i].bytes)) rfl rfl
        have n2 := kp2.n
        simp only [bW, Nat.reduceEqDiff, ft_48_0, ft_48_2, lt_29, lt_3, f11, f12, f13, hlen1, hx, hx2, lx0, d3, lit2, q2, hi1]
        refine hid_mk ⟨(i + 1, v2), ⟨f1, f2, f4, f11, rfl, rfl, hlt, (kp2.get h.n (by omega) (fun hh => nv1 hh)).trans g1, (kp2.get (h.n + 1) (by omega) (fun hh => nv2 hh)).trans z1, by rw [hstep, seqV_cell hup hlt ha]; exact o2, k1.trans kp2 fun q hq hh => by have := nw q hh; omega, fun k hk => ?_, by omega⟩, by simp only; omega⟩
        rcases dd2 with dd | dd
        · exact nw k (dd ▸ hk)
        · have := dd k hk; omega
    · have d1 : decide ((i : Int) < ((M.length : Nat) : Int)) = false := by simp; omega
      rw [List.take_of_length_le (show M.length ≤ i by omega)] at o1
      have hRl := seqR_len M (seqLen M)
      simp only [bW, Nat.reduceEqDiff, kt_55, f11, f13, d1]
      have hokN := Okl.all ok (f := (nseal room (ep + 1))) (fun l o => o.nseal (ep + 1)) (rch reach)
      have hx0 : ∀ r : List V, ∀ x : V, loadGo (some none) (some (x :: r)) = some x := fun r x => rfl
      have nv1 : idOf v ≠ some h.n := fun hh => by have := nw _ hh; omega
      have nv2 : idOf v ≠ some (h.n + 1) := fun hh => by have := nw _ hh; omega
      refine SWp.loopG (α := Nat) (fun k f h' => f 1 = .imm reach.length (boV reach) ∧ f 2 = .ptr h.n 0 ∧ f 4 = .ptr (h.n + 1) 0 ∧ f 12 = v ∧ f 14 = .int .i64 (k : Nat) ∧ k ≤ seqLen M ∧ (wRow room n (ep + 1) (rch reach) ((seqR M (seqLen M)).take k) 0 (allN (nseal room (ep + 1)) (rch reach) n nd)).2 = true ∧
        h'.get h.n = .cells (lgE room n ((wRow room n (ep + 1) (rch reach) ((seqR M (seqLen M)).take k) 0 (allN (nseal room (ep + 1)) (rch reach) n nd)).1) ts false (ep + 1) row) 75 none ∧ h'.get (h.n + 1) = .cells [.snil, .bool false, .int .i64 0, .snil] 75 none ∧ Own h' 29 1 v (seqV M (seqLen M)) ∧ Keep h h' none_ ∧ h.n + 2 ≤ h'.n) (fun k => seqLen M - k) 0
        ⟨f1, f2, f4, f12, rfl, Nat.zero_le _, rfl, g1, z1, o1, k1, lt1⟩ ?_
      clear f1 f2 f4 f11 f12 f13 g1 z1 o1 k1 lt1 f
      rintro k f h1 ⟨f1, f2, f4, f12, f14, hk, hok, g1, z1, o1, k1, lt1⟩
      refine wpI_sound (by kernel_rfl) ?_
      have hlen1 : aLen Tryz.prog 73 v h1 = some (.int .i64 (seqLen M : Nat)) := by
        have := o1.length (by decide) Tryz.prog kt_73
        rw [seqV_len, Nat.div_one] at this
        exact this
      by_cases hlt2 : k < seqLen M
      · have d2 : decide ((k : Int) < ((seqLen M : Nat) : Int)) = true := by simp; omega
        have hk1 : IntKind.i64.wrap ((k : Int) + 1) = ((k + 1 : Nat) : Int) := by rw [Go.IntWalk.i64_in _ (by omega)]; rfl
        have hkV : k < (seqV M (seqLen M)).length := by rw [seqV_len]; exact hlt2
        have hkR : k < (seqR M (seqLen M)).length := by rw [hRl]; exact hlt2
        obtain ⟨bi, y0, hb0, ⟨q0, e0⟩, _⟩ := own_elem (P := Tryz.prog) (t := 73) (kk := .i64) ss_73 o1 (k := k) hkV
        have hbk := hRb _ (List.getElem_mem hkR)
        have okk : ∀ q, q < n → Okl room ((wRow room n (ep + 1) (rch reach) ((seqR M (seqLen M)).take k) 0 (allN (nseal room (ep + 1)) (rch reach) n nd)).1 q) := Okl.wRow _ _ _ (fun b hb => (hRb b (List.mem_of_mem_take hb)).2) hokN
        have hsn : (wRow room n (ep + 1) (rch reach) ((seqR M (seqLen M)).take (k + 1)) 0 (allN (nseal room (ep + 1)) (rch reach) n nd)) = wrL room n (ep + 1) (k : Nat) (seqR M (seqLen M))[k] (rch reach) (wRow room n (ep + 1) (rch reach) ((seqR M (seqLen M)).take k) 0 (allN (nseal room (ep + 1)) (rch reach) n nd)).1 := by
          rw [List.take_succ_eq_append_getElem hkR, wRow_snoc _ _ _ _ hok, List.length_take, Nat.min_eq_left (by omega), Nat.zero_add]
        have hW : ∀ h', Pure Tryz.prog 65 [.agg (lgE room n ((wRow room n (ep + 1) (rch reach) ((seqR M (seqLen M)).take k) 0 (allN (nseal room (ep + 1)) (rch reach) n nd)).1) ts false (ep + 1) row), .int .i64 (k : Nat), (seqV M (seqLen M))[k], .imm reach.length (boV reach)] h' (.tuple [.agg (lgE room n ((wRow room n (ep + 1) (rch reach) ((seqR M (seqLen M)).take (k + 1)) 0 (allN (nseal room (ep + 1)) (rch reach) n nd)).1) ts false (ep + 1) row), .bool (wRow room n (ep + 1) (rch reach) ((seqR M (seqLen M)).take (k + 1)) 0 (allN (nseal room (ep + 1)) (rch reach) n nd)).2]) := fun h' => by
          rw [hsn]
          exact Pure.args (CastL.skip (CastL.skip (CastL.cons (seqV_get hkV hkR h') (CastL.refl _ _)))) (pWrite10 room n (wRow room n (ep + 1) (rch reach) ((seqR M (seqLen M)).take k) 0 (allN (nseal room (ep + 1)) (rch reach) n nd)).1 ts false (ep + 1) row (by omega) okk (k : Nat) (seqR M (seqLen M))[k] hbk.2 (by omega) reach h')
        generalize hel : (seqV M (seqLen M))[k] = el at e0 hW
        generalize hWW : (wRow room n (ep + 1) (rch reach) ((seqR M (seqLen M)).take (k + 1)) 0 (allN (nseal room (ep + 1)) (rch reach) n nd)) = W at hW
        simp only [bW, Nat.reduceEqDiff, f12, f14, hlen1, d2]
        refine SWp.drawnS none_ [11, 12] (.q 0 (.q 1 (.q 2 (.q 3 (.q 4 (.q 5 (.q 6 (.c 7 (.q 8 (.q 9 (.q 10 (.e 11 (.e 12 (.q 13 .done) .stop) .stop)))))))))))) (by kernel_rfl) (by kernel_rfl) (by kernel_rfl) ?_
        simp only [bW, bS, Nat.reduceEqDiff, lt_29, lt_75, f1, f2, f12, f14, g1, lgE_l4b, y0, e0, hx0]
        refine siI_c rfl rfl rfl (fun h' _ => hW h') ?_
        simp only [bW, bS, Nat.reduceEqDiff, lt_75, zc_75, zt_75, f2, lgE_l4b, lgE_s0]
        obtain ⟨ndW, w⟩ := W
        simp only at hW ⊢
        have kN : Keep h1 (h1.push (.cells (lgE room n (ndW) ts false (ep + 1) row) 75 none)) none_ := Keep.push _ _ _
        have gN : (h1.push (.cells (lgE room n (ndW) ts false (ep + 1) row) 75 none)).get h1.n = .cells (lgE room n (ndW) ts false (ep + 1) row) 75 none := get_push_new
        have g2 := (kN.get h.n (by omega) (fun hh => hh)).trans g1
        have z2 := (kN.get (h.n + 1) (by omega) (fun hh => hh)).trans z1
        have o2 := o1.keepN kN
        have k2 := k1.trans kN fun _ _ h => h
        have n2 : (h1.push (.cells (lgE room n (ndW) ts false (ep + 1) row) 75 none)).n = h1.n + 1 := rfl
        generalize h1.push (.cells (lgE room n (ndW) ts false (ep + 1) row) 75 none) = h2 at kN gN g2 z2 o2 k2 n2 ⊢
        have g3 : (h2.set h.n (.cells (lgE room n (ndW) ts false (ep + 1) row) 75 none)).get h.n = .cells (lgE room n (ndW) ts false (ep + 1) row) 75 none := get_set_same
        have z3 : (h2.set h.n (.cells (lgE room n (ndW) ts false (ep + 1) row) 75 none)).get (h.n + 1) = .cells [.snil, .bool false, .int .i64 0, .snil] 75 none := (get_set_ne (by omega)).trans z2
        have o3 := o2.keep (Keep.set h2 h.n (.cells (lgE room n (ndW) ts false (ep + 1) row) 75 none)) fun j hj hh => nv1 (by rw [hj, show j = h.n from hh])
        have k3 := k2.setNew (Nat.le_refl _) (.cells (lgE room n (ndW) ts false (ep + 1) row) 75 none)
        cases w with
        | true =>
          simp only [bW, Nat.reduceEqDiff, f14, g2, lgE_s4, hk1]
          exact hid_mk ⟨k + 1, ⟨f1, f2, f4, f12, rfl, hlt2, by rw [hWW], by rw [hWW]; exact g3, z3, o3, k3, by rw [set_n]; omega⟩, by omega⟩
        | false =>
          have hst : (wRow room n (ep + 1) (rch reach) ((seqR M (seqLen M))) 0 (allN (nseal room (ep + 1)) (rch reach) n nd)) = (ndW, false) := by
            have := wRow_stop (room := room) (n := n) (ep := ep + 1) (rc := (rch reach)) ((seqR M (seqLen M)).take (k + 1)) ((seqR M (seqLen M)).drop (k + 1)) 0 (allN (nseal room (ep + 1)) (rch reach) n nd) (by rw [hWW])
            rw [List.take_append_drop, hWW] at this
            exact this
          rw [hst, if_neg (show ¬ (false = true) by decide)] at hQ
          simp only [bW, Nat.reduceEqDiff, lt_75, zt_75, f2, f4, g2, z3, lgE_l4b, lgE_s4, lgE_s0, retA_ret, Tryz.results31, resultsC_2, resultA_tmp, resultA_cell, res2_some]
          rw [hQ]
          exact hid_mk ⟨_, Cast.refl _ _, k3.setNew (by omega) _⟩
      · have d2 : decide ((k : Int) < ((seqLen M : Nat) : Int)) = false := by simp; omega
        have htk : (seqR M (seqLen M)).take k = (seqR M (seqLen M)) := List.take_of_length_le (by omega)
        rw [htk] at hok g1
        rw [if_pos hok] at hQ
        generalize (wRow room n (ep + 1) (rch reach) ((seqR M (seqLen M))) 0 (allN (nseal room (ep + 1)) (rch reach) n nd)) = W at hok g1 hQ
        obtain ⟨ndW, w⟩ := W
        simp only at hok g1 hQ
        obtain ⟨vc, vo⟩ := one_of_own o1
        have s3 := lgV_s3 (room := room) (n := n) (nd := ndW) (ts := ts) (op := false) (ep := ep + 1) (row := row) vo
        have s0 := lgV_s0 (room := room) (n := n) (nd := ndW) (ts := ts) (op := true) (ep := ep + 1) vo
        have g2 : ∀ o, (h1.set h.n o).get h.n = o := fun o => get_set_same
        have z2 : ∀ o, (h1.set h.n o).get (h.n + 1) = h1.get (h.n + 1) := fun o => get_set_ne (by omega)
        simp only [bW, Nat.reduceEqDiff, Nat.reduceAdd, ft_75_1, ft_75_3, lt_75, zt_4, zt_73, zt_75, f2, f4, f12, f14, hlen1, d2, g1, vc, s3, lgV_b2, lgV_l4b, z2, z1, s0, retA_ret, Tryz.results31, resultsC_2, resultA_tmp, resultA_cell, res2_some]
        rw [hQ]
        have kS : ∀ o o', Keep h ((h1.set h.n o).set (h.n + 1) o') none_ := fun o o' => (k1.setNew (Nat.le_refl _) _).setNew (by omega) _
        have oS : ∀ o o', Own ((h1.set h.n o).set (h.n + 1) o') 29 1 v (seqV M (seqLen M)) := fun o o' => (o1.keep (Keep.set _ _ _) fun j hj hh => nv1 (by rw [hj, show j = h.n from hh])).keep (Keep.set _ _ _) fun j hj hh => nv2 (by rw [hj, show j = h.n + 1 from hh])
        have fin : ∀ o o', ∃ h3, Cast v ((h1.set h.n o).set (h.n + 1) o') (.imm (seqR M (seqLen M)).length (rowV (seqR M (seqLen M)))) h3 ∧ Keep h h3 none_ := fun o o' => by
          obtain ⟨h4, c4, o4, k4⟩ := castOwnS (es := rowV (seqR M (seqLen M))) (oS o o') (fun r => seqV_cast M (seqLen M) _ r) (by rw [rowV_len, seqV_len, hRl])
          obtain ⟨h5, c5, k5⟩ := Cast.own o4 (n := (seqR M (seqLen M)).length) (by rw [rowV_len, Nat.mul_one]) (by decide)
          exact ⟨h5, c4.trans c5, ((kS o o').trans k4 fun q hq hh => by have := nw q hh; omega).trans k5 fun q hq hh => by have := nw q hh; omega⟩
        obtain ⟨h3, c, k⟩ := fin _ _
        exact hid_mk ⟨h3, Cast.tuple (CastL.cons (lgV_cast c) (CastL.refl _ _)), k⟩
end Go.Proofs.YtilgpaibolollaaGreat.Pk
