/-
  What functions of the program do, told of abstract states. Conditions: as each theorem says.
-/
import Derived.Test.YtilgpaibolollaaGreatMd
import Derived.Test.YtilgpaibolollaaGreatMc
import Derived.Test.YtilgpaibolollaaGreatAbD
namespace Go.Proofs.YtilgpaibolollaaGreat.Pk
open Go Go.Proofs Go.Proofs.YtilgpaibolollaaGreat.Ab
set_option maxRecDepth 10000
set_option linter.unusedVariables false
set_option linter.unusedSimpArgs false
theorem pRowR (room torn : Int) (l m : List Nat) (hb : ∀ x ∈ l ++ m, x < 256) (hl : (l ++ m).length ≤ 2 ^ 30) (h : AHeap) :
    SCalls Tryz.prog 46 [.agg (sgE room l m torn)] h (fun r h' => Acc h h' 29 1 r (rowV (scanF (l ++ m).length (l ++ m)).1)) := by
  refine SCalls.enterI (c := _) Tryz.func46 rfl (by kernel_rfl) (by simp) ?_
  have hcl : (V.agg (sgE room l m torn)).cells = some (sgE room l m torn) := rfl
  have hlm : (nI l).length + (nI m).length = (l ++ m).length := by rw [nI_len, nI_len, List.length_append]
  have hld : loadGo (some (some 3)) (some (sgE room l m torn)) = some (.agg (xE room (nI l) (nI m))) := rfl
  simp only [bW, Nat.reduceEqDiff, ft_37_0, lt_31, hcl, hld]
  refine callI_pure cal86 (rDBytes room (nI l) (nI m) (by omega) _) ?_
  rw [← nI_app, bV_nI, nI_len]
  simp only [bW, Nat.reduceEqDiff]
  refine callI_of cal85 (pScanR (l ++ m) _ hb hl) fun r h1 ⟨v, er, a1⟩ => ?_
  subst er
  simp only [bW, Nat.reduceEqDiff, retA_ret, Tryz.results46, resultsA_1]
  exact hid_mk (Acc.base (Keep.push _ _ _) a1)
def putRV (room torn : Int) (l m b : List Nat) : V :=
  if 4096 < b.length then .tuple [.agg (sgE room l m torn), .int .i64 2]
  else if ((l ++ m).length + (frame b).length : Int) ≤ room then .tuple [.agg (sgE room l (m ++ frame b) torn), .int .i64 0]
  else .tuple [.agg (sgE room l m torn), .int .i64 3]
theorem pPutR (room torn : Int) (l m b : List Nat) (hr : room ≤ 1048576) (hl : (l ++ m).length ≤ 2 ^ 30) (hb : ∀ x ∈ b, x < 256) (hbl : b.length ≤ 2 ^ 40) (h : AHeap) :
    Pure Tryz.prog 93 [.agg (sgE room l m torn), .imm b.length (bytesV b)] h (putRV room torn l m b) := by
  have hclo : Clo (putRV room torn l m b) := by
    unfold putRV
    split
    · exact Clo.tuple (CloL.cons (Clo.agg (sgE_clo _ _ _ _)) (CloL.cons (Clo.int _ _) CloL.nil))
    · split <;> exact Clo.tuple (CloL.cons (Clo.agg (sgE_clo _ _ _ _)) (CloL.cons (Clo.int _ _) CloL.nil))
  refine Pure.val hclo ?_
  refine SCalls.enterI (c := _) Tryz.func93 rfl (by kernel_rfl) (by simp) ?_
  have hcl : (V.agg (sgE room l m torn)).cells = some (sgE room l m torn) := rfl
  have hlm : (nI l).length + (nI m).length = (l ++ m).length := by rw [nI_len, nI_len, List.length_append]
  have hld : loadGo (some (some 3)) (some (sgE room l m torn)) = some (.agg (xE room (nI l) (nI m))) := rfl
  simp only [bW, Nat.reduceEqDiff, zc_37, hcl]
  have l4 : ∀ m : List Nat, (if 4 ≤ (sgE room l m torn).length then some (V.agg (List.take 4 (sgE room l m torn))) else none) = some (.agg (sgE room l m torn)) := fun m => rfl
  have l3 : (if 3 ≤ (sgE room l m torn).length then some (V.agg (List.take 3 (sgE room l m torn))) else none) = some (.agg (xE room (nI l) (nI m))) := rfl
  have hc4 : ∀ m : List Nat, (V.agg (sgE room l m torn)).cells = some (sgE room l m torn) := fun m => rfl
  have s4 : ∀ m : List Nat, setC (some 4) (AObj.cells [.int .i64 0, .snil, .snil, .int .i64 0] 37 none) 0 (sgE room l m torn) = some (.cells (sgE room l m torn) 37 none) := fun m => rfl
  have hld4 : ∀ m : List Nat, loadGo (some (some 4)) (some (sgE room l m torn)) = some (.agg (sgE room l m torn)) := fun m => rfl
  have k0 : Keep h ((h.push (.cells (sgE room l m torn) 37 none)).push (.cells [.int .i64 0, .snil, .snil, .int .i64 0] 37 none)) none_ := (Keep.push _ _ _).trans (Keep.push _ _ _) (fun _ _ h => h)
  have g0 : ((h.push (.cells (sgE room l m torn) 37 none)).push (.cells [.int .i64 0, .snil, .snil, .int .i64 0] 37 none)).get h.n = .cells (sgE room l m torn) 37 none := get_p2 _ _ _
  have z0 : ((h.push (.cells (sgE room l m torn) 37 none)).push (.cells [.int .i64 0, .snil, .snil, .int .i64 0] 37 none)).get (h.n + 1) = .cells [.int .i64 0, .snil, .snil, .int .i64 0] 37 none := get_push_new
  have n0 : ((h.push (.cells (sgE room l m torn) 37 none)).push (.cells [.int .i64 0, .snil, .snil, .int .i64 0] 37 none)).n = h.n + 2 := rfl
  generalize (h.push (.cells (sgE room l m torn) 37 none)).push (.cells [.int .i64 0, .snil, .snil, .int .i64 0] 37 none) = H at k0 g0 z0 n0 ⊢
  refine callI_pure cal114 (pFrameR b hb _ (by omega)) ?_
  unfold frameV
  by_cases hbig : 4096 < b.length
  · rw [if_pos hbig]
    simp only [bW, Int.reduceBNe, Nat.reduceEqDiff, lt_37, zt_37, g0, z0, hc4, s4, hld4, retA_ret, Tryz.results93, resultsC_2, resultA_tmp, resultA_cell, res2_some]
    exact hid_mk ⟨by rw [putRV, if_pos hbig], k0.trans (Keep.set _ _ _) fun x hx hh => by omega⟩
  rw [if_neg hbig]
  simp only [bW, Nat.reduceEqDiff, ft_37_0, lt_31, g0, l3]
  have hfl : (frame b).length ≤ 2 ^ 40 := by
    unfold frame encBytes
    have := (enc_le b.length (by omega)).2
    rw [List.length_append, List.length_append]
    show _ + 4 ≤ _
    omega
  rw [← bV_nI (frame b), ← nI_len (frame b)]
  refine callI_pure cal21 (rAppend room (nI l) (nI m) (nI (frame b)) _ hr (by omega) (by rw [nI_len]; omega)) ?_
  have hcond : ((nI l).length + (nI m).length + (nI (frame b)).length : Int) ≤ room ↔ ((l ++ m).length + (frame b).length : Int) ≤ room := by rw [← Int.natCast_add, hlm, nI_len]
  by_cases hfit : ((l ++ m).length + (frame b).length : Int) ≤ room
  · rw [if_pos (hcond.2 hfit), ← nI_app]
    have s3 : setC (some 3) (AObj.cells [.int .i64 0, .snil, .snil] 31 none) 0 (xE room (nI l) (nI (m ++ frame b))) = some (.cells (xE room (nI l) (nI (m ++ frame b))) 31 none) := rfl
    have c3 : (V.agg (xE room (nI l) (nI (m ++ frame b)))).cells = some (xE room (nI l) (nI (m ++ frame b))) := rfl
    have d3 : (if 3 ≤ (xE room (nI l) (nI (m ++ frame b))).length then some (V.agg (List.take 3 (xE room (nI l) (nI (m ++ frame b))))) else none) = some (.agg (xE room (nI l) (nI (m ++ frame b)))) := rfl
    have t3 : setC (some 3) (AObj.cells (sgE room l m torn) 37 none) 0 (xE room (nI l) (nI (m ++ frame b))) = some (.cells (sgE room l (m ++ frame b) torn) 37 none) := rfl
    have k2 : Keep H (H.push (.cells (xE room (nI l) (nI (m ++ frame b))) 31 none)) none_ := Keep.push _ _ _
    have g2 : (H.push (.cells (xE room (nI l) (nI (m ++ frame b))) 31 none)).get H.n = .cells (xE room (nI l) (nI (m ++ frame b))) 31 none := get_push_new
    have g3 := (k2.get h.n (by omega) (fun h => h)).trans g0
    have z3 := (k2.get (h.n + 1) (by omega) (fun h => h)).trans z0
    have n3 : (H.push (.cells (xE room (nI l) (nI (m ++ frame b))) 31 none)).n = H.n + 1 := rfl
    simp only [bW, Nat.reduceEqDiff, lt_31, zc_31, zt_31, s3, c3]
    generalize H.push (.cells (xE room (nI l) (nI (m ++ frame b))) 31 none) = H2 at k2 g2 g3 z3 n3 ⊢
    have g4 : (H2.set h.n (.cells (sgE room l (m ++ frame b) torn) 37 none)).get h.n = .cells (sgE room l (m ++ frame b) torn) 37 none := get_set_same
    have z4 : (H2.set h.n (.cells (sgE room l (m ++ frame b) torn) 37 none)).get (h.n + 1) = .cells [.int .i64 0, .snil, .snil, .int .i64 0] 37 none := (get_set_ne (by omega)).trans z3
    have l5 := l4 (m ++ frame b)
    simp only [bW, Nat.reduceEqDiff, ft_37_0, lt_37, zt_31, zt_37, d3, c3, g3, t3, z4, hc4, s4, hld4, retA_ret, Tryz.results93, resultsC_2, resultA_tmp, resultA_cell, res2_some]
    exact hid_mk ⟨by rw [putRV, if_neg hbig, if_pos hfit], ((k0.trans k2 fun _ _ h => h).trans (Keep.set _ _ _) fun x hx hh => by omega).trans (Keep.set _ _ _) fun x hx hh => by omega⟩
  · rw [if_neg (fun h => hfit (hcond.1 h))]
    have s3 : setC (some 3) (AObj.cells [.int .i64 0, .snil, .snil] 31 none) 0 (xE room (nI l) (nI (m))) = some (.cells (xE room (nI l) (nI (m))) 31 none) := rfl
    have c3 : (V.agg (xE room (nI l) (nI (m)))).cells = some (xE room (nI l) (nI (m))) := rfl
    have d3 : (if 3 ≤ (xE room (nI l) (nI (m))).length then some (V.agg (List.take 3 (xE room (nI l) (nI (m))))) else none) = some (.agg (xE room (nI l) (nI (m)))) := rfl
    have t3 : setC (some 3) (AObj.cells (sgE room l m torn) 37 none) 0 (xE room (nI l) (nI (m))) = some (.cells (sgE room l (m) torn) 37 none) := rfl
    have k2 : Keep H (H.push (.cells (xE room (nI l) (nI (m))) 31 none)) none_ := Keep.push _ _ _
    have g2 : (H.push (.cells (xE room (nI l) (nI (m))) 31 none)).get H.n = .cells (xE room (nI l) (nI (m))) 31 none := get_push_new
    have g3 := (k2.get h.n (by omega) (fun h => h)).trans g0
    have z3 := (k2.get (h.n + 1) (by omega) (fun h => h)).trans z0
    have n3 : (H.push (.cells (xE room (nI l) (nI (m))) 31 none)).n = H.n + 1 := rfl
    simp only [bW, Nat.reduceEqDiff, lt_31, zc_31, zt_31, s3, c3]
    generalize H.push (.cells (xE room (nI l) (nI (m))) 31 none) = H2 at k2 g2 g3 z3 n3 ⊢
    have g4 : (H2.set h.n (.cells (sgE room l (m) torn) 37 none)).get h.n = .cells (sgE room l (m) torn) 37 none := get_set_same
    have z4 : (H2.set h.n (.cells (sgE room l (m) torn) 37 none)).get (h.n + 1) = .cells [.int .i64 0, .snil, .snil, .int .i64 0] 37 none := (get_set_ne (by omega)).trans z3
    have l5 := l4 (m)
    simp only [bW, Nat.reduceEqDiff, ft_37_0, lt_37, zt_31, zt_37, d3, c3, g3, t3, z4, hc4, s4, hld4, retA_ret, Tryz.results93, resultsC_2, resultA_tmp, resultA_cell, res2_some]
    exact hid_mk ⟨by rw [putRV, if_neg hbig, if_neg hfit], ((k0.trans k2 fun _ _ h => h).trans (Keep.set _ _ _) fun x hx hh => by omega).trans (Keep.set _ _ _) fun x hx hh => by omega⟩
end Go.Proofs.YtilgpaibolollaaGreat.Pk
namespace Go.Proofs.YtilgpaibolollaaGreat.Pk
open Go Go.Proofs Go.Proofs.YtilgpaibolollaaGreat.Ab
set_option maxRecDepth 10000
set_option linter.unusedVariables false
set_option linter.unusedSimpArgs false
/-! ### Layer 8 of the reference: Tail, Read -/
def tailR (l : List Cel) : Int := (l.getLast?.map (·.at_ + 1)).getD 0
theorem pTailR (room : Int) (s m : List Nat) (torn : Int) (n : RNd) (hl : n.2.length ≤ 2 ^ 40) (hk : ∀ c ∈ n.2, 0 ≤ c.at_ ∧ c.at_ < 4096) (h : AHeap) : Pure Tryz.prog 24 [.agg (rnE room s m torn n)] h (.int .i64 (tailR n.2)) := by
  obtain ⟨ep, l⟩ := n
  simp only at hl hk
  refine Pure.val (Clo.int _ _) ?_
  refine SCalls.enterI (c := _) Tryz.func24 rfl (by kernel_rfl) (by simp) ?_
  have hcl : (V.agg (rnE room s m torn (ep, l))).cells = some (rnE room s m torn (ep, l)) := rfl
  have k0 : Keep h (h.push (.cells (rnE room s m torn (ep, l)) 40 none)) none_ := Keep.push _ _ _
  have g0 : (h.push (.cells (rnE room s m torn (ep, l)) 40 none)).get h.n = .cells (rnE room s m torn (ep, l)) 40 none := get_push_new
  have e5 : dropC (AObj.cells (rnE room s m torn (ep, l)) 40 none) 5 = some [.imm l.length (l.flatMap celE)] := rfl
  by_cases h0 : l = []
  · subst h0
    have d1 : ((((([] : List Cel).length : Nat) : Int)) == 0) = true := rfl
    simp only [bW, Nat.reduceEqDiff, ft_40_2, kt_38, lt_38, hcl, g0, e5]
    exact hid_mk ⟨rfl, k0⟩
  · have hpos : 0 < l.length := List.length_pos_iff.2 h0
    have d1 : (((l.length : Nat) : Int) == 0) = false := by simpa using h0
    have w1 : IntKind.i64.wrap (((l.length : Nat) : Int) - 1) = ((l.length - 1 : Nat) : Int) := by rw [Go.IntWalk.i64_in _ (by omega)]; omega
    have hx := cel_ixR (l := l) (k := l.length - 1) (by omega) (kk := .i64)
    have l0 : loadGo (some none) (some (celE l[l.length - 1] ++ (l.drop (l.length - 1 + 1)).flatMap celE)) = some (.int .i64 l[l.length - 1].at_) := rfl
    have hr := hk l[l.length - 1] (List.getElem_mem _)
    have w2 : IntKind.i64.wrap (l[l.length - 1].at_ + 1) = l[l.length - 1].at_ + 1 := Go.IntWalk.i64_in _ (by omega)
    have ht : tailR l = l[l.length - 1].at_ + 1 := by
      unfold tailR
      rw [List.getLast?_eq_getElem?, List.getElem?_eq_getElem (by omega)]
      rfl
    simp only [bW, Nat.reduceEqDiff, ft_40_2, ft_51_0, kt_38, lt_3, lt_38, hcl, g0, e5, d1, w1, hx, l0, w2, retA_ret, Tryz.results24, resultsA_1]
    exact hid_mk ⟨by rw [ht], k0⟩
def readRV (l : List Cel) (k : Int) : V := match rfind l k with | some c => .tuple [.agg (celE c), .int .i64 0] | none => .tuple [.agg (celE ⟨0, 0, []⟩), .int .i64 6]
theorem findI_rfind (l : List Cel) (k : Int) : (rfind l k = none ∧ findI l k = -1) ∨ ∃ (i : Nat) (hi : i < l.length), findI l k = (i : Int) ∧ rfind l k = some l[i] := by
  unfold rfind findI
  cases h : l.findIdx? (fun c => decide (c.at_ = k)) with
  | none =>
    refine .inl ⟨?_, rfl⟩
    rw [List.find?_eq_none]
    exact fun x hx => by simpa using (List.findIdx?_eq_none_iff.1 h) x hx
  | some i =>
    obtain ⟨hi, h1, h2⟩ := List.findIdx?_eq_some_iff_getElem.1 h
    refine .inr ⟨i, hi, rfl, ?_⟩
    rw [List.find?_eq_some_iff_getElem]
    exact ⟨h1, i, hi, rfl, fun j hj => by simpa using h2 j hj⟩
end Go.Proofs.YtilgpaibolollaaGreat.Pk
namespace Go.Proofs.YtilgpaibolollaaGreat.Pk
open Go Go.Proofs Go.Proofs.YtilgpaibolollaaGreat.Ab
set_option maxRecDepth 10000
set_option linter.unusedVariables false
set_option linter.unusedSimpArgs false
theorem celZR (h : AHeap) : Cast (.tuple [.agg [.int .i64 0, .int .i64 0, .snil], .int .i64 6]) h (.tuple [.agg (celE ⟨0, 0, []⟩), .int .i64 6]) h :=
  Cast.tuple (CastL.cons (Pk.Cast.agg (CastL.skip (CastL.skip (CastL.last (Cast.nil0 h))))) (CastL.refl _ _))
theorem readRV_clo (l : List Cel) (k : Int) : Clo (readRV l k) := by
  unfold readRV
  split <;> exact Clo.tuple (CloL.cons (Clo.agg (celE_clo _)) (CloL.cons (Clo.int _ _) CloL.nil))
theorem pReadR (room : Int) (s m : List Nat) (torn : Int) (n : RNd) (hl : n.2.length ≤ 2 ^ 40) (k : Int) (h : AHeap) : Pure Tryz.prog 13 [.agg (rnE room s m torn n), .int .i64 k] h (readRV n.2 k) := by
  obtain ⟨ep, l⟩ := n
  simp only at hl
  refine Pure.of (readRV_clo _ _) ?_
  refine SCalls.enterI (c := _) Tryz.func13 rfl (by kernel_rfl) (by simp) ?_
  have hcl : (V.agg (rnE room s m torn (ep, l))).cells = some (rnE room s m torn (ep, l)) := rfl
  have hld : loadGo (some (some 6)) (some (rnE room s m torn (ep, l))) = some (.agg (rnE room s m torn (ep, l))) := rfl
  have e5 : dropC (AObj.cells (rnE room s m torn (ep, l)) 40 none) 5 = some [.imm l.length (l.flatMap celE)] := rfl
  simp only [bW, Nat.reduceEqDiff, lt_40, zc_51, hcl, hld]
  refine callI_pure cal51 (pFindR room s m torn (ep, l) hl k _) ?_
  rcases findI_rfind l k with ⟨h1, h2⟩ | ⟨i, hi, h1, h2⟩
  · have c1 : decide ((-1 : Int) < 0) = true := rfl
    simp only
    rw [h2]
    have hrv : readRV l k = .tuple [.agg (celE ⟨0, 0, []⟩), .int .i64 6] := by unfold readRV; rw [h1]
    simp only [bW, Int.reduceLT, Int.reduceNeg, Nat.reduceEqDiff, Nat.reduceAdd, lt_51, pl_51, zc_51, zt_51, retA_ret, Tryz.results13, resultsC_2, resultA_tmp, resultA_cell, res2_some]
    exact hid_mk ⟨_, by rw [hrv]; exact celZR _, (Keep.push _ _ _).trans (Keep.push _ _ _) (fun _ _ h => h)⟩
  · have c1 : decide (((i : Nat) : Int) < 0) = false := by simp
    have hx := cel_ixR hi (kk := .i64)
    have l0 : loadGo (some (some 3)) (some (celE l[i] ++ (l.drop (i + 1)).flatMap celE)) = some (.agg (celE l[i])) := rfl
    simp only
    rw [h1]
    have hrv : readRV l k = .tuple [.agg (celE l[i]), .int .i64 0] := by unfold readRV; rw [h2]
    have s3 : setC (some 3) (AObj.cells [.int .i64 0, .int .i64 0, .snil] 51 none) 0 (celE l[i]) = some (.cells (celE l[i]) 51 none) := rfl
    have c3 : (V.agg (celE l[i])).cells = some (celE l[i]) := rfl
    have d3 : loadGo (some (some 3)) (some (celE l[i])) = some (.agg (celE l[i])) := rfl
    simp only [bW, Nat.reduceEqDiff, ft_40_2, lt_38, lt_51, zt_51, c1, hx, l0, e5, s3, c3, d3, retA_ret, Tryz.results13, resultsC_2, resultA_tmp, resultA_cell, res2_some]
    exact hid_mk ⟨_, by rw [hrv]; exact Cast.refl _ _, (Keep.push _ _ _).trans (Keep.push _ _ _) (fun _ _ h => h)⟩
end Go.Proofs.YtilgpaibolollaaGreat.Pk
namespace Go.Proofs.YtilgpaibolollaaGreat.Pk
open Go Go.Proofs Go.Proofs.YtilgpaibolollaaGreat.Ab
set_option maxRecDepth 10000
set_option linter.unusedVariables false
set_option linter.unusedSimpArgs false
theorem pSameR (a b : Cel) (ha : ∀ x ∈ a.bytes, x < 256) (hb : ∀ x ∈ b.bytes, x < 256) (h : AHeap) : Pure Tryz.prog 56 [.agg (celE a), .agg (celE b)] h (.bool (decide (a.at_ = b.at_) && decide (a.epoch = b.epoch) && decide (a.bytes = b.bytes))) := by
  refine Pure.val (Clo.bool _) ?_
  refine SCalls.enterI (c := _) Tryz.func56 rfl (by kernel_rfl) (by simp) ?_
  have ca : ∀ a : Cel, (V.agg (celE a)).cells = some (celE a) := fun a => rfl
  have e1 : ∀ a : Cel, dropC (AObj.cells (celE a) 51 none) 1 = some [.int .i64 a.epoch, .imm a.bytes.length (bytesV a.bytes)] := fun a => rfl
  have e2 : ∀ a : Cel, dropC (AObj.cells (celE a) 51 none) 2 = some [.imm a.bytes.length (bytesV a.bytes)] := fun a => rfl
  have l0 : ∀ a : Cel, loadGo (some none) (some (celE a)) = some (.int .i64 a.at_) := fun a => rfl
  have hs := strB_eq ha hb
  have gA : ((h.push (.cells (celE a) 51 none)).push (.cells (celE b) 51 none)).get h.n = .cells (celE a) 51 none := get_p2 _ _ _
  have kF : Keep h ((h.push (.cells (celE a) 51 none)).push (.cells (celE b) 51 none)) none_ := (Keep.push _ _ _).trans (Keep.push _ _ _) (fun _ _ h => h)
  by_cases h1 : a.at_ = b.at_
  · have c1 : (a.at_ == b.at_) = true := by simpa using h1
    by_cases h2 : a.epoch = b.epoch
    · have c2 : (a.epoch == b.epoch) = true := by simpa using h2
      simp only [bW, Nat.reduceEqDiff, ft_51_0, ft_51_1, ft_51_2, lt_29, lt_3, ca, gA, e1, e2, l0, c1, c2, convB, hs, retA_ret, Tryz.results56, resultsA_1]
      exact hid_mk ⟨by rw [decide_eq_true h1, decide_eq_true h2]; rfl, kF⟩
    · have c2 : (a.epoch == b.epoch) = false := by simpa using h2
      simp only [bW, Nat.reduceEqDiff, ft_51_0, ft_51_1, lt_3, ca, gA, e1, l0, c1, c2, retA_ret, Tryz.results56, resultsA_1]
      exact hid_mk ⟨by rw [decide_eq_true h1, decide_eq_false h2]; rfl, kF⟩
  · have c1 : (a.at_ == b.at_) = false := by simpa using h1
    simp only [bW, Nat.reduceEqDiff, ft_51_0, lt_3, ca, gA, l0, c1, retA_ret, Tryz.results56, resultsA_1]
    exact hid_mk ⟨by rw [decide_eq_false h1]; rfl, kF⟩
end Go.Proofs.YtilgpaibolollaaGreat.Pk
namespace Go.Proofs.YtilgpaibolollaaGreat.Pk
open Go Go.Proofs Go.Proofs.YtilgpaibolollaaGreat.Ab
set_option linter.unusedVariables false
/-! ### The reference's 'with', as it goes through the cells (pure) -/
def wout (c : Cel) : List Cel → Bool → List Cel × Bool
  | [], d => ([], d)
  | x :: r, d => ((if !d && decide (c.at_ ≤ x.at_) then [c] else []) ++ (if x.at_ ≠ c.at_ then [x] else []) ++ (wout c r (d || decide (c.at_ ≤ x.at_))).1, (wout c r (d || decide (c.at_ ≤ x.at_))).2)
theorem wout_done (c : Cel) : ∀ l : List Cel, (∀ x ∈ l, x.at_ ≠ c.at_) → wout c l true = (l, true)
  | [], _ => rfl
  | x :: r, h => by
    have ih := wout_done c r fun y hy => h y (List.mem_cons_of_mem _ hy)
    unfold wout
    simp only [Bool.not_true, Bool.false_and, Bool.true_or, if_pos (h x (by simp)), ih]
    rfl
theorem wout_rise (c : Cel) : ∀ l : List Cel, Rise l → (wout c l false).1 ++ (if (wout c l false).2 then [] else [c]) = rwith l c
  | [], _ => rfl
  | x :: r, h => by
    have hr := List.pairwise_cons.1 h
    by_cases hx : c.at_ ≤ x.at_
    · have hd := wout_done c r fun y hy => by have := hr.1 y hy; omega
      have f1 : (x :: r).filter (fun d => decide (d.at_ < c.at_)) = [] := by
        rw [List.filter_eq_nil_iff]
        intro y hy
        rcases List.mem_cons.1 hy with rfl | hy
        · simp; omega
        · have := hr.1 y hy; simp; omega
      have f2 : r.filter (fun d => decide (c.at_ < d.at_)) = r := by
        rw [List.filter_eq_self]
        intro y hy
        have := hr.1 y hy; simp; omega
      unfold wout rwith
      rw [f1]
      simp only [Bool.not_false, Bool.true_and, Bool.false_or, decide_eq_true hx, hd]
      by_cases he : x.at_ = c.at_
      · rw [List.filter_cons_of_neg (by simp; omega), f2]
        simp [he]
      · rw [List.filter_cons_of_pos (by simp; omega), f2]
        simp [he]
    · have ih := wout_rise c r hr.2
      unfold wout
      have hne : x.at_ ≠ c.at_ := by omega
      simp only [Bool.not_false, Bool.true_and, Bool.false_or, decide_eq_false hx, if_pos hne]
      have e : rwith (x :: r) c = x :: rwith r c := by
        unfold rwith
        rw [List.filter_cons_of_pos (by simp; omega), List.filter_cons_of_neg (by simp; omega)]
        rfl
      rw [e, ← ih]
      rfl
end Go.Proofs.YtilgpaibolollaaGreat.Pk
namespace Go.Proofs.YtilgpaibolollaaGreat.Pk
open Go Go.Proofs Go.Proofs.YtilgpaibolollaaGreat.Ab
set_option maxRecDepth 10000
set_option linter.unusedVariables false
set_option linter.unusedSimpArgs false
theorem litCR (h : AHeap) (c : Cel) : aBuildSlice Tryz.prog 38 1 [(0, .agg (celE c))] h = some (.sl h.n 0 1 1, h.push (.cells (celE c) 51 none)) := by rw [buildSlice_go sl_38]; rfl
theorem finW {h H hX : AHeap} {v : V} (room : Int) (s m : List Nat) (torn ep : Int) (L : List Cel) (k0 : Keep h H none_) (n0 : H.n = h.n + 3) (a : Acc H hX 51 3 v (L.flatMap celE)) (X Y : AObj) :
    ∃ h3, Cast (.agg [.int .i64 room, .imm s.length (bytesV s), .imm m.length (bytesV m), .int .i64 torn, .int .i64 ep, v]) ((hX.set h.n X).set (h.n + 2) Y) (.agg (rnE room s m torn (ep, L))) h3 ∧ Keep h h3 none_ := by
  have nw : ∀ j, idOf v = some j → h.n + 3 ≤ j := fun j hj => by have := a.new j hj; omega
  have kX : Keep h hX none_ := k0.trans' a.keep
  have kF : Keep h ((hX.set h.n X).set (h.n + 2) Y) none_ := (kX.setNew (Nat.le_refl _) X).setNew (by omega) Y
  have oF : Own ((hX.set h.n X).set (h.n + 2) Y) 51 3 v (L.flatMap celE) := (a.own.keep (Keep.set _ _ _) fun k hk => by have := nw k hk; omega).keep (Keep.set _ _ _) fun k hk => by have := nw k hk; omega
  obtain ⟨h3, c, k⟩ := Acc.cast (h0 := h) ⟨oF, kF, fun j hj => by have := nw j hj; omega⟩ (n := L.length) (rows_len celE_len _) (by omega)
  exact ⟨h3, Pk.Cast.agg (CastL.cons (Cast.refl _ _) (CastL.cons (Cast.refl _ _) (CastL.cons (Cast.refl _ _) (CastL.cons (Cast.refl _ _) (CastL.cons (Cast.refl _ _) (CastL.cons c (CastL.refl _ _))))))), k⟩
set_option maxHeartbeats 4000000 in
theorem pWithR (room : Int) (s m : List Nat) (torn : Int) (n : RNd) (c : Cel) (hr : Rise n.2) (hl : n.2.length ≤ 2 ^ 30) (h : AHeap) : Pure Tryz.prog 89 [.agg (rnE room s m torn n), .agg (celE c)] h (.agg (rnE room s m torn (n.1, rwith n.2 c))) := by
  obtain ⟨ep, l⟩ := n
  simp only at hl hr
  refine Pure.of (Clo.agg (rnE_clo _ _ _ _ _)) ?_
  refine SCalls.enterI (c := _) Tryz.func89 rfl (by kernel_rfl) (by simp) ?_
  have hcl : (V.agg (rnE room s m torn (ep, l))).cells = some (rnE room s m torn (ep, l)) := rfl
  have hcc : ∀ c : Cel, (V.agg (celE c)).cells = some (celE c) := fun c => rfl
  have e5 : dropC (AObj.cells (rnE room s m torn (ep, l)) 40 none) 5 = some [.imm l.length (l.flatMap celE)] := rfl
  have l0 : ∀ c : Cel, loadGo (some none) (some (celE c)) = some (.int .i64 c.at_) := fun c => rfl
  have l3 : ∀ c : Cel, loadGo (some (some 3)) (some (celE c)) = some (.agg (celE c)) := fun c => rfl
  simp only [bW, Nat.reduceEqDiff, zc_40, hcl, hcc]
  have k0 : Keep h (((h.push (.cells (rnE room s m torn (ep, l)) 40 none)).push (.cells (celE c) 51 none)).push (.cells [.int .i64 0, .snil, .snil, .int .i64 0, .int .i64 0, .snil] 40 none)) none_ := ((Keep.push _ _ _).trans (Keep.push _ _ _) (fun _ _ h => h)).trans (Keep.push _ _ _) (fun _ _ h => h)
  have g0 : (((h.push (.cells (rnE room s m torn (ep, l)) 40 none)).push (.cells (celE c) 51 none)).push (.cells [.int .i64 0, .snil, .snil, .int .i64 0, .int .i64 0, .snil] 40 none)).get h.n = .cells (rnE room s m torn (ep, l)) 40 none := get_p3 _ _ _ _
  have gc : (((h.push (.cells (rnE room s m torn (ep, l)) 40 none)).push (.cells (celE c) 51 none)).push (.cells [.int .i64 0, .snil, .snil, .int .i64 0, .int .i64 0, .snil] 40 none)).get (h.n + 1) = .cells (celE c) 51 none := get_p2 (h.push _) _ _
  have gz : (((h.push (.cells (rnE room s m torn (ep, l)) 40 none)).push (.cells (celE c) 51 none)).push (.cells [.int .i64 0, .snil, .snil, .int .i64 0, .int .i64 0, .snil] 40 none)).get (h.n + 2) = .cells [.int .i64 0, .snil, .snil, .int .i64 0, .int .i64 0, .snil] 40 none := get_push_new
  have n0 : (((h.push (.cells (rnE room s m torn (ep, l)) 40 none)).push (.cells (celE c) 51 none)).push (.cells [.int .i64 0, .snil, .snil, .int .i64 0, .int .i64 0, .snil] 40 none)).n = h.n + 3 := rfl
  generalize ((h.push (.cells (rnE room s m torn (ep, l)) 40 none)).push (.cells (celE c) 51 none)).push (.cells [.int .i64 0, .snil, .snil, .int .i64 0, .int .i64 0, .snil] 40 none) = H at k0 g0 gc gz n0 ⊢
  refine SWp.loopG (α := Nat × List Cel × Bool × V) (fun x f h' => f 2 = .ptr h.n 0 ∧ f 3 = .ptr (h.n + 1) 0 ∧ f 4 = .ptr (h.n + 2) 0 ∧ f 5 = x.2.2.2 ∧ f 6 = .bool x.2.2.1 ∧ f 7 = .int .i64 (x.1 : Nat) ∧ x.1 ≤ l.length ∧ x.2.1.length ≤ 2 * x.1 ∧ Acc H h' 51 3 x.2.2.2 (x.2.1.flatMap celE) ∧
    x.2.1 ++ (wout c (l.drop x.1) x.2.2.1).1 = (wout c l false).1 ∧ (wout c (l.drop x.1) x.2.2.1).2 = (wout c l false).2) (fun x => l.length - x.1) (0, [], false, .snil)
    ⟨rfl, rfl, rfl, rfl, rfl, rfl, Nat.zero_le _, Nat.le_refl _, Acc.nil (Keep.refl _ _), by simp, by simp⟩ ?_
  rintro ⟨i, out, d, v⟩ f h1 ⟨f2, f3, f4, f5, f6, f7, hi, ho, a1, hw1, hw2⟩
  simp only at f2 f3 f4 f5 f6 f7 hi ho a1 hw1 hw2
  have g1 := (a1.keep.get h.n (by omega) (fun h => h)).trans g0
  have c1 := (a1.keep.get (h.n + 1) (by omega) (fun h => h)).trans gc
  refine wpI_sound (by kernel_rfl) ?_
  by_cases hlt : i < l.length
  · have d1 : decide ((i : Int) < ((l.length : Nat) : Int)) = true := by simp; omega
    have hi1 : IntKind.i64.wrap ((i : Int) + 1) = ((i + 1 : Nat) : Int) := by rw [Go.IntWalk.i64_in _ (by omega)]; rfl
    have hx := cel_ixR hlt (kk := .i64)
    have lx0 : loadGo (some none) (some (celE l[i] ++ (l.drop (i + 1)).flatMap celE)) = some (.int .i64 l[i].at_) := rfl
    have lx3 : loadGo (some (some 3)) (some (celE l[i] ++ (l.drop (i + 1)).flatMap celE)) = some (.agg (celE l[i])) := rfl
    have hdr : l.drop i = l[i] :: l.drop (i + 1) := List.drop_eq_getElem_cons hlt
    rw [hdr] at hw1 hw2
    simp only [bW, Nat.reduceEqDiff, ft_40_2, kt_38, lt_38, f2, f7, g1, e5, d1]
    cases d with
    | true =>
      refine SWp.drawnS none_ [] (.q 0 (.q 1 (.q 2 (.q 3 (.q 4 (.q 5 (.q 6 (.q 7 (.q 8 (.q 9 (.q 10 (.q 11 (.q 12 .done))))))))))))) (by kernel_rfl) (by kernel_rfl) (by kernel_rfl) ?_
      simp only [bW, bS, Nat.reduceEqDiff, f6]
      refine SWp.drawnS none_ [] (.q 0 (.q 1 (.q 2 (.q 3 (.q 4 (.q 5 (.q 6 (.q 7 (.q 8 .done))))))))) (by kernel_rfl) (by kernel_rfl) (by kernel_rfl) ?_
      by_cases hne : l[i].at_ = c.at_
      · have b1 : (l[i].at_ != c.at_) = false := by simpa using hne
        simp only [bW, bS, Nat.reduceEqDiff, ft_40_2, ft_51_0, lt_3, lt_38, f2, f3, f7, g1, c1, e5, l0, hx, lx0, hi1, b1]
        exact hid_mk ⟨(i + 1, out, true, v), ⟨f2, f3, f4, f5, f6, rfl, hlt, by simp only; omega, a1, by rw [← hw1]; simp [wout, hne], by rw [← hw2]; simp [wout]⟩, by simp only; omega⟩
      · have b1 : (l[i].at_ != c.at_) = true := by simpa using hne
        have lit := litCR h1 l[i]
        have k2 : Keep h1 (h1.push (.cells (celE l[i]) 51 none)) none_ := Keep.push _ _ _
        obtain ⟨s2, h4, ea, o4, kp4, d4⟩ := append_elemM (P := Tryz.prog) sl_38 (by decide) a1.own (xs := celE l[i]) rfl rfl (fun m hm => by
          change m * 3 = _ + 3 at hm
          rw [rows_len celE_len] at hm
          exact ⟨by simp only [lim]; omega, by simp only [lim]; omega⟩)
        have a4 := a1.step o4 kp4 d4
        simp only [bW, bS, Nat.reduceEqDiff, ft_40_2, ft_51_0, lt_3, lt_38, lt_51, f2, f3, f5, f7, g1, c1, e5, l0, hx, lx0, hi1, b1, lx3, lit, ea]
        exact hid_mk ⟨(i + 1, out ++ [l[i]], true, s2), ⟨f2, f3, f4, rfl, f6, rfl, hlt, by simp only [List.length_append, List.length_cons, List.length_nil]; omega, a4.conv (by rw [List.flatMap_append]; simp), by rw [← hw1]; simp [wout, hne], by rw [← hw2]; simp [wout]⟩, by simp only; omega⟩
    | false =>
      by_cases hle : c.at_ ≤ l[i].at_
      · have b0 : decide (c.at_ ≤ l[i].at_) = true := by simpa using hle
        have lit4 := litCR h1 c
        obtain ⟨s4, h4, ea4, o4, kp4, d4⟩ := append_elemM (P := Tryz.prog) sl_38 (by decide) a1.own (xs := celE c) rfl rfl (fun m hm => by
          change m * 3 = _ + 3 at hm
          rw [rows_len celE_len] at hm
          exact ⟨by simp only [lim]; (try simp only [List.length_append, List.length_cons, List.length_nil] at hm); omega, by simp only [lim]; (try simp only [List.length_append, List.length_cons, List.length_nil] at hm); omega⟩)
        have a4 := a1.step o4 kp4 d4
        have g4 := (a4.keep.get h.n (by omega) (fun h => h)).trans g0
        have c4 := (a4.keep.get (h.n + 1) (by omega) (fun h => h)).trans gc
        have a5 := a4.conv (show _ = (out ++ [c]).flatMap celE by rw [List.flatMap_append]; simp)
        refine SWp.drawnS none_ [] (.q 0 (.q 1 (.q 2 (.q 3 (.q 4 (.q 5 (.q 6 (.q 7 (.q 8 (.q 9 (.q 10 (.q 11 (.q 12 .done))))))))))))) (by kernel_rfl) (by kernel_rfl) (by kernel_rfl) ?_
        simp only [bW, bS, Nat.reduceEqDiff, ft_40_2, ft_51_0, lt_3, lt_38, lt_51, f2, f3, f5, f6, f7, g1, c1, e5, l0, hx, lx0, b0, l3, lit4, ea4]
        refine SWp.drawnS none_ [] (.q 0 (.q 1 (.q 2 (.q 3 (.q 4 (.q 5 (.q 6 (.q 7 (.q 8 .done))))))))) (by kernel_rfl) (by kernel_rfl) (by kernel_rfl) ?_
        by_cases hne : l[i].at_ = c.at_
        · have b1 : (l[i].at_ != c.at_) = false := by simpa using hne
          simp only [bW, bS, Nat.reduceEqDiff, ft_40_2, ft_51_0, lt_3, lt_38, f2, f3, f7, g4, c4, e5, l0, hx, lx0, hi1, b1]
          exact hid_mk ⟨(i + 1, out ++ [c], true, s4), ⟨f2, f3, f4, rfl, rfl, rfl, hlt, by simp only [List.length_append, List.length_cons, List.length_nil]; omega, a5, by rw [← hw1]; simp [wout, hne], by rw [← hw2]; simp [wout, hle]⟩, by simp only; omega⟩
        · have b1 : (l[i].at_ != c.at_) = true := by simpa using hne
          have lit6 := litCR h4 l[i]
          obtain ⟨s6, h6, ea6, o6, kp6, d6⟩ := append_elemM (P := Tryz.prog) sl_38 (by decide) a5.own (xs := celE l[i]) rfl rfl (fun m hm => by
            change m * 3 = _ + 3 at hm
            rw [rows_len celE_len] at hm
            exact ⟨by simp only [lim]; (try simp only [List.length_append, List.length_cons, List.length_nil] at hm); omega, by simp only [lim]; (try simp only [List.length_append, List.length_cons, List.length_nil] at hm); omega⟩)
          have a6 := a5.step o6 kp6 d6
          simp only [bW, bS, Nat.reduceEqDiff, ft_40_2, ft_51_0, lt_3, lt_38, lt_51, f2, f3, f5, f7, g4, c4, e5, l0, hx, lx0, hi1, b1, lx3, lit6, ea6]
          exact hid_mk ⟨(i + 1, out ++ [c] ++ [l[i]], true, s6), ⟨f2, f3, f4, rfl, rfl, rfl, hlt, by simp only [List.length_append, List.length_cons, List.length_nil]; omega, a6.conv (by rw [List.flatMap_append]; simp), by rw [← hw1]; simp [wout, hne, hle], by rw [← hw2]; simp [wout, hle]⟩, by simp only; omega⟩
      · have b0 : decide (c.at_ ≤ l[i].at_) = false := by simpa using hle
        refine SWp.drawnS none_ [] (.q 0 (.q 1 (.q 2 (.q 3 (.q 4 (.q 5 (.q 6 (.q 7 (.q 8 (.q 9 (.q 10 (.q 11 (.q 12 .done))))))))))))) (by kernel_rfl) (by kernel_rfl) (by kernel_rfl) ?_
        simp only [bW, bS, Nat.reduceEqDiff, ft_40_2, ft_51_0, lt_3, lt_38, f2, f3, f6, f7, g1, c1, e5, l0, hx, lx0, b0]
        refine SWp.drawnS none_ [] (.q 0 (.q 1 (.q 2 (.q 3 (.q 4 (.q 5 (.q 6 (.q 7 (.q 8 .done))))))))) (by kernel_rfl) (by kernel_rfl) (by kernel_rfl) ?_
        have hne : l[i].at_ ≠ c.at_ := by omega
        have b1 : (l[i].at_ != c.at_) = true := by simpa using hne
        have lit4 := litCR h1 l[i]
        obtain ⟨s4, h4, ea4, o4, kp4, d4⟩ := append_elemM (P := Tryz.prog) sl_38 (by decide) a1.own (xs := celE l[i]) rfl rfl (fun m hm => by
          change m * 3 = _ + 3 at hm
          rw [rows_len celE_len] at hm
          exact ⟨by simp only [lim]; (try simp only [List.length_append, List.length_cons, List.length_nil] at hm); omega, by simp only [lim]; (try simp only [List.length_append, List.length_cons, List.length_nil] at hm); omega⟩)
        have a4 := a1.step o4 kp4 d4
        simp only [bW, bS, Nat.reduceEqDiff, ft_40_2, ft_51_0, lt_3, lt_38, lt_51, f2, f3, f5, f7, g1, c1, e5, l0, hx, lx0, hi1, b1, lx3, lit4, ea4]
        exact hid_mk ⟨(i + 1, out ++ [l[i]], false, s4), ⟨f2, f3, f4, rfl, f6, rfl, hlt, by simp only [List.length_append, List.length_cons, List.length_nil]; omega, a4.conv (by rw [List.flatMap_append]; simp), by rw [← hw1]; simp [wout, hne, hle], by rw [← hw2]; simp [wout, hle]⟩, by simp only; omega⟩
  · have d1 : decide ((i : Int) < ((l.length : Nat) : Int)) = false := by simp; omega
    have hdr : l.drop i = [] := List.drop_of_length_le (by omega)
    rw [hdr] at hw1 hw2
    have hfin := wout_rise c l hr
    rw [← hw1, ← hw2] at hfin
    simp only [wout, List.append_nil] at hfin
    have gz1 := (a1.keep.get (h.n + 2) (by omega) (fun h => h)).trans gz
    have hset : ∀ w : V, w.one = true → setC (some 6) (AObj.cells [.int .i64 0, .snil, .snil, .int .i64 0, .int .i64 0, .snil] 40 none) 0 [.int .i64 room, .imm s.length (bytesV s), .imm m.length (bytesV m), .int .i64 torn, .int .i64 ep, w] = some (.cells [.int .i64 room, .imm s.length (bytesV s), .imm m.length (bytesV m), .int .i64 torn, .int .i64 ep, w] 40 none) := fun w hw => by
      rw [setC_row (n := 6) rfl (by simp [hw]; exact ⟨rfl, rfl, rfl, rfl, rfl⟩), if_pos (by decide)]; rfl
    cases d with
    | true =>
      have hL : out = rwith l c := by simpa using hfin
      obtain ⟨v1, v2⟩ := one_of_own a1.own
      have hset := hset v v2
      have gz2 : ∀ o, (h1.set h.n o).get (h.n + 2) = .cells [.int .i64 0, .snil, .snil, .int .i64 0, .int .i64 0, .snil] 40 none := fun o => (get_set_ne (by omega)).trans gz1
      have cE : ((V.agg (rnE room s m torn (ep, l))).cells) = some (rnE room s m torn (ep, l)) := rfl
      unfold rnE at g1 e5
      simp only [bW, Nat.reduceEqDiff, Nat.reduceAdd, ft_40_2, kt_38, lt_38, lt_40, zt_38, zt_40, f2, f4, f5, f6, f7, g1, e5, d1, gz2, v1, v2, hset, retA_ret, Tryz.results89, resultsC_1, resultA_cell]
      exact hid_mk (by rw [← hL]; exact finW room s m torn ep out k0 n0 a1 _ _)
    | false =>
      have hL : out ++ [c] = rwith l c := by simpa using hfin
      have lit4 := litCR h1 c
      obtain ⟨s4, h4, ea4, o4, kp4, d4⟩ := append_elemM (P := Tryz.prog) sl_38 (by decide) a1.own (xs := celE c) rfl rfl (fun m hm => by
        change m * 3 = _ + 3 at hm
        rw [rows_len celE_len] at hm
        exact ⟨by simp only [lim]; (try simp only [List.length_append, List.length_cons, List.length_nil] at hm); omega, by simp only [lim]; (try simp only [List.length_append, List.length_cons, List.length_nil] at hm); omega⟩)
      have a4 := a1.step o4 kp4 d4
      have g4 := (a4.keep.get h.n (by omega) (fun h => h)).trans g0
      have gz4 := (a4.keep.get (h.n + 2) (by omega) (fun h => h)).trans gz
      have a5 := a4.conv (show _ = (out ++ [c]).flatMap celE by rw [List.flatMap_append]; simp)
      obtain ⟨v1, v2⟩ := one_of_own a5.own
      have hset := hset s4 v2
      have gz2 : ∀ o, (h4.set h.n o).get (h.n + 2) = .cells [.int .i64 0, .snil, .snil, .int .i64 0, .int .i64 0, .snil] 40 none := fun o => (get_set_ne (by omega)).trans gz4
      unfold rnE at g1 e5 g4
      simp only [bW, Nat.reduceEqDiff, Nat.reduceAdd, ft_40_2, kt_38, lt_38, lt_40, lt_51, zt_38, zt_40, f2, f3, f4, f5, f6, f7, g1, c1, e5, d1, l3, lit4, ea4, g4, gz2, v1, v2, hset, retA_ret, Tryz.results89, resultsC_1, resultA_cell]
      exact hid_mk (by rw [← hL]; exact finW room s m torn ep (out ++ [c]) k0 n0 a5 _ _)
end Go.Proofs.YtilgpaibolollaaGreat.Pk
namespace Go.Proofs.YtilgpaibolollaaGreat.Pk
open Go Go.Proofs Go.Proofs.YtilgpaibolollaaGreat.Ab
set_option linter.unusedVariables false
/-! ### The reference's own decoding of a payload is the program's (pure) -/
def redoD (n : RNd) (p : List Nat) : RNd :=
  if (dec p 0 0).2.2 ≠ 0 ∨ (dec (numR p) 0 0).2.2 ≠ 0 ∨ 1048576 < (dec (numR p) 0 0).1 ∨ ((dec (numR p) 0 0).1 : Int) < n.1 then n
  else if (dec p 0 0).1 = 2 ∧ numR (numR p) = [] then (((dec (numR p) 0 0).1 : Nat), n.2)
  else if (dec p 0 0).1 ≠ 1 then n
  else if (dec (numR (numR p)) 0 0).2.2 ≠ 0 ∨ 4095 < (dec (numR (numR p)) 0 0).1 then n
  else if (getBytes (numR (numR (numR p)))).2.2 ≠ 0 ∨ (getBytes (numR (numR (numR p)))).2.1 ≠ [] ∨ 2048 < (getBytes (numR (numR (numR p)))).1.length then n
  else match rfind n.2 ((dec (numR (numR p)) 0 0).1 : Nat) with
    | some c => if ((dec (numR p) 0 0).1 : Int) ≤ c.epoch then n else (n.1, rwith n.2 ⟨((dec (numR (numR p)) 0 0).1 : Nat), ((dec (numR p) 0 0).1 : Nat), (getBytes (numR (numR (numR p)))).1⟩)
    | none => (n.1, rwith n.2 ⟨((dec (numR (numR p)) 0 0).1 : Nat), ((dec (numR p) 0 0).1 : Nat), (getBytes (numR (numR (numR p)))).1⟩)
theorem redoR_no {n : RNd} {p : List Nat} (h : (readC p).2 = false ∨ folR n (readC p).1 = false) : redoR n p = n := by
  unfold redoR
  rcases h with h | h <;> simp [h]
theorem redoD_eq (n : RNd) (p : List Nat) : redoD n p = redoR n p := by
  obtain ⟨N, l⟩ := n
  have e1 : numN p = if (dec p 0 0).2.2 ≠ 0 ∨ 1048576 < (dec p 0 0).1 then 1048577 else (dec p 0 0).1 := rfl
  have e2 : numN (numR p) = if (dec (numR p) 0 0).2.2 ≠ 0 ∨ 1048576 < (dec (numR p) 0 0).1 then 1048577 else (dec (numR p) 0 0).1 := rfl
  have e3 : numN (numR (numR p)) = if (dec (numR (numR p)) 0 0).2.2 ≠ 0 ∨ 1048576 < (dec (numR (numR p)) 0 0).1 then 1048577 else (dec (numR (numR p)) 0 0).1 := rfl
  have eC : readC p = if numN p = 2 then (⟨2, numN (numR p), 0, []⟩, mayEp (numN (numR p)) && decide (numR (numR p) = []))
    else if numN p = 1 then
      (⟨1, numN (numR p), numN (numR (numR p)), (getBytes (numR (numR (numR p)))).1⟩,
        decide ((getBytes (numR (numR (numR p)))).2.2 = 0) && mayWr ⟨1, numN (numR p), numN (numR (numR p)), (getBytes (numR (numR (numR p)))).1⟩ && decide ((getBytes (numR (numR (numR p)))).2.1 = []))
    else (⟨0, 0, 0, []⟩, false) := rfl
  unfold redoD
  generalize getBytes (numR (numR (numR p))) = G at eC ⊢
  generalize numN (numR (numR p)) = n3 at *
  generalize numN (numR p) = n2 at *
  generalize numN p = n1 at *
  generalize dec (numR (numR p)) 0 0 = D3 at *
  generalize dec (numR p) 0 0 = D2 at *
  generalize dec p 0 0 = D1 at *
  generalize numR (numR p) = R2 at *
  obtain ⟨x1, u1, b1⟩ := D1
  obtain ⟨x2, u2, b2⟩ := D2
  obtain ⟨x3, u3, b3⟩ := D3
  obtain ⟨g1, g2, g3⟩ := G
  simp only at *
  by_cases h1 : b1 ≠ 0 ∨ b2 ≠ 0 ∨ 1048576 < x2 ∨ (x2 : Int) < N
  · rw [if_pos h1]
    refine (redoR_no ?_).symm
    rw [eC]
    by_cases k1 : b1 = 0
    · by_cases k2 : b2 = 0 ∧ x2 ≤ 1048576
      · have hlt : (x2 : Int) < N := by omega
        rw [if_neg (by omega)] at e2
        right
        split
        · simp [folR]; omega
        split
        · simp only [folR]; rw [if_neg (by decide)]; rw [decide_eq_false (by omega)]; rfl
        · simp only [folR]; rw [if_neg (by decide)]
          by_cases z : N ≤ 0
          · omega
          · rw [decide_eq_false z]; rfl
      · rw [if_pos (by omega)] at e2
        left
        split
        · simp [mayEp, e2]
        split
        · simp [mayWr, mayEp, e2]
        · rfl
    · rw [if_pos (.inl k1)] at e1
      left
      rw [if_neg (by omega), if_neg (by omega)]
  rw [if_neg h1]
  have hb1 : b1 = 0 := by omega
  have hb2 : b2 = 0 := by omega
  have hx2 : x2 ≤ 1048576 := by omega
  have hN : N ≤ (x2 : Int) := by omega
  rw [if_neg (by omega)] at e2
  subst e2
  have m2 : mayEp (n2 : Int) = true := by simp [mayEp]; omega
  by_cases h2 : x1 = 2 ∧ R2 = []
  · rw [if_pos h2]
    rw [if_neg (by omega)] at e1
    rw [if_pos (e1.trans h2.1)] at eC
    unfold redoR
    rw [eC]
    simp [folR, m2, h2.2, hN]
  rw [if_neg h2]
  by_cases h3 : x1 = 1
  · rw [if_neg (by omega)]
    rw [if_neg (by omega)] at e1
    rw [if_neg (by omega), if_pos (by omega)] at eC
    by_cases h4 : b3 ≠ 0 ∨ 4095 < x3
    · rw [if_pos h4]
      refine (redoR_no (.inl ?_)).symm
      rw [eC]
      have : ¬ ((n3 : Int) < 4096) := by
        split at e3 <;> omega
      simp [mayWr, this]
    rw [if_neg h4]
    rw [if_neg (by omega)] at e3
    subst e3
    by_cases h5 : g3 ≠ 0 ∨ g2 ≠ [] ∨ 2048 < g1.length
    · rw [if_pos h5]
      refine (redoR_no (.inl ?_)).symm
      rw [eC]
      rcases h5 with h5 | h5 | h5
      · simp [h5]
      · simp [h5]
      · simp [mayWr]; omega
    rw [if_neg h5]
    have hg3 : g3 = 0 := by omega
    have hg2 : g2 = [] := by
      by_cases z : g2 = []
      · exact z
      · exact absurd (.inr (.inl z)) h5
    have hg1 : g1.length ≤ 2048 := by omega
    have m3 : mayWr ⟨1, n2, n3, g1⟩ = true := by simp [mayWr, m2, hg1]; omega
    unfold redoR
    rw [eC]
    simp only [m3, hg3, hg2, decide_true, Bool.true_and, Bool.and_self]
    simp only [folR]
    rw [if_neg (show ¬ ((1 : Int) = 2) by decide), if_neg (show ¬ ((1 : Int) = 2) by decide), decide_eq_true hN, Bool.true_and]
    cases hf : rfind l (n3 : Int) with
    | none => rfl
    | some c =>
      simp only
      by_cases hc : (n2 : Int) ≤ c.epoch
      · rw [if_pos hc, if_neg (by simp; omega)]
      · rw [if_neg hc, if_pos (by simp; omega)]
  · rw [if_pos h3]
    refine (redoR_no (.inl ?_)).symm
    rw [eC]
    by_cases z : n1 = 2
    · rw [if_pos z]
      split at e1
      · omega
      · have : R2 ≠ [] := fun q => h2 ⟨by omega, q⟩
        simp [this]
    · rw [if_neg z, if_neg (by split at e1 <;> omega)]
end Go.Proofs.YtilgpaibolollaaGreat.Pk
namespace Go.Proofs.YtilgpaibolollaaGreat.Pk
open Go Go.Proofs Go.Proofs.YtilgpaibolollaaGreat.Ab
set_option maxRecDepth 10000
set_option linter.unusedVariables false
set_option linter.unusedSimpArgs false
/-! ### What is scanned of any bytes are frames; a node opened on any bytes -/
theorem openC_back {b : List Nat} (hb : ∀ x ∈ b, x < 256) (h : (openC b).2.2 = 0) : (openC b).1.length ≤ 4096 ∧ frame (openC b).1 = b.take (openC b).2.1 := by
  rw [← openR_eq hb] at h ⊢
  unfold openR at h ⊢
  by_cases h0 : (dec b 0 0).2.2 ≠ 0
  · rw [if_pos h0] at h; exact absurd h h0
  rw [if_neg h0] at h ⊢
  by_cases h1 : 4096 < (dec b 0 0).1
  · rw [if_pos h1] at h; exact absurd h (by decide)
  rw [if_neg h1] at h ⊢
  by_cases h2 : (b.drop (dec b 0 0).2.1).length < (dec b 0 0).1 + 4
  · rw [if_pos h2] at h; exact absurd h (by decide)
  rw [if_neg h2] at h ⊢
  split at h
  · rename_i h3
    rw [if_pos h3]
    refine ⟨?_, h3⟩
    simp only [List.length_take]
    omega
  · exact absurd h (by decide)
theorem scan_back : ∀ (k : Nat) (b : List Nat), (∀ x ∈ b, x < 256) → b.take (scanF k b).2 = (scanF k b).1.flatMap frame ∧ ∀ p ∈ (scanF k b).1, p.length ≤ 4096
  | 0, b, hb => ⟨rfl, fun p hp => by cases hp⟩
  | k + 1, b, hb => by
    unfold scanF
    split
    · exact ⟨rfl, fun p hp => by cases hp⟩
    · rename_i hn
      have h0 : (openC b).2.2 = 0 := by
        by_cases z : (openC b).2.2 = 0
        · exact z
        · exact absurd (.inr z) hn
      obtain ⟨o1, o2⟩ := openC_back hb h0
      obtain ⟨i1, i2⟩ := scan_back k (b.drop (openC b).2.1) fun x hx => hb x (List.mem_of_mem_drop hx)
      refine ⟨?_, fun p hp => ?_⟩
      · simp only
        rw [List.take_add, i1, List.flatMap_cons, o2]
      · rcases List.mem_cons.1 hp with rfl | hp
        · exact o1
        · exact i2 p hp
theorem NOk.redo {s : NSt} (w : NOk s) (p : List Nat) (hp : ∀ x ∈ p, x < 256) : NOk (Pk.redo s p) := by
  unfold Pk.redo
  split
  · rename_i h
    simp only [Bool.and_eq_true] at h
    obtain ⟨h, _⟩ := h
    have hx : ∀ (a : Act) (r : Bool), readC p = (a, r) → r = true → (a.kind = 2 ∨ a.kind = 1 ∧ mayWr a = true ∧ ∀ x ∈ a.bytes, x < 256) := by
      intro a r e hr
      subst hr
      unfold readC at e
      split at e
      · simp only [Prod.mk.injEq] at e
        exact .inl (by rw [← e.1])
      split at e
      · simp only [Prod.mk.injEq, Bool.and_eq_true] at e
        obtain ⟨e1, ⟨_, e2⟩, _⟩ := e
        rw [e1] at e2
        refine .inr ⟨by rw [← e1], e2, ?_⟩
        rw [← e1]
        simp only
        intro x hx
        unfold getBytes at hx
        split at hx
        · cases hx
        split at hx
        · cases hx
        · exact hp x (List.mem_of_mem_drop (List.mem_of_mem_drop (List.mem_of_mem_drop (List.mem_of_mem_drop (List.mem_of_mem_take hx)))))
      · simp at e
    generalize hC : readC p = C at h
    obtain ⟨a, r⟩ := C
    simp only at h ⊢
    rcases hx a r hC h with h2 | ⟨h1, h3, h4⟩
    · obtain ⟨w1, w2, w3⟩ := w
      exact ⟨by simpa [appC, appK, h2] using w1, by simpa [appC, h2] using w2, by simpa [appC, h2] using w3⟩
    · obtain ⟨kd, ep, at_, b⟩ := a
      simp only at h1
      subst h1
      exact w.write ep at_ b h4 h3
  · exact w
theorem NOk.all : ∀ (l : List (List Nat)) {s : NSt}, NOk s → (∀ p ∈ l, ∀ x ∈ p, x < 256) → NOk (l.foldl Pk.redo s)
  | [], s, w, _ => w
  | p :: l, s, w, h => NOk.all l (w.redo p (h p (by simp))) fun q hq => h q (by simp [hq])
end Go.Proofs.YtilgpaibolollaaGreat.Pk
namespace Go.Proofs.YtilgpaibolollaaGreat.Pk
open Go Go.Proofs Go.Proofs.YtilgpaibolollaaGreat.Ab
set_option maxRecDepth 10000
set_option linter.unusedVariables false
set_option linter.unusedSimpArgs false
theorem ReadBytes (bs : List Nat) (h : AHeap) (hb : ∀ b ∈ bs, b < 256) (hc : bs.length ≤ 2 ^ 46) :
    Pure Tryz.prog 88 [.imm bs.length (bytesV bs)] h (.tuple [.imm (getBytes bs).1.length (bytesV (getBytes bs).1), .imm (getBytes bs).2.1.length (bytesV (getBytes bs).2.1), .int .i64 ((getBytes bs).2.2 : Nat)]) := by
  refine Pure.of (Clo.tuple (CloL.cons (Clo.imm (bytesV_clo _)) (CloL.cons (Clo.imm (bytesV_clo _)) (CloL.cons (Clo.int _ _) CloL.nil)))) ?_
  refine SCalls.enterI (c := _) Tryz.func88 rfl (by kernel_rfl) (by simp) ?_
  simp only [bW, Nat.reduceEqDiff, reduceCtorEq]
  refine callI_pure cal87 (ReadUint bs h hb (by omega)) ?_
  rw [gotC_eq]
  by_cases herr : (dec bs 0 0).2.2 = 0
  · have hne : ((((dec bs 0 0).2.2 : Nat) : Int) != 0) = false := by simp [herr]
    have hused := dec_used bs 0 0
    have hlt := dec_lt bs 0 0 (by omega) (by decide) hb
    have hul := wrap_natU (n := (bs.drop (dec bs 0 0).2.1).length) (by rw [List.length_drop]; omega)
    by_cases hfit : (bs.drop (dec bs 0 0).2.1).length < (dec bs 0 0).1
    · have c1 : decide ((((bs.drop (dec bs 0 0).2.1).length : Nat) : Int) < (((dec bs 0 0).1 : Nat) : Int)) = true := by simpa using hfit
      have hG : getBytes bs = ([], bs, 4) := by unfold getBytes; rw [if_neg (by omega), if_pos hfit]
      simp only [bW, Nat.reduceEqDiff, Nat.reduceAdd, Nat.reduceLeDiff, reduceCtorEq, ft_162_0, ft_162_1, ft_162_2, kt_29, lt_117, lt_29, lt_3, zc_162, zt_162, hne, aConv_int it_3 it_117, hul, c1, retA_ret, Tryz.results88, resultsA_3]
      exact hid_mk ⟨_, by rw [hG]; exact nil_cast _ _, Keep.push _ _ _⟩
    · have c1 : decide ((((bs.drop (dec bs 0 0).2.1).length : Nat) : Int) < (((dec bs 0 0).1 : Nat) : Int)) = false := by simp only [decide_eq_false_iff_not]; omega
      have hG : getBytes bs = ((bs.drop (dec bs 0 0).2.1).take (dec bs 0 0).1, (bs.drop (dec bs 0 0).2.1).drop (dec bs 0 0).1, 0) := by unfold getBytes; rw [if_neg (by omega), if_neg hfit]
      have s1 := slice_from (bs.drop (dec bs 0 0).2.1) (dec bs 0 0).1 (by omega) (kk := .u64)
      have s2 := slice_toK (bs.drop (dec bs 0 0).2.1) (dec bs 0 0).1 (by omega) (kk := .u64)
      simp only [bW, Nat.reduceEqDiff, Nat.reduceAdd, Nat.reduceLeDiff, ft_162_0, ft_162_1, ft_162_2, kt_29, lt_117, lt_29, lt_3, zc_162, zt_162, hne, aConv_int it_3 it_117, hul, c1]
      refine SWp.drawnI [] (by kernel_rfl) (by kernel_rfl) (by kernel_rfl) ?_
      simp only [bW, gI_nil, gI_cons, goI_rest, ggI_true, wantedA_none, idleOp, Bool.or_false, List.contains_nil, Nat.reduceEqDiff, Nat.reduceAdd, Nat.reduceLeDiff, ft_162_0, ft_162_1, lt_117, lt_29, s1, s2, retA_ret, Tryz.results88, resultsA_3]
      exact hid_mk ⟨_, by rw [hG]; exact Cast.refl _ _, Keep.push _ _ _⟩
  · have hne : ((((dec bs 0 0).2.2 : Nat) : Int) != 0) = true := by simp; omega
    have hG : getBytes bs = ([], bs, (dec bs 0 0).2.2) := by unfold getBytes; rw [if_pos herr]
    simp only [bW, Nat.reduceEqDiff, Nat.reduceAdd, Nat.reduceLeDiff, ft_162_2, lt_3, zc_162, zt_162, hne]
    refine SWp.drawnI [] (by kernel_rfl) (by kernel_rfl) (by kernel_rfl) ?_
    simp only [bW, gI_nil, gI_cons, goI_rest, ggI_true, wantedA_none, idleOp, Bool.or_false, List.contains_nil, Nat.reduceEqDiff, Nat.reduceAdd, Nat.reduceLeDiff, reduceCtorEq, ft_162_2, lt_3, retA_ret, Tryz.results88, resultsA_3]
    exact hid_mk ⟨_, by rw [hG]; exact nil_cast _ _, Keep.push _ _ _⟩
set_option maxRecDepth 60000 in
theorem pRedoR (room : Int) (s m : List Nat) (torn : Int) (n : RNd) (p : List Nat) (hr : Rise n.2) (hl : n.2.length ≤ 2 ^ 30) (hb : ∀ x ∈ p, x < 256) (hp : p.length ≤ 2 ^ 40) (h : AHeap) :
    Pure Tryz.prog 47 [.agg (rnE room s m torn n), .imm p.length (bytesV p)] h (.agg (rnE room s m torn (redoR n p))) := by
  rw [← redoD_eq]
  obtain ⟨q, hq⟩ : ∃ q, q = redoD n p := ⟨_, rfl⟩
  rw [← hq]
  unfold redoD at hq
  refine Pure.val (Clo.agg (rnE_clo _ _ _ _ _)) ?_
  refine SCalls.enterI (c := _) Tryz.func47 rfl (by kernel_rfl) (by simp) ?_
  have hcl : ∀ n, (V.agg (rnE room s m torn n)).cells = some (rnE room s m torn n) := fun n => rfl
  have e4 : dropC (AObj.cells (rnE room s m torn n) 40 none) 4 = some [.int .i64 n.1, .imm n.2.length (n.2.flatMap celE)] := rfl
  have e5 : dropC (AObj.cells (rnE room s m torn n) 40 none) 5 = some [.imm n.2.length (n.2.flatMap celE)] := rfl
  have hs6 : ∀ n, setC (some 6) (AObj.cells [.int .i64 0, .snil, .snil, .int .i64 0, .int .i64 0, .snil] 40 none) 0 (rnE room s m torn n) = some (.cells (rnE room s m torn n) 40 none) := fun n => rfl
  have hl6 : ∀ n, loadGo (some (some 6)) (some (rnE room s m torn n)) = some (.agg (rnE room s m torn n)) := fun n => rfl
  simp only [bW, Nat.reduceEqDiff, zc_40, hcl]
  refine callI_pure cal87 (ReadUint p _ hb (by omega)) ?_
  rw [gotC_eq, show p.drop (dec p 0 0).2.1 = numR p from rfl]
  simp only [bW, Nat.reduceEqDiff, Nat.reduceAdd, Nat.reduceLeDiff, ft_162_1, lt_29, zc_162, zt_162]
  refine callI_pure cal87 (ReadUint (numR p) _ (numR_lt hb) (by have := numR_len p; omega)) ?_
  rw [gotC_eq, show (numR p).drop (dec (numR p) 0 0).2.1 = numR (numR p) from rfl]
  have k0 : Keep h (((h.push (.cells (rnE room s m torn n) 40 none)).push (.cells [.int .i64 0, .snil, .snil, .int .i64 0, .int .i64 0, .snil] 40 none)).push (.cells [.int .u64 ((dec p 0 0).1 : Nat), .imm (numR p).length (bytesV (numR p)), .int .i64 ((dec p 0 0).2.2 : Nat)] 162 none)) none_ := ((Keep.push _ _ _).trans (Keep.push _ _ _) (fun _ _ h => h)).trans (Keep.push _ _ _) (fun _ _ h => h)
  have gN : (((h.push (.cells (rnE room s m torn n) 40 none)).push (.cells [.int .i64 0, .snil, .snil, .int .i64 0, .int .i64 0, .snil] 40 none)).push (.cells [.int .u64 ((dec p 0 0).1 : Nat), .imm (numR p).length (bytesV (numR p)), .int .i64 ((dec p 0 0).2.2 : Nat)] 162 none)).get h.n = .cells (rnE room s m torn n) 40 none := get_p3 _ _ _ _
  have gZ : (((h.push (.cells (rnE room s m torn n) 40 none)).push (.cells [.int .i64 0, .snil, .snil, .int .i64 0, .int .i64 0, .snil] 40 none)).push (.cells [.int .u64 ((dec p 0 0).1 : Nat), .imm (numR p).length (bytesV (numR p)), .int .i64 ((dec p 0 0).2.2 : Nat)] 162 none)).get (h.n + 1) = .cells [.int .i64 0, .snil, .snil, .int .i64 0, .int .i64 0, .snil] 40 none := get_p2 (h.push _) _ _
  have g1 : (((h.push (.cells (rnE room s m torn n) 40 none)).push (.cells [.int .i64 0, .snil, .snil, .int .i64 0, .int .i64 0, .snil] 40 none)).push (.cells [.int .u64 ((dec p 0 0).1 : Nat), .imm (numR p).length (bytesV (numR p)), .int .i64 ((dec p 0 0).2.2 : Nat)] 162 none)).get (h.n + 1 + 1) = .cells [.int .u64 ((dec p 0 0).1 : Nat), .imm (numR p).length (bytesV (numR p)), .int .i64 ((dec p 0 0).2.2 : Nat)] 162 none := get_push_new
  have n0 : (((h.push (.cells (rnE room s m torn n) 40 none)).push (.cells [.int .i64 0, .snil, .snil, .int .i64 0, .int .i64 0, .snil] 40 none)).push (.cells [.int .u64 ((dec p 0 0).1 : Nat), .imm (numR p).length (bytesV (numR p)), .int .i64 ((dec p 0 0).2.2 : Nat)] 162 none)).n = h.n + 3 := rfl
  generalize (((h.push (.cells (rnE room s m torn n) 40 none)).push (.cells [.int .i64 0, .snil, .snil, .int .i64 0, .int .i64 0, .snil] 40 none)).push (.cells [.int .u64 ((dec p 0 0).1 : Nat), .imm (numR p).length (bytesV (numR p)), .int .i64 ((dec p 0 0).2.2 : Nat)] 162 none)) = H at k0 gN gZ g1 n0 ⊢
  have hR1 := numR_len p
  have hR2 := numR_len (numR p)
  have hR3 := numR_len (numR (numR p))
  have hbR := numR_lt (numR_lt hb)
  have k2 : Keep H (H.push (.cells [.int .u64 ((dec (numR p) 0 0).1 : Nat), .imm (numR (numR p)).length (bytesV (numR (numR p))), .int .i64 ((dec (numR p) 0 0).2.2 : Nat)] 162 none)) none_ := Keep.push _ _ _
  have g2 : (H.push (.cells [.int .u64 ((dec (numR p) 0 0).1 : Nat), .imm (numR (numR p)).length (bytesV (numR (numR p))), .int .i64 ((dec (numR p) 0 0).2.2 : Nat)] 162 none)).get H.n = .cells [.int .u64 ((dec (numR p) 0 0).1 : Nat), .imm (numR (numR p)).length (bytesV (numR (numR p))), .int .i64 ((dec (numR p) 0 0).2.2 : Nat)] 162 none := get_push_new
  have n2 : (H.push (.cells [.int .u64 ((dec (numR p) 0 0).1 : Nat), .imm (numR (numR p)).length (bytesV (numR (numR p))), .int .i64 ((dec (numR p) 0 0).2.2 : Nat)] 162 none)).n = H.n + 1 := rfl
  have gN := (k2.get h.n (by omega) (fun h => h)).trans gN
  have gZ := (k2.get (h.n + 1) (by omega) (fun h => h)).trans gZ
  have g1 := (k2.get (h.n + 1 + 1) (by omega) (fun h => h)).trans g1
  have kk : ∀ o, Keep h ((H.push (.cells [.int .u64 ((dec (numR p) 0 0).1 : Nat), .imm (numR (numR p)).length (bytesV (numR (numR p))), .int .i64 ((dec (numR p) 0 0).2.2 : Nat)] 162 none)).set (h.n + 1) o) none_ := fun o => (k0.trans k2 fun _ _ h => h).setNew (by omega) _
  have lt1 : (dec p 0 0).1 < 2 ^ 64 := dec_lt p 0 0 (by omega) (by decide) hb
  simp only [bW, Nat.reduceEqDiff, Nat.reduceAdd, ft_162_2, lt_3, zc_162, zt_162]
  generalize H.push (.cells [.int .u64 ((dec (numR p) 0 0).1 : Nat), .imm (numR (numR p)).length (bytesV (numR (numR p))), .int .i64 ((dec (numR p) 0 0).2.2 : Nat)] 162 none) = H2 at k2 g2 n2 gN gZ g1 kk ⊢
  by_cases b1 : (dec p 0 0).2.2 = 0
  rotate_left
  · have d1 : ((((dec p 0 0).2.2 : Nat) : Int) != 0) = true := by simp; omega
    rw [if_pos (.inl b1)] at hq
    simp only [bW, Nat.reduceEqDiff, Nat.reduceAdd, Nat.reduceLeDiff, lt_40, zt_40, gN, gZ, g1, hl6, hcl, hs6, d1, retA_ret, Tryz.results47, resultsC_1, resultA_cell]
    exact hid_mk ⟨by rw [hq], kk _⟩
  have d1 : ((((dec p 0 0).2.2 : Nat) : Int) != 0) = false := by simp [b1]
  by_cases b2 : (dec (numR p) 0 0).2.2 = 0
  rotate_left
  · have d2 : ((((dec (numR p) 0 0).2.2 : Nat) : Int) != 0) = true := by simp; omega
    rw [if_pos (.inr (.inl b2))] at hq
    simp only [bW, Nat.reduceEqDiff, Nat.reduceAdd, Nat.reduceLeDiff, ft_162_2, lt_3, lt_40, zt_40, gN, gZ, g1, g2, hl6, hcl, hs6, d1, d2, retA_ret, Tryz.results47, resultsC_1, resultA_cell]
    exact hid_mk ⟨by rw [hq], kk _⟩
  have d2 : ((((dec (numR p) 0 0).2.2 : Nat) : Int) != 0) = false := by simp [b2]
  by_cases b3 : 1048576 < (dec (numR p) 0 0).1
  · have d3 : decide ((1048576 : Int) < ((dec (numR p) 0 0).1 : Nat)) = true := by simp; omega
    rw [if_pos (.inr (.inr (.inl b3)))] at hq
    simp only [bW, Nat.reduceEqDiff, Nat.reduceAdd, Nat.reduceLeDiff, ft_162_0, ft_162_2, lt_117, lt_3, lt_40, zt_40, gN, gZ, g1, g2, hl6, hcl, hs6, d1, d2, d3, retA_ret, Tryz.results47, resultsC_1, resultA_cell]
    exact hid_mk ⟨by rw [hq], kk _⟩
  have d3 : decide ((1048576 : Int) < ((dec (numR p) 0 0).1 : Nat)) = false := by simp; omega
  have w2 : IntKind.i64.wrap (((dec (numR p) 0 0).1 : Nat) : Int) = ((dec (numR p) 0 0).1 : Nat) := wrap_nat (by omega)
  by_cases b4 : (((dec (numR p) 0 0).1 : Nat) : Int) < n.1
  · have d4 : decide ((((dec (numR p) 0 0).1 : Nat) : Int) < n.1) = true := by simpa using b4
    rw [if_pos (.inr (.inr (.inr b4)))] at hq
    simp only [bW, Nat.reduceEqDiff, Nat.reduceAdd, Nat.reduceLeDiff, ft_162_0, ft_162_2, ft_40_1, lt_117, lt_3, lt_40, zt_40, gN, gZ, g1, g2, hl6, hcl, hs6, e4, d1, d2, d3, d4, w2, aConv_int it_117 it_3, retA_ret, Tryz.results47, resultsC_1, resultA_cell]
    exact hid_mk ⟨by rw [hq], kk _⟩
  have d4 : decide ((((dec (numR p) 0 0).1 : Nat) : Int) < n.1) = false := by simpa using b4
  rw [if_neg (by omega)] at hq
  have hempty : (((numR (numR p)).length : Int) == 0) = decide (numR (numR p) = []) := by
    rw [Bool.eq_iff_iff]
    simp [List.length_eq_zero_iff]
  by_cases b5 : (dec p 0 0).1 = 2 ∧ numR (numR p) = []
  · have d5 : ((((dec p 0 0).1 : Nat) : Int) == 2) = true := by simp; omega
    have d6 : (((numR (numR p)).length : Int) == 0) = true := by rw [hempty]; simpa using b5.2
    rw [if_pos b5] at hq
    have t4 : setC (some 1) (AObj.cells (rnE room s m torn n) 40 none) 4 [V.int .i64 ((dec (numR p) 0 0).1 : Nat)] = some (.cells (rnE room s m torn ((((dec (numR p) 0 0).1 : Nat) : Int), n.2)) 40 none) := rfl
    have g4 : ∀ o, (H2.set h.n o).get h.n = o := fun o => get_set_same
    have z4 : ∀ o, (H2.set h.n o).get (h.n + 1) = H2.get (h.n + 1) := fun o => get_set_ne (by omega)
    simp only [bW, Nat.reduceEqDiff, Nat.reduceAdd, Nat.reduceLeDiff, ft_162_0, ft_162_1, ft_162_2, ft_40_1, kt_29, lt_117, lt_29, lt_3, lt_40, zt_3, zt_40, gN, gZ, g1, g2, hl6, hcl, hs6, e4, d1, d2, d3, d4, w2, aConv_int it_117 it_3, d5, d6, t4, z4, retA_ret, Tryz.results47, resultsC_1, resultA_cell]
    exact hid_mk ⟨by rw [hq], ((k0.trans k2 fun _ _ h => h).setNew (Nat.le_refl _) _).setNew (by omega) _⟩
  rw [if_neg b5] at hq
  have d56 : ((((dec p 0 0).1 : Nat) : Int) == 2) = false ∨ ((((dec p 0 0).1 : Nat) : Int) == 2) = true ∧ (((numR (numR p)).length : Int) == 0) = false := by
    by_cases z : (dec p 0 0).1 = 2
    · right
      refine ⟨by simp; omega, ?_⟩
      rw [hempty]
      exact decide_eq_false fun y => b5 ⟨z, y⟩
    · left
      simp; omega
  by_cases b6 : (dec p 0 0).1 = 1
  rotate_left
  · have d7 : ((((dec p 0 0).1 : Nat) : Int) != 1) = true := by simp; omega
    rw [if_pos b6] at hq
    rcases d56 with d5 | ⟨d5, d6⟩
    · simp only [bW, Nat.reduceEqDiff, Nat.reduceAdd, Nat.reduceLeDiff, ft_162_0, ft_162_2, ft_40_1, lt_117, lt_3, lt_40, zt_40, gN, gZ, g1, g2, hl6, hcl, hs6, e4, d1, d2, d3, d4, w2, aConv_int it_117 it_3, d5, d7, retA_ret, Tryz.results47, resultsC_1, resultA_cell]
      exact hid_mk ⟨by rw [hq], kk _⟩
    · simp only [bW, Nat.reduceEqDiff, Nat.reduceAdd, Nat.reduceLeDiff, ft_162_0, ft_162_1, ft_162_2, ft_40_1, kt_29, lt_117, lt_29, lt_3, lt_40, zt_40, gN, gZ, g1, g2, hl6, hcl, hs6, e4, d1, d2, d3, d4, w2, aConv_int it_117 it_3, d5, d6, d7, retA_ret, Tryz.results47, resultsC_1, resultA_cell]
      exact hid_mk ⟨by rw [hq], kk _⟩
  rw [if_neg (by omega)] at hq
  have d5 : ((((dec p 0 0).1 : Nat) : Int) == 2) = false := by simp; omega
  have d7 : ((((dec p 0 0).1 : Nat) : Int) != 1) = false := by simp; omega
  simp only [bW, Nat.reduceEqDiff, Nat.reduceAdd, Nat.reduceLeDiff, ft_162_0, ft_162_1, ft_162_2, ft_40_1, lt_117, lt_29, lt_3, gN, g1, g2, e4, d1, d2, d3, d4, w2, aConv_int it_117 it_3, d5, d7]
  refine callI_pureG (fun f => f 2 = .ptr h.n 0 ∧ f 4 = .ptr (h.n + 1) 0 ∧ f 7 = .int .i64 ((dec (numR p) 0 0).1 : Nat) ∧ f 61 = .agg (gotC (numR (numR p)))) cal87 (ReadUint (numR (numR p)) _ hbR (by omega)) ⟨rfl, rfl, rfl, rfl⟩ ?_
  rintro f ⟨f2, f4, f7, f61⟩
  rw [gotC_eq, show (numR (numR p)).drop (dec (numR (numR p)) 0 0).2.1 = numR (numR (numR p)) from rfl] at f61
  simp only [bW, Nat.reduceEqDiff, Nat.reduceAdd, Nat.reduceLeDiff, ft_162_2, lt_3, zc_162, zt_162, f61]
  have k3 : Keep H2 (H2.push (.cells [.int .u64 ((dec (numR (numR p)) 0 0).1 : Nat), .imm (numR (numR (numR p))).length (bytesV (numR (numR (numR p)))), .int .i64 ((dec (numR (numR p)) 0 0).2.2 : Nat)] 162 none)) none_ := Keep.push _ _ _
  have g3 : (H2.push (.cells [.int .u64 ((dec (numR (numR p)) 0 0).1 : Nat), .imm (numR (numR (numR p))).length (bytesV (numR (numR (numR p)))), .int .i64 ((dec (numR (numR p)) 0 0).2.2 : Nat)] 162 none)).get H2.n = (.cells [.int .u64 ((dec (numR (numR p)) 0 0).1 : Nat), .imm (numR (numR (numR p))).length (bytesV (numR (numR (numR p)))), .int .i64 ((dec (numR (numR p)) 0 0).2.2 : Nat)] 162 none) := get_push_new
  have gN := (k3.get h.n (by omega) (fun h => h)).trans gN
  have gZ := (k3.get (h.n + 1) (by omega) (fun h => h)).trans gZ
  have kk : ∀ o, Keep h ((H2.push (.cells [.int .u64 ((dec (numR (numR p)) 0 0).1 : Nat), .imm (numR (numR (numR p))).length (bytesV (numR (numR (numR p)))), .int .i64 ((dec (numR (numR p)) 0 0).2.2 : Nat)] 162 none)).set (h.n + 1) o) none_ := fun o => ((k0.trans k2 fun _ _ h => h).trans k3 fun _ _ h => h).setNew (by omega) _
  generalize H2.push (.cells [.int .u64 ((dec (numR (numR p)) 0 0).1 : Nat), .imm (numR (numR (numR p))).length (bytesV (numR (numR (numR p)))), .int .i64 ((dec (numR (numR p)) 0 0).2.2 : Nat)] 162 none) = H3 at k3 g3 gN gZ kk ⊢
  by_cases b8 : (dec (numR (numR p)) 0 0).2.2 = 0
  rotate_left
  · have d8 : ((((dec (numR (numR p)) 0 0).2.2 : Nat) : Int) != 0) = true := by simp; omega
    rw [if_pos (.inl b8)] at hq
    simp only [bW, Nat.reduceEqDiff, lt_40, zt_40, gN, gZ, hl6, hcl, hs6, f2, f4, d8, retA_ret, Tryz.results47, resultsC_1, resultA_cell]
    exact hid_mk ⟨by rw [hq], kk _⟩
  have d8 : ((((dec (numR (numR p)) 0 0).2.2 : Nat) : Int) != 0) = false := by simp [b8]
  by_cases b9 : 4095 < (dec (numR (numR p)) 0 0).1
  · have d9 : decide ((4095 : Int) < ((dec (numR (numR p)) 0 0).1 : Nat)) = true := by simp; omega
    rw [if_pos (.inr b9)] at hq
    simp only [bW, Nat.reduceEqDiff, Nat.reduceAdd, ft_162_0, lt_117, lt_40, zt_40, gN, gZ, g3, hl6, hcl, hs6, f2, f4, d8, d9, retA_ret, Tryz.results47, resultsC_1, resultA_cell]
    exact hid_mk ⟨by rw [hq], kk _⟩
  have d9 : decide ((4095 : Int) < ((dec (numR (numR p)) 0 0).1 : Nat)) = false := by simp; omega
  rw [if_neg (by omega)] at hq
  have w3 : IntKind.i64.wrap (((dec (numR (numR p)) 0 0).1 : Nat) : Int) = ((dec (numR (numR p)) 0 0).1 : Nat) := wrap_nat (by omega)
  simp only [bW, Nat.reduceEqDiff, Nat.reduceAdd, Nat.reduceLeDiff, ft_162_0, ft_162_1, lt_117, lt_29, g3, d8, d9]
  refine callI_pureG (fun f => f 2 = .ptr h.n 0 ∧ f 4 = .ptr (h.n + 1) 0 ∧ f 7 = .int .i64 ((dec (numR p) 0 0).1 : Nat) ∧ f 8 = .ptr H2.n 0 ∧ f 74 = .tuple [.imm (getBytes (numR (numR (numR p)))).1.length (bytesV (getBytes (numR (numR (numR p)))).1), .imm (getBytes (numR (numR (numR p)))).2.1.length (bytesV (getBytes (numR (numR (numR p)))).2.1), .int .i64 ((getBytes (numR (numR (numR p)))).2.2 : Nat)]) cal88 (ReadBytes (numR (numR (numR p))) _ (numR_lt hbR) (by omega)) ⟨f2, f4, f7, rfl, rfl⟩ ?_
  clear f2 f4 f7 f61 f
  rintro f ⟨f2, f4, f7, f8, f74⟩
  have hgl : (getBytes (numR (numR (numR p)))).1.length ≤ 2 ^ 40 := by
    unfold getBytes
    split
    · exact Nat.zero_le _
    split
    · exact Nat.zero_le _
    · simp only [List.length_take, List.length_drop]; omega
  by_cases b10 : (getBytes (numR (numR (numR p)))).2.2 = 0
  rotate_left
  · have d10 : ((((getBytes (numR (numR (numR p)))).2.2 : Nat) : Int) != 0) = true := by simp; omega
    rw [if_pos (.inl b10)] at hq
    simp only [bW, Nat.reduceEqDiff, lt_40, zt_40, gN, gZ, hl6, hcl, hs6, f2, f4, f74, d10, retA_ret, Tryz.results47, resultsC_1, resultA_cell]
    exact hid_mk ⟨by rw [hq], kk _⟩
  have d10 : ((((getBytes (numR (numR (numR p)))).2.2 : Nat) : Int) != 0) = false := by simp [b10]
  by_cases b11 : (getBytes (numR (numR (numR p)))).2.1 = []
  rotate_left
  · have d11 : ((((getBytes (numR (numR (numR p)))).2.1.length : Nat) : Int) != 0) = true := by simpa [List.length_eq_zero_iff] using b11
    rw [if_pos (.inr (.inl b11))] at hq
    simp only [bW, Nat.reduceEqDiff, kt_29, lt_40, zt_40, gN, gZ, hl6, hcl, hs6, f2, f4, f74, d10, d11, retA_ret, Tryz.results47, resultsC_1, resultA_cell]
    exact hid_mk ⟨by rw [hq], kk _⟩
  have d11 : ((((getBytes (numR (numR (numR p)))).2.1.length : Nat) : Int) != 0) = false := by simp [b11]
  by_cases b12 : 2048 < (getBytes (numR (numR (numR p)))).1.length
  · have d12 : decide ((2048 : Int) < (((getBytes (numR (numR (numR p)))).1.length : Nat) : Int)) = true := by simp; omega
    rw [if_pos (.inr (.inr b12))] at hq
    simp only [bW, Nat.reduceEqDiff, kt_29, lt_40, zt_40, gN, gZ, hl6, hcl, hs6, f2, f4, f74, d10, d11, d12, retA_ret, Tryz.results47, resultsC_1, resultA_cell]
    exact hid_mk ⟨by rw [hq], kk _⟩
  have d12 : decide ((2048 : Int) < (((getBytes (numR (numR (numR p)))).1.length : Nat) : Int)) = false := by simp; omega
  rw [if_neg (fun z => z.elim (fun z => z b10) fun z => z.elim (fun z => z b11) b12)] at hq
  simp only [bW, Nat.reduceEqDiff, Nat.reduceAdd, ft_162_0, kt_29, lt_117, lt_40, gN, g3, hl6, w3, aConv_int it_117 it_3, f2, f8, f74, d10, d11, d12]
  refine callI_pureG (fun f => f 2 = .ptr h.n 0 ∧ f 4 = .ptr (h.n + 1) 0 ∧ f 7 = .int .i64 ((dec (numR p) 0 0).1 : Nat) ∧ f 8 = .ptr H2.n 0 ∧ f 9 = .imm (getBytes (numR (numR (numR p)))).1.length (bytesV (getBytes (numR (numR (numR p)))).1) ∧ f 95 = .int .i64 (findI n.2 ((dec (numR (numR p)) 0 0).1 : Nat))) cal51 (pFindR room s m torn n (by omega) ((dec (numR (numR p)) 0 0).1 : Nat) _) ⟨f2, f4, f7, f8, rfl, rfl⟩ ?_
  clear f2 f4 f7 f8 f74 f
  rintro f ⟨f2, f4, f7, f8, f9, f95⟩
  have hput : ∀ (z : Unit), rnE room s m torn (n.1, rwith n.2 ⟨((dec (numR (numR p)) 0 0).1 : Nat), ((dec (numR p) 0 0).1 : Nat), (getBytes (numR (numR (numR p)))).1⟩) = rnE room s m torn (n.1, rwith n.2 ⟨((dec (numR (numR p)) 0 0).1 : Nat), ((dec (numR p) 0 0).1 : Nat), (getBytes (numR (numR (numR p)))).1⟩) := fun _ => rfl
  rcases findI_rfind n.2 ((dec (numR (numR p)) 0 0).1 : Nat) with ⟨h1, h2⟩ | ⟨i, hi, h2, h1⟩
  · rw [h1] at hq
    simp only at hq
    rw [h2] at f95
    simp only [bW, Int.reduceLE, Int.reduceNeg, Nat.reduceEqDiff, Nat.reduceAdd, Nat.reduceLeDiff, ft_162_0, lt_117, lt_40, pl_51, zc_51, gN, g3, hl6, w3, aConv_int it_117 it_3, f2, f7, f8, f9, f95]
    refine callI_pure cal89 (pWithR room s m torn n ⟨((dec (numR (numR p)) 0 0).1 : Nat), ((dec (numR p) 0 0).1 : Nat), (getBytes (numR (numR (numR p)))).1⟩ hr hl _) ?_
    simp only [bW, Int.reduceNeg, Nat.reduceEqDiff, lt_40, zt_40, gZ, hl6, hcl, hs6, f4, retA_ret, Tryz.results47, resultsC_1, resultA_cell]
    exact hid_mk ⟨by rw [hq], kk _⟩
  · rw [h1] at hq
    simp only at hq
    rw [h2] at f95
    have d13 : decide ((0 : Int) ≤ (i : Nat)) = true := by simp
    have hx := cel_ixR hi (kk := .i64)
    have lx1 : ∀ r : List V, loadGo (some none) (some (V.int .i64 n.2[i].epoch :: r)) = some (.int .i64 n.2[i].epoch) := fun r => rfl
    have hx1 : ∀ (c : Cel) (r : List V), (if 1 ≤ (celE c ++ r).length then some (V.at (List.drop 1 (celE c ++ r))) else none) = some (V.at (.int .i64 c.epoch :: .imm c.bytes.length (bytesV c.bytes) :: r)) := fun c r => if_pos (by simp [celE])
    by_cases b14 : (((dec (numR p) 0 0).1 : Nat) : Int) ≤ n.2[i].epoch
    · have d14 : decide ((((dec (numR p) 0 0).1 : Nat) : Int) ≤ n.2[i].epoch) = true := by simpa using b14
      rw [if_pos b14] at hq
      simp only [bW, Nat.reduceEqDiff, ft_40_2, ft_51_1, lt_3, lt_38, lt_40, zt_40, gN, gZ, hl6, hcl, hs6, e5, f2, f4, f7, f95, d13, hx, hx1, lx1, d14, retA_ret, Tryz.results47, resultsC_1, resultA_cell]
      exact hid_mk ⟨by rw [hq], kk _⟩
    · have d14 : decide ((((dec (numR p) 0 0).1 : Nat) : Int) ≤ n.2[i].epoch) = false := by simpa using b14
      rw [if_neg b14] at hq
      simp only [bW, Nat.reduceEqDiff, Nat.reduceAdd, Nat.reduceLeDiff, ft_162_0, ft_40_2, ft_51_1, lt_117, lt_3, lt_38, lt_40, pl_51, zc_51, gN, g3, hl6, e5, w3, aConv_int it_117 it_3, f2, f7, f8, f9, f95, d13, hx, hx1, lx1, d14]
      refine callI_pure cal89 (pWithR room s m torn n ⟨((dec (numR (numR p)) 0 0).1 : Nat), ((dec (numR p) 0 0).1 : Nat), (getBytes (numR (numR (numR p)))).1⟩ hr hl _) ?_
      simp only [bW, Nat.reduceEqDiff, lt_40, zt_40, gZ, hl6, hcl, hs6, f4, retA_ret, Tryz.results47, resultsC_1, resultA_cell]
      exact hid_mk ⟨by rw [hq], kk _⟩
end Go.Proofs.YtilgpaibolollaaGreat.Pk
namespace Go.Proofs.YtilgpaibolollaaGreat.Pk
open Go Go.Proofs Go.Proofs.YtilgpaibolollaaGreat.Ab
set_option maxRecDepth 10000
set_option linter.unusedVariables false
set_option linter.unusedSimpArgs false
/-! ### Layer 8 of the reference: Open -/
theorem filt_len (l : List Cel) (k : Int) : (l.filter (fun d => decide (d.at_ < k))).length + (l.filter fun d => decide (k < d.at_)).length ≤ l.length := by
  induction l with
  | nil => simp
  | cons d l ih =>
    rw [List.filter_cons, List.filter_cons]
    by_cases h1 : d.at_ < k
    · rw [if_pos (by simpa using h1), if_neg (by simp; omega)]; simp only [List.length_cons]; omega
    · by_cases h2 : k < d.at_
      · rw [if_neg (by simp; omega), if_pos (by simpa using h2)]; simp only [List.length_cons]; omega
      · rw [if_neg (by simp; omega), if_neg (by simp; omega)]; simp only [List.length_cons]; omega
theorem rwith_len (l : List Cel) (c : Cel) : (rwith l c).length ≤ l.length + 1 := by
  have := filt_len l c.at_
  unfold rwith
  rw [List.length_append, List.length_cons]
  omega
theorem redoR_len (n : RNd) (p : List Nat) : (redoR n p).2.length ≤ n.2.length + 1 := by
  unfold redoR
  split
  · split
    · exact Nat.le_succ _
    · exact rwith_len _ _
  · exact Nat.le_succ _
theorem redoRL_len (l : List (List Nat)) : (redoRL l).2.length ≤ l.length := by
  have : ∀ (l : List (List Nat)) (n : RNd), (l.foldl redoR n).2.length ≤ n.2.length + l.length := by
    intro l
    induction l with
    | nil => exact fun n => Nat.le_refl _
    | cons p l ih =>
      intro n
      have h1 := ih (redoR n p)
      have h2 := redoR_len n p
      rw [List.foldl_cons, List.length_cons]
      omega
  have := this l (0, [])
  simpa [redoRL] using this
theorem redoRL_take {l : List (List Nat)} {i : Nat} (hi : i < l.length) : redoRL (l.take (i + 1)) = redoR (redoRL (l.take i)) l[i] := by
  rw [List.take_succ_eq_append_getElem hi, redoRL_snoc]
theorem sgE_rn (room : Int) (l m : List Nat) (torn : Int) : sgE room l m torn = [.int .i64 room, .imm l.length (bytesV l), .imm m.length (bytesV m), .int .i64 torn] := by
  unfold sgE xE
  rw [bV_nI, bV_nI, nI_len, nI_len]
  rfl
theorem row_ix {l : List (List Nat)} {k : Nat} (hk : k < l.length) {kk : IntKind} : aIndexAddr Tryz.prog 73 (.imm l.length (rowV l)) (.int kk (k : Int)) = some (.at (.imm l[k].length (bytesV l[k]) :: rowV (l.drop (k + 1)))) := by
  rw [index_imm ss_73 (by omega) (by omega) (by rw [rowV_len]; omega), Int.toNat_natCast, Nat.mul_one]
  unfold rowV
  rw [← List.map_drop, List.drop_eq_getElem_cons hk]
  rfl
theorem pRowRP (room torn : Int) (l m : List Nat) (hb : ∀ x ∈ l ++ m, x < 256) (hl : (l ++ m).length ≤ 2 ^ 30) (h : AHeap) :
    Pure Tryz.prog 46 [.agg (sgE room l m torn)] h (.imm (scanF (l ++ m).length (l ++ m)).1.length (rowV (scanF (l ++ m).length (l ++ m)).1)) :=
  Pure.acc (rowV_clo _) (by rw [rowV_len, Nat.mul_one]) (by decide) (pRowR room torn l m hb hl h)
def rnV (room : Int) (s : List Nat) (torn ep : Int) (v : V) : List V := [.int .i64 room, .imm s.length (bytesV s), .imm 0 (bytesV []), .int .i64 torn, .int .i64 ep, v]
/-- What the cells are, at first nil. -/
def CelsV (v : V) (l : List Cel) : Prop := v = .snil ∧ l = [] ∨ v = .imm l.length (l.flatMap celE)
theorem CelsV.cast {v : V} {l : List Cel} (c : CelsV v l) (h : AHeap) : Cast v h (.imm l.length (l.flatMap celE)) h := by
  rcases c with ⟨rfl, rfl⟩ | rfl
  · exact Cast.nil0 h
  · exact Cast.refl _ _
theorem CelsV.one {v : V} {l : List Cel} (c : CelsV v l) : v.one = true := by
  rcases c with ⟨rfl, rfl⟩ | rfl <;> rfl
theorem rnV_cast {room : Int} {s : List Nat} {torn : Int} {v : V} {n : RNd} (c : CelsV v n.2) (h : AHeap) : Cast (.agg (rnV room s torn n.1 v)) h (.agg (rnE room s [] torn n)) h :=
  Pk.Cast.agg (CastL.skip (CastL.skip (CastL.skip (CastL.skip (CastL.skip (CastL.last (c.cast h)))))))
theorem pNodeR (room : Int) (l m : List Nat) (hb : ∀ x ∈ l ++ m, x < 256) (hl : (l ++ m).length ≤ 2 ^ 29) (h : AHeap) :
    Pure Tryz.prog 9 [.agg (xE room (nI l) (nI m))] h (.agg (rnE room ((scanF (l ++ m).length (l ++ m)).1.flatMap frame) [] (((l ++ m).length : Int) - (endN (l ++ m) : Nat)) (redoRL (scanF (l ++ m).length (l ++ m)).1))) := by
  refine Pure.of (Clo.agg (rnE_clo _ _ _ _ _)) ?_
  refine SCalls.enterI (c := _) Tryz.func9 rfl (by kernel_rfl) (by simp) ?_
  have hcl : (V.agg (xE room (nI l) (nI m))).cells = some (xE room (nI l) (nI m)) := rfl
  have hld : loadGo (some (some 3)) (some (xE room (nI l) (nI m))) = some (.agg (xE room (nI l) (nI m))) := rfl
  obtain ⟨t1, t2⟩ := scan_back (l ++ m).length (l ++ m) hb
  have t3 := scanF_mem (l ++ m).length (l ++ m) hb
  have t4 := scanF_len (l ++ m).length (l ++ m)
  have hE : (l ++ m).take (endN (l ++ m)) = (scanF (l ++ m).length (l ++ m)).1.flatMap frame := t1
  have hsl : ((l ++ m).take (endN (l ++ m))).length ≤ (l ++ m).length := by rw [List.length_take]; omega
  simp only [bW, Nat.reduceEqDiff, lt_31, zc_40, hcl, hld]
  refine callI_pure cal45 (pOpenSegR room l m hb (by omega) _) ?_
  rw [hE] at hsl ⊢
  generalize ((l ++ m).length : Int) - ((endN (l ++ m) : Nat) : Int) = tn
  have hall := scan_all (scanF (l ++ m).length (l ++ m)).1 t2
  generalize (scanF (l ++ m).length (l ++ m)).1 = S at t1 t2 t3 t4 hE hsl hall ⊢
  have hbs : ∀ x ∈ S.flatMap frame ++ [], x < 256 := fun x hx => by
    rw [List.append_nil, ← hE] at hx
    exact hb x (List.mem_of_mem_take hx)
  rw [sgE_rn]
  simp only [bW, Nat.reduceEqDiff, Nat.reduceAdd, Nat.reduceLeDiff, ft_40_0, lt_37, pl_40, zc_40, zt_40]
  refine callI_pure cal46 (by
    have := pRowRP room tn (S.flatMap frame) [] hbs (by rw [List.append_nil]; omega) ((((h.push (.cells (xE room (nI l) (nI m)) 31 none)).push (.cells [.int .i64 0, .snil, .snil, .int .i64 0, .int .i64 0, .snil] 40 none)).push (.cells (rnV room (S.flatMap frame) tn 0 .snil) 40 none)))
    rw [sgE_rn, List.append_nil, hall] at this
    exact this) ?_
  simp only [bW, Nat.reduceEqDiff]
  have k0 : Keep h (((h.push (.cells (xE room (nI l) (nI m)) 31 none)).push (.cells [.int .i64 0, .snil, .snil, .int .i64 0, .int .i64 0, .snil] 40 none)).push (.cells (rnV room (S.flatMap frame) tn 0 .snil) 40 none)) none_ := ((Keep.push _ _ _).trans (Keep.push _ _ _) (fun _ _ h => h)).trans (Keep.push _ _ _) (fun _ _ h => h)
  have gN : (((h.push (.cells (xE room (nI l) (nI m)) 31 none)).push (.cells [.int .i64 0, .snil, .snil, .int .i64 0, .int .i64 0, .snil] 40 none)).push (.cells (rnV room (S.flatMap frame) tn 0 .snil) 40 none)).get (h.n + 1 + 1) = .cells (rnV room (S.flatMap frame) tn 0 .snil) 40 none := get_push_new
  have gZ : (((h.push (.cells (xE room (nI l) (nI m)) 31 none)).push (.cells [.int .i64 0, .snil, .snil, .int .i64 0, .int .i64 0, .snil] 40 none)).push (.cells (rnV room (S.flatMap frame) tn 0 .snil) 40 none)).get (h.n + 1) = .cells [.int .i64 0, .snil, .snil, .int .i64 0, .int .i64 0, .snil] 40 none := get_p2 (h.push _) _ _
  have n0 : (((h.push (.cells (xE room (nI l) (nI m)) 31 none)).push (.cells [.int .i64 0, .snil, .snil, .int .i64 0, .int .i64 0, .snil] 40 none)).push (.cells (rnV room (S.flatMap frame) tn 0 .snil) 40 none)).n = h.n + 3 := rfl
  unfold rnV at k0 gN gZ n0
  generalize (((h.push (.cells (xE room (nI l) (nI m)) 31 none)).push (.cells [.int .i64 0, .snil, .snil, .int .i64 0, .int .i64 0, .snil] 40 none)).push (.cells [.int .i64 room, .imm (S.flatMap frame).length (bytesV (S.flatMap frame)), .imm 0 (bytesV []), .int .i64 tn, .int .i64 0, .snil] 40 none)) = H at k0 gN gZ n0 ⊢
  refine SWp.loopG (α := Nat × V) (fun x f h' => f 2 = .ptr (h.n + 1) 0 ∧ f 3 = .ptr (h.n + 1 + 1) 0 ∧ f 4 = .imm S.length (rowV S) ∧ f 5 = .int .i64 (x.1 : Nat) ∧ x.1 ≤ S.length ∧ CelsV x.2 (redoRL (S.take x.1)).2 ∧
    h'.get (h.n + 1 + 1) = .cells (rnV room (S.flatMap frame) tn (redoRL (S.take x.1)).1 x.2) 40 none ∧ Keep H h' (fun q => q = h.n + 1 + 1)) (fun x => S.length - x.1) (0, .snil)
    ⟨rfl, rfl, rfl, rfl, Nat.zero_le _, .inl ⟨rfl, rfl⟩, gN, Keep.refl _ _⟩ ?_
  rintro ⟨i, v⟩ f h1 ⟨f2, f3, f4, f5, hi, hv, g1, k1⟩
  simp only at f2 f3 f4 f5 hi hv g1 k1
  refine wpI_sound (by kernel_rfl) ?_
  have lk := like_all (S.take i)
  have hri := lk.ri
  have hrl := redoRL_len (S.take i)
  rw [List.length_take] at hrl
  have l6 : ∀ (a : Int) (v : V), loadGo (some (some 6)) (some (rnV room (S.flatMap frame) tn a v)) = some (.agg (rnV room (S.flatMap frame) tn a v)) := fun a v => rfl
  have c6 : ∀ (a : Int) (v : V), (V.agg (rnV room (S.flatMap frame) tn a v)).cells = some (rnV room (S.flatMap frame) tn a v) := fun a v => rfl
  by_cases hlt : i < S.length
  · have d1 : decide ((i : Int) < ((S.length : Nat) : Int)) = true := by simp; omega
    have hx := row_ix hlt (kk := .i64)
    have hi1 : IntKind.i64.wrap ((i : Int) + 1) = ((i + 1 : Nat) : Int) := by rw [Go.IntWalk.i64_in _ (by omega)]; rfl
    have hT := redoRL_take hlt
    have hp := t3 S[i] (List.getElem_mem hlt)
    generalize redoRL (S.take i) = nd at *
    have ce : ∀ n : RNd, (V.agg (rnE room (S.flatMap frame) [] tn n)).cells = some (rnE room (S.flatMap frame) [] tn n) := fun _ => rfl
    have hst : ∀ n : RNd, setC (some 6) (AObj.cells (rnV room (S.flatMap frame) tn nd.1 v) 40 none) 0 (rnE room (S.flatMap frame) [] tn n) = some (.cells (rnE room (S.flatMap frame) [] tn n) 40 none) := fun _ => rfl
    have hredo : ∀ h', Pure Tryz.prog 47 [.agg (rnV room (S.flatMap frame) tn nd.1 v), .imm S[i].length (bytesV S[i])] h' (.agg (rnE room (S.flatMap frame) [] tn (redoR nd S[i]))) := fun h' => Pure.args (CastL.cons (rnV_cast hv h') (CastL.refl _ _)) (pRedoR room (S.flatMap frame) [] tn nd S[i] hri (by omega) hp.2 (by omega) h')
    simp only [bW, Nat.reduceEqDiff, kt_73, f4, f5, d1]
    refine SWp.drawnS none_ [6] (.q 0 (.q 1 (.q 2 (.q 3 (.q 4 (.c 5 (.a 6 .done))))))) (by kernel_rfl) (by kernel_rfl) (by kernel_rfl) ?_
    simp only [bW, bS, Nat.reduceEqDiff, lt_29, lt_40, f3, f4, f5, g1, l6, hx]
    refine siI_c rfl rfl rfl (fun h' _ => hredo h') ?_
    simp only [bW, bS, Nat.reduceEqDiff, zt_40, f3, f5, g1, ce, hst, hi1]
    exact hid_mk ⟨(i + 1, .imm (redoR nd S[i]).2.length ((redoR nd S[i]).2.flatMap celE)), ⟨f2, f3, f4, rfl, hlt, by rw [hT]; exact .inr rfl, by rw [hT]; exact get_set_same, k1.trans (Keep.set _ _ _) fun x _ hh => hh⟩, by simp only; omega⟩
  · have d1 : decide ((i : Int) < ((S.length : Nat) : Int)) = false := by simp; omega
    rw [List.take_of_length_le (show S.length ≤ i by omega)] at hv g1
    have z1 := (k1.get (h.n + 1) (by omega) (by omega)).trans gZ
    have hst : setC (some 6) (AObj.cells [.int .i64 0, .snil, .snil, .int .i64 0, .int .i64 0, .snil] 40 none) 0 (rnV room (S.flatMap frame) tn (redoRL S).1 v) = some (.cells (rnV room (S.flatMap frame) tn (redoRL S).1 v) 40 none) := by
      rw [setC_row (n := 6) rfl (by simp [hv.one, rnV]; exact ⟨rfl, rfl, rfl, rfl, rfl⟩), if_pos (by decide)]; rfl
    simp only [bW, Nat.reduceEqDiff, kt_73, lt_40, zt_40, f2, f3, f4, f5, d1, g1, l6, c6, z1, hst, retA_ret, Tryz.results9, resultsC_1, resultA_cell]
    exact hid_mk ⟨_, rnV_cast hv _, ((k0.trans k1 fun x hx hh => by omega).trans (Keep.set _ _ _) fun x hx hh => by omega)⟩
end Go.Proofs.YtilgpaibolollaaGreat.Pk
namespace Go.Proofs.YtilgpaibolollaaGreat.Pk
open Go Go.Proofs Go.Proofs.YtilgpaibolollaaGreat.Ab
set_option maxRecDepth 10000
set_option linter.unusedVariables false
set_option linter.unusedSimpArgs false
/-! ### Layer 8 of the reference: note -/
def noteV (room : Int) (s : List Nat) (torn : Int) (n : RNd) (b : List Nat) : V :=
  if putBad room s b = 0 then .tuple [.agg (rnE room (s ++ frame b) [] torn (redoR n b)), .int .i64 0] else .tuple [.agg (rnE room s [] torn n), .int .i64 (putBad room s b)]
theorem noteV_clo (room : Int) (s : List Nat) (torn : Int) (n : RNd) (b : List Nat) : Clo (noteV room s torn n b) := by
  unfold noteV
  split <;> exact Clo.tuple (CloL.cons (Clo.agg (rnE_clo _ _ _ _ _)) (CloL.cons (Clo.int _ _) CloL.nil))
theorem pNoteR (room : Int) (s : List Nat) (torn : Int) (n : RNd) (b : List Nat) (hroom : room ≤ 1048576) (hs : s.length ≤ 2 ^ 29) (hr : Rise n.2) (hl : n.2.length ≤ 2 ^ 30) (hb : ∀ x ∈ b, x < 256) (hbl : b.length ≤ 2 ^ 40) (h : AHeap) :
    Pure Tryz.prog 53 [.agg (rnE room s [] torn n), .imm b.length (bytesV b)] h (noteV room s torn n b) := by
  refine Pure.val (noteV_clo _ _ _ _ _) ?_
  refine SCalls.enterI (c := _) Tryz.func53 rfl (by kernel_rfl) (by simp) ?_
  have hcl : ∀ s n, (V.agg (rnE room s [] torn n)).cells = some (rnE room s [] torn n) := fun s n => rfl
  have hs6 : ∀ s n, setC (some 6) (AObj.cells [.int .i64 0, .snil, .snil, .int .i64 0, .int .i64 0, .snil] 40 none) 0 (rnE room s [] torn n) = some (.cells (rnE room s [] torn n) 40 none) := fun s n => rfl
  have hl6 : ∀ s n, loadGo (some (some 6)) (some (rnE room s [] torn n)) = some (.agg (rnE room s [] torn n)) := fun s n => rfl
  have l4 : (if 4 ≤ (rnE room s [] torn n).length then some (V.agg (List.take 4 (rnE room s [] torn n))) else none) = some (.agg (sgE room s [] torn)) := by rw [sgE_rn]; rfl
  simp only [bW, Nat.reduceEqDiff, ft_40_0, lt_37, zc_40, hcl, l4]
  refine callI_pure cal93 (pPutR room torn s [] b hroom (by rw [List.append_nil]; omega) hb hbl _) ?_
  have hc4 : ∀ l m, (V.agg (sgE room l m torn)).cells = some (sgE room l m torn) := fun l m => rfl
  have s4 : ∀ l m, setC (some 4) (AObj.cells [.int .i64 0, .snil, .snil, .int .i64 0] 37 none) 0 (sgE room l m torn) = some (.cells (sgE room l m torn) 37 none) := fun l m => rfl
  have hld4 : ∀ l m, loadGo (some (some 4)) (some (sgE room l m torn)) = some (.agg (sgE room l m torn)) := fun l m => rfl
  have hq : ∀ e : Int, e ≠ 0 → putBad room s b = e → noteV room s torn n b = .tuple [.agg (rnE room s [] torn n), .int .i64 e] := fun e h0 he => by unfold noteV; rw [he, if_neg h0]
  have k0 : Keep h ((h.push (.cells (rnE room s [] torn n) 40 none)).push (.cells [.int .i64 0, .snil, .snil, .int .i64 0, .int .i64 0, .snil] 40 none)) none_ := (Keep.push _ _ _).trans (Keep.push _ _ _) (fun _ _ h => h)
  have gN : ((h.push (.cells (rnE room s [] torn n) 40 none)).push (.cells [.int .i64 0, .snil, .snil, .int .i64 0, .int .i64 0, .snil] 40 none)).get h.n = .cells (rnE room s [] torn n) 40 none := get_p2 _ _ _
  have gZ : ((h.push (.cells (rnE room s [] torn n) 40 none)).push (.cells [.int .i64 0, .snil, .snil, .int .i64 0, .int .i64 0, .snil] 40 none)).get (h.n + 1) = .cells [.int .i64 0, .snil, .snil, .int .i64 0, .int .i64 0, .snil] 40 none := get_push_new
  have n0 : ((h.push (.cells (rnE room s [] torn n) 40 none)).push (.cells [.int .i64 0, .snil, .snil, .int .i64 0, .int .i64 0, .snil] 40 none)).n = h.n + 2 := rfl
  generalize (h.push (.cells (rnE room s [] torn n) 40 none)).push (.cells [.int .i64 0, .snil, .snil, .int .i64 0, .int .i64 0, .snil] 40 none) = H at k0 gN gZ n0 ⊢
  have bad : ∀ m', Keep H (H.push (.cells (sgE room s m' torn) 37 none)) none_ := fun m' => Keep.push _ _ _
  unfold putRV
  rw [List.append_nil]
  by_cases hbig : 4096 < b.length
  · rw [if_pos hbig]
    have hp : putBad room s b = 2 := by unfold putBad; rw [if_pos hbig]
    have gN := (((bad []).get h.n (by omega) (fun h => h))).trans gN
    have gZ := (((bad []).get (h.n + 1) (by omega) (fun h => h))).trans gZ
    have kk : ∀ o, Keep h ((H.push (.cells (sgE room s [] torn) 37 none)).set (h.n + 1) o) none_ := fun o => (k0.trans (bad []) fun _ _ h => h).setNew (by omega) _
    simp only [bW, Int.reduceBNe, Nat.reduceEqDiff, lt_40, zc_37, zt_37, zt_40, hcl, hs6, hl6, hc4, s4, gN, gZ, retA_ret, Tryz.results53, resultsC_2, resultA_tmp, resultA_cell, res2_some]
    exact hid_mk ⟨by rw [hq 2 (by decide) hp], kk _⟩
  rw [if_neg hbig]
  by_cases hfit : (s.length + (frame b).length : Int) ≤ room
  rotate_left
  · rw [if_neg hfit]
    have hp : putBad room s b = 3 := by unfold putBad; rw [if_neg hbig, if_neg hfit]
    have gN := (((bad []).get h.n (by omega) (fun h => h))).trans gN
    have gZ := (((bad []).get (h.n + 1) (by omega) (fun h => h))).trans gZ
    have kk : ∀ o, Keep h ((H.push (.cells (sgE room s [] torn) 37 none)).set (h.n + 1) o) none_ := fun o => (k0.trans (bad []) fun _ _ h => h).setNew (by omega) _
    simp only [bW, Int.reduceBNe, Nat.reduceEqDiff, lt_40, zc_37, zt_37, zt_40, hcl, hs6, hl6, hc4, s4, gN, gZ, retA_ret, Tryz.results53, resultsC_2, resultA_tmp, resultA_cell, res2_some]
    exact hid_mk ⟨by rw [hq 3 (by decide) hp], kk _⟩
  rw [if_pos hfit, List.nil_append]
  have hp : putBad room s b = 0 := by unfold putBad; rw [if_neg hbig, if_pos hfit]
  have hv : noteV room s torn n b = .tuple [.agg (rnE room (s ++ frame b) [] torn (redoR n b)), .int .i64 0] := by unfold noteV; rw [hp, if_pos rfl]
  have hfl : (frame b).length ≤ 2 ^ 39 := by
    unfold frame encBytes
    have := (enc_le b.length (by omega)).2
    rw [List.length_append, List.length_append]
    show _ + 4 ≤ _
    omega
  have k2 := bad (frame b)
  have gN := (((bad (frame b)).get h.n (by omega) (fun h => h))).trans gN
  have gZ := (((bad (frame b)).get (h.n + 1) (by omega) (fun h => h))).trans gZ
  have gS : (H.push (.cells (sgE room s (frame b) torn) 37 none)).get H.n = .cells (sgE room s (frame b) torn) 37 none := get_push_new
  have l3 : (if 3 ≤ (sgE room s (frame b) torn).length then some (V.agg (List.take 3 (sgE room s (frame b) torn))) else none) = some (.agg (xE room (nI s) (nI (frame b)))) := rfl
  simp only [bW, Nat.reduceEqDiff, ft_37_0, lt_31, zc_37, zt_37, hc4, s4, gS, l3]
  generalize H.push (.cells (sgE room s (frame b) torn) 37 none) = H2 at k2 gN gZ gS ⊢
  refine callI_pure cal61 (rSync room (nI s) (nI (frame b)) (by rw [nI_len, nI_len]; omega) _) ?_
  rw [← nI_app]
  have c3 : (V.agg (xE room (nI (s ++ frame b)) [])).cells = some (xE room (nI (s ++ frame b)) []) := rfl
  have t3 : setC (some 3) (AObj.cells (sgE room s (frame b) torn) 37 none) 0 (xE room (nI (s ++ frame b)) []) = some (.cells (sgE room (s ++ frame b) [] torn) 37 none) := rfl
  have t4 : setC (some 4) (AObj.cells (rnE room s [] torn n) 40 none) 0 (sgE room (s ++ frame b) [] torn) = some (.cells (rnE room (s ++ frame b) [] torn n) 40 none) := by rw [sgE_rn]; rfl
  have g3 : ∀ o, (H2.set H.n o).get H.n = o := fun o => get_set_same
  have gN3 : ∀ o, (H2.set H.n o).get h.n = H2.get h.n := fun o => get_set_ne (by omega)
  have gN4 : ∀ o o', ((H2.set H.n o).set h.n o').get h.n = o' := fun o o' => get_set_same
  have gZ4 : ∀ o o', ((H2.set H.n o).set h.n o').get (h.n + 1) = H2.get (h.n + 1) := fun o o' => (get_set_ne (by omega)).trans (get_set_ne (by omega))
  simp only [bW, Nat.reduceEqDiff, ft_37_0, ft_40_0, lt_37, lt_40, zt_31, zt_37, hl6, hc4, gS, c3, t3, t4, gN3, gN, hld4]
  refine callI_pure cal47 (pRedoR room (s ++ frame b) [] torn n b hr hl hb hbl _) ?_
  simp only [bW, Nat.reduceEqDiff, lt_40, zt_40, hcl, hs6, hl6, gZ4, gZ, retA_ret, Tryz.results53, resultsC_2, resultA_tmp, resultA_cell, res2_some]
  exact hid_mk ⟨by rw [hv], ((((k0.trans k2 fun _ _ h => h).setNew (by omega) _).setNew (Nat.le_refl _) _).setNew (by omega) _)⟩
end Go.Proofs.YtilgpaibolollaaGreat.Pk
