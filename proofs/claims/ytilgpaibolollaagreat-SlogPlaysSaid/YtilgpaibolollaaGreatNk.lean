/-
  What functions of the program do, told of abstract states. Conditions: as each theorem says.
-/
import Derived.Test.YtilgpaibolollaaGreatNj
import Derived.Test.YtilgpaibolollaaGreatNi
import Derived.Test.YtilgpaibolollaaGreatAcD
namespace Go.Proofs.YtilgpaibolollaaGreat.Pk
open Go Go.Proofs Go.Proofs.YtilgpaibolollaaGreat.Ab
set_option maxRecDepth 10000
set_option linter.unusedVariables false
set_option linter.unusedSimpArgs false
/-! ### What the law SlogPlays needs -/
set_option maxRecDepth 10000 in
theorem logCrashX {h0 h : AHeap} {L : Nat} {room : Int} {n : Nat} {rs : Nat → NR} {dv nv pv : V} {ow : Nat → Nat} {s : LS} (w : LogS h0 h L room n rs dv nv pv ow s) (hn : n ≤ 2 ^ 10) (q keep turn : Int) :
    SCalls Tryz.prog 32 [.ptr L 0, .int .i64 q, .int .i64 keep, .int .i64 turn] h (fun x h' => x = .int .i64 (if 0 ≤ q ∧ q < n then 0 else 1) ∧ ∃ rs' ow', LogS h0 h' L room n rs' dv nv pv ow' s ∧ LFr h h' ow ow') := by
  have kP : Keep h ((h.push (.cells [.int .i64 keep] 3 none)).push (.cells [.int .i64 turn] 3 none)) none_ := (Keep.push _ _ _).then_push _
  have q1 : ((h.push (.cells [.int .i64 keep] 3 none)).push (.cells [.int .i64 turn] 3 none)).get h.n = .cells [.int .i64 keep] 3 none := (get_push_lt (by simp only [push_n]; omega)).trans get_push_new
  have q2 : ((h.push (.cells [.int .i64 keep] 3 none)).push (.cells [.int .i64 turn] 3 none)).get (h.n + 1) = .cells [.int .i64 turn] 3 none := get_push_new
  have w1 := w.on kP
  refine SCalls.enterI (c := _) Tryz.func32 rfl (by kernel_rfl) (by simp) ?_
  simp only [bW, Nat.reduceEqDiff, reduceCtorEq]
  generalize (h.push (.cells [.int .i64 keep] 3 none)).push (.cells [.int .i64 turn] 3 none) = H at kP q1 q2 w1 ⊢
  by_cases hq : 0 ≤ q ∧ q < n
  · obtain ⟨k, rfl⟩ : ∃ k : Nat, q = k := ⟨q.toNat, by omega⟩
    have hk : k < n := by omega
    have d := w1.ns.nd k hk
    refine callI_of cal74 (logRestart w1 hn hk d.ok d.pl cal75 (cClo d keep turn q1 q2)) fun x h1 ⟨ex, rs', ow', w2, fr⟩ => ?_
    subst ex
    have e : updN s.nd k (s.nd k) = s.nd := by
      funext p
      by_cases e : p = k
      · subst e; rw [updN_same]
      · rw [updN_ne e]
    rw [e] at w2
    simp only [bW, Nat.reduceEqDiff, retA_ret, Tryz.results32, resultsA_1]
    exact hid_mk ⟨by rw [if_pos hq], rs', ow', w2, (LFr.none ow kP).trans fr⟩
  · refine callI_of cal74 (logRestartNo w1 q (by omega) _) fun x h1 ⟨ex, e⟩ => ?_
    subst ex; subst e
    simp only [bW, Nat.reduceEqDiff, retA_ret, Tryz.results32, resultsA_1]
    exact hid_mk ⟨by rw [if_neg hq], rs, ow, w1, LFr.none ow kP⟩
theorem logLoseX {h0 h : AHeap} {L : Nat} {room : Int} {n : Nat} {rs : Nat → NR} {dv nv pv : V} {ow : Nat → Nat} {s : LS} (w : LogS h0 h L room n rs dv nv pv ow s) (q : Int) (hq : q < 0 ∨ (n : Int) ≤ q) :
    SCalls Tryz.prog 34 [.ptr L 0, .int .i64 q] h (fun x h' => x = .int .i64 1 ∧ h' = h) := by
  refine SCalls.enterI (c := _) Tryz.func34 rfl (by kernel_rfl) (by simp) ?_
  simp only [bW, Nat.reduceEqDiff, reduceCtorEq]
  refine callI_of cal74 (logRestartNo w q hq _) fun x h1 ⟨ex, e⟩ => ?_
  subst ex; subst e
  simp only [bW, Nat.reduceEqDiff, retA_ret, Tryz.results34, resultsA_1]
  exact hid_mk ⟨rfl, rfl⟩
theorem logNewBad (i room : Int) (hi : i < 1 ∨ 7 < i ∨ i.tmod 2 = 0) (h : AHeap) : Pure Tryz.prog 26 [.int .i64 i, .int .i64 room] h (.tuple [.pnil, .int .i64 1]) := by
  refine SCalls.enterI (c := _) Tryz.func26 rfl (by kernel_rfl) (by simp) ?_
  by_cases h1 : i < 1
  · have d1 : decide (i < 1) = true := by simpa using h1
    simp only [bW, Nat.reduceEqDiff, reduceCtorEq, d1, retA_ret, Tryz.results26, resultsA_2]
    exact hid_mk ⟨rfl, rfl⟩
  have d1 : decide (i < 1) = false := by simpa using h1
  by_cases h2 : 7 < i
  · have d2 : decide (7 < i) = true := by simpa using h2
    simp only [bW, Nat.reduceEqDiff, reduceCtorEq, d1, d2, retA_ret, Tryz.results26, resultsA_2]
    exact hid_mk ⟨rfl, rfl⟩
  have d2 : decide (7 < i) = false := by simpa using h2
  have d3 : (i.tmod 2 == 0) = true := by rw [beq_iff_eq]; omega
  simp only [bW, Nat.reduceEqDiff, reduceCtorEq, d1, d2, aBin_rem (show (2 : Int) ≠ 0 by decide), d3, retA_ret, Tryz.results26, resultsA_2]
  exact hid_mk ⟨rfl, rfl⟩
theorem pRow10P {h0 h : AHeap} {L : Nat} {room : Int} {n : Nat} {rs : Nat → NR} {dv nv pv : V} {ow : Nat → Nat} {s : LS} (w : LogS h0 h L room n rs dv nv pv ow s) : Pure Tryz.prog 37 [.ptr L 0] h (.imm s.row.length (rowV s.row)) :=
  Pure.acc (e := 29) (sz := 1) (rowV_clo _) (by rw [rowV_len, Nat.mul_one]) (by decide) (pRow10 w)
theorem pListsT (a : List (List Nat)) (ha : a.length ≤ 2 ^ 40) (ba : ∀ x ∈ a, ∀ y ∈ x, y < 256) (h : AHeap) : Pure Tryz.prog 36 [.imm a.length (rowV a), .imm a.length (rowV a)] h (.bool true) := by
  refine SCalls.enterI (c := _) Tryz.func36 rfl (by kernel_rfl) (by simp) ?_
  have c1 : (((a.length : Nat) : Int) != ((a.length : Nat) : Int)) = false := by simp
  simp only [bW, Nat.reduceEqDiff, reduceCtorEq, kt_73]
  refine SWp.loopG (α := Nat) (fun i f h' => f 0 = .imm a.length (rowV a) ∧ f 1 = .imm a.length (rowV a) ∧ f 5 = .int .i64 (i : Nat) ∧ i ≤ a.length ∧ h' = h) (fun i => a.length - i) 0
    ⟨rfl, rfl, rfl, Nat.zero_le _, rfl⟩ ?_
  rintro i f h1 ⟨f0, f1, f5, hi, rfl⟩
  refine wpI_sound (by kernel_rfl) ?_
  by_cases hlt : i < a.length
  · have d1 : decide ((i : Int) < ((a.length : Nat) : Int)) = true := decide_eq_true (by omega)
    have hw : IntKind.i64.wrap ((i : Int) + 1) = ((i + 1 : Nat) : Int) := by rw [Go.IntWalk.i64_in _ (by omega)]; rfl
    have hx := row_ix hlt (kk := .i64)
    have lx : ∀ (x : V) (r : List V), loadGo (some none) (some (x :: r)) = some x := fun x r => rfl
    have es := strB_eq (ba _ (List.getElem_mem hlt)) (ba _ (List.getElem_mem hlt))
    rw [show decide (a[i] = a[i]) = true by simp] at es
    simp only [bW, Nat.reduceEqDiff, reduceCtorEq, kt_73, f0, f5, d1]
    refine SWp.drawnS none_ [] (.q 0 (.q 1 (.q 2 (.q 3 (.q 4 (.q 5 (.q 6 (.q 7 (.q 8 (.q 9 (.q 10 .done))))))))))) (by kernel_rfl) (by kernel_rfl) (by kernel_rfl) ?_
    simp only [bW, bS, Nat.reduceEqDiff, reduceCtorEq, lt_29, f0, f1, f5, hx, lx, convB, hw]
    exact hid_mk ⟨i + 1, ⟨f0, f1, rfl, hlt, rfl⟩, by omega⟩
  · have d1 : decide ((i : Int) < ((a.length : Nat) : Int)) = false := decide_eq_false (by omega)
    simp only [bW, Nat.reduceEqDiff, reduceCtorEq, kt_73, f0, f5, d1, retA_ret, Tryz.results36, resultsA_1]
    exact hid_mk ⟨rfl, rfl⟩
theorem LogS.okl {h0 h : AHeap} {L : Nat} {room : Int} {n : Nat} {rs : Nat → NR} {dv nv pv : V} {ow : Nat → Nat} {s : LS} (w : LogS h0 h L room n rs dv nv pv ow s) : ∀ q, q < n → Okl room (s.nd q) := fun q hq => (w.ns.nd q hq).okl
theorem pAppendS (room : Int) (n : Nat) (ts : Nat → Int) (s : LS) (hn : n ≤ 1000) (ok : ∀ q, q < n → Okl room (s.nd q)) (b : List Nat) (hb : ∀ x ∈ b, x < 256) (hbl : b.length ≤ 2 ^ 50) (reach : List Bool) (h : AHeap) :
    Pure Tryz.prog 29 [.agg (lgS room n ts s), .imm b.length (bytesV b), .imm reach.length (boV reach)] h (.tuple [.agg (lgS room n ts (appL room n (rch reach) b s).1), .int .i64 ((appL room n (rch reach) b s).2.1 : Nat), .int .i64 (appL room n (rch reach) b s).2.2]) :=
  pAppend10 room n s.nd ts s.op s.ep s.row hn ok b hb hbl reach h
theorem appL_ep (room : Int) (n : Nat) (rc : Nat → Bool) (b : List Nat) (s : LS) : (appL room n rc b s).1.ep = s.ep := by
  unfold appL
  split
  · rfl
  split
  · rfl
  split
  · rfl
  split <;> rfl
theorem pCrashS (room : Int) (n : Nat) (ts : Nat → Int) (s : LS) (hn : n ≤ 1000) (ok : ∀ q, q < n → Okl room (s.nd q)) (q keep turn : Int) :
    ∃ ts', ∀ h, Pure Tryz.prog 33 [.agg (lgS room n ts s), .int .i64 q, .int .i64 keep, .int .i64 turn] h (.tuple [.agg (lgS room n ts' s), .int .i64 (if 0 ≤ q ∧ q < n then 0 else 1)]) := by
  by_cases hq : 0 ≤ q ∧ q < n
  · obtain ⟨k, rfl⟩ : ∃ k : Nat, q = k := ⟨q.toNat, by omega⟩
    obtain ⟨t, ht⟩ := pCrash10 room n s.nd ts s.op s.ep s.row hn k (by omega) (ok k (by omega)) keep turn
    rw [if_pos hq]
    exact ⟨_, ht⟩
  · rw [if_neg hq]
    exact ⟨ts, fun h => pCrash10No room n s.nd ts s.op s.ep s.row hn q (by omega) keep turn h⟩
theorem pLoseS (room : Int) (n : Nat) (ts : Nat → Int) (s : LS) (hn : n ≤ 1000) (ok : ∀ q, q < n → Okl room (s.nd q)) (hr : 0 ≤ room) (k : Nat) (hk : k < n) :
    ∃ ts', ∀ h, Pure Tryz.prog 35 [.agg (lgS room n ts s), .int .i64 (k : Nat)] h (.tuple [.agg (lgS room n ts' { s with nd := updN s.nd k [] }), .int .i64 0]) := by
  obtain ⟨t, ht⟩ := pLose10 room n s.nd ts s.op s.ep s.row hn k hk (ok k hk) hr
  exact ⟨_, ht⟩
structure DeedG where
  kind : Int
  node : Int
  keep : Int
  turn : Int
  b : List Nat
  r : List Bool
def dgE (d : DeedG) : List V := [.int .i64 d.kind, .int .i64 d.node, .int .i64 d.keep, .int .i64 d.turn, .imm d.b.length (bytesV d.b), .imm d.r.length (boV d.r)]
theorem dgE_len (d : DeedG) : (dgE d).length = 6 := rfl
theorem dg_ix {l : List DeedG} {k : Nat} (hk : k < l.length) : aIndexAddr Tryz.prog 68 (.imm l.length (l.flatMap dgE)) (.int .i64 (k : Int)) = some (.at (dgE l[k] ++ (l.drop (k + 1)).flatMap dgE)) := rows_ix dgE_len hk ss_68
theorem dg_ld (c : DeedG) (r : List V) : (if 6 ≤ (dgE c ++ r).length then some (V.agg (List.take 6 (dgE c ++ r))) else none) = some (.agg (dgE c)) := by rw [if_pos (by rw [List.length_append, dgE_len]; omega)]; rfl
theorem dg_store (c : DeedG) : setC (some 6) (AObj.cells [V.int .i64 0, V.int .i64 0, V.int .i64 0, V.int .i64 0, V.snil, V.snil] 80 none) 0 (dgE c) = some (.cells (dgE c) 80 none) := rfl
theorem dg_l0 (c : DeedG) : loadGo (some none) (some (dgE c)) = some (.int .i64 c.kind) := rfl
theorem dg_d1 (c : DeedG) : dropC (AObj.cells (dgE c) 80 none) 1 = some [.int .i64 c.node, .int .i64 c.keep, .int .i64 c.turn, .imm c.b.length (bytesV c.b), .imm c.r.length (boV c.r)] := rfl
theorem dg_d2 (c : DeedG) : dropC (AObj.cells (dgE c) 80 none) 2 = some [.int .i64 c.keep, .int .i64 c.turn, .imm c.b.length (bytesV c.b), .imm c.r.length (boV c.r)] := rfl
theorem dg_d3 (c : DeedG) : dropC (AObj.cells (dgE c) 80 none) 3 = some [.int .i64 c.turn, .imm c.b.length (bytesV c.b), .imm c.r.length (boV c.r)] := rfl
theorem dg_d4 (c : DeedG) : dropC (AObj.cells (dgE c) 80 none) 4 = some [.imm c.b.length (bytesV c.b), .imm c.r.length (boV c.r)] := rfl
theorem dg_d5 (c : DeedG) : dropC (AObj.cells (dgE c) 80 none) 5 = some [.imm c.r.length (boV c.r)] := rfl
theorem lgS_s4 (room : Int) (n : Nat) (ts ts' : Nat → Int) (s s' : LS) : setC (some 4) (AObj.cells (lgS room n ts s) 75 none) 0 (lgS room n ts' s') = some (.cells (lgS room n ts' s') 75 none) := rfl
theorem lgS_s0 (room : Int) (n : Nat) (ts : Nat → Int) (s : LS) : setC (some 4) (AObj.cells [.snil, .bool false, .int .i64 0, .snil] 75 none) 0 (lgS room n ts s) = some (.cells (lgS room n ts s) 75 none) := rfl
theorem lgS_l4b (room : Int) (n : Nat) (ts : Nat → Int) (s : LS) : (if 4 ≤ (lgS room n ts s).length then some (V.agg (List.take 4 (lgS room n ts s))) else none) = some (.agg (lgS room n ts s)) := rfl
theorem lgS_d2 (room : Int) (n : Nat) (ts : Nat → Int) (s : LS) : dropC (AObj.cells (lgS room n ts s) 75 none) 2 = some [.int .i64 s.ep, .imm s.row.length (rowV s.row)] := rfl
theorem lgS_d3 (room : Int) (n : Nat) (ts : Nat → Int) (s : LS) : dropC (AObj.cells (lgS room n ts s) 75 none) 3 = some [.imm s.row.length (rowV s.row)] := rfl
end Go.Proofs.YtilgpaibolollaaGreat.Pk
namespace Go.Proofs.YtilgpaibolollaaGreat.Pk
open Go Go.Proofs Go.Proofs.YtilgpaibolollaaGreat.Ab
set_option maxRecDepth 20000
set_option linter.unusedVariables false
set_option linter.unusedSimpArgs false
theorem LFr.getZ {h h' : AHeap} {ow ow' : Nat → Nat} (f : LFr h h' ow ow') {z : Nat} (hz : z < h.n) (h0 : ow z = 0) : h'.get z = h.get z ∧ ow' z = 0 ∧ z < h'.n :=
  ⟨f.keep.get z hz (fun hh => hh h0), f.z z hz h0, Nat.lt_of_lt_of_le hz f.keep.n⟩
theorem LogS.kk {h0 h h' : AHeap} {L : Nat} {room : Int} {n : Nat} {rs : Nat → NR} {dv nv pv : V} {ow : Nat → Nat} {s : LS} (w : LogS h0 h L room n rs dv nv pv ow s) (hk : Keep h h' none_ ∨ h' = h) : LogS h0 h' L room n rs dv nv pv ow s := by
  rcases hk with hk | rfl
  · exact w.on hk
  · exact w
theorem LogS.setY {h0 h : AHeap} {L Y : Nat} {room : Int} {n : Nat} {rs : Nat → NR} {dv nv pv : V} {ow : Nat → Nat} {s : LS} (w : LogS h0 h L room n rs dv nv pv ow s) (hY : ow Y = 0) (hy : h0.n ≤ Y) (o : AObj) : LogS h0 (h.set Y o) L room n rs dv nv pv ow s := by
  have ne : ∀ {x : Nat} {k : Nat}, ow x = k → k ≠ 0 → ¬ (x = Y) := fun h1 h2 e => by rw [e, hY] at h1; exact h2 h1.symm
  exact ⟨w.keep.setNew hy _, w.new, w.owL, (get_set_ne (fun e => ne w.owL (by decide) e)).trans w.get, w.dk.keep (Keep.set _ _ _) fun x hx hh => ne (w.owd x hx) (by decide) hh, w.nk.keep (Keep.set _ _ _) fun x hx hh => ne (w.own_ x hx) (by decide) hh, w.pk.keep (Keep.set _ _ _) fun x hx hh => ne (w.owp x hx) (by decide) hh, w.owd, w.own_, w.owp, w.ns.on (Keep.set _ _ _) fun x hx => by rw [show x = Y from hx, hY]; decide, w.rok, w.rl⟩
set_option maxHeartbeats 8000000 in
theorem slogPlays (i0 : Int) (room : Nat) (hroom : room < 65536) (ds : List DeedG) (hd : ds.length ≤ 2 ^ 47) (hb : ∀ d ∈ ds, ((∀ x ∈ d.b, x < 256) ∧ d.b.length ≤ 2 ^ 47) ∧ d.r.length ≤ 2 ^ 47) (h : AHeap) : SCalls Tryz.prog 4 [.int .i64 i0, .int .u16 (room : Nat), .imm ds.length (ds.flatMap dgE)] h (fun r h' => r = .bool true) := by
  refine SCalls.enterI (c := _) Tryz.func4 rfl (by kernel_rfl) (by simp) ?_
  have wr : IntKind.i64.wrap ((room : Nat) : Int) = ((room : Nat) : Int) := wrap_nat (by omega)
  simp only [bW]
  refine callI_pure cal25 (shown10 h) ?_
  simp only [bW, Nat.reduceEqDiff, reduceCtorEq, aConv_int it_22 it_3, wr]
  by_cases hbad : i0 < 1 ∨ 7 < i0 ∨ i0.tmod 2 = 0
  · refine callI_pure cal26 (logNewBad i0 (room : Nat) hbad h) ?_
    simp only [bW, Nat.reduceEqDiff, reduceCtorEq, aConv_int it_22 it_3, wr]
    refine callI_pure cal27 (pNew10Bad i0 (room : Nat) hbad h) ?_
    have c0 : lg0.cells = some [.snil, .bool false, .int .i64 0, .snil] := rfl
    have s0 : setC (some 4) (AObj.cells [.snil, .bool false, .int .i64 0, .snil] 75 none) 0 [.snil, .bool false, .int .i64 0, .snil] = some (.cells [.snil, .bool false, .int .i64 0, .snil] 75 none) := rfl
    simp only [bW, Int.reduceBNe, Nat.reduceEqDiff, bt_4, kt_69, zc_75, zt_75, c0, s0, retA_ret, Tryz.results4, resultsA_1]
    exact hid_mk rfl
  obtain ⟨n, rfl⟩ : ∃ n : Nat, i0 = n := ⟨i0.toNat, by omega⟩
  have hn : n = 1 ∨ n = 3 ∨ n = 5 ∨ n = 7 := by
    rw [Int.tmod_eq_emod_of_nonneg (by omega)] at hbad
    omega
  refine callI_of cal26 (logNew h n hn (room : Nat) ⟨by omega, by omega⟩) fun r1 h1 ⟨L, rs0, dv0, nv0, ow0, e1, w0⟩ => ?_
  subst e1
  simp only [bW, Nat.reduceEqDiff, reduceCtorEq, aConv_int it_22 it_3, wr]
  obtain ⟨t0, hN⟩ := pNew10 n hn (room : Nat) (by omega) (by omega)
  have hN1 : ∀ h, Pure Tryz.prog 27 [.int .i64 (n : Nat), .int .i64 (room : Nat)] h (.tuple [.agg (lgS (room : Nat) n (fun _ => t0) newLS), .int .i64 0]) := hN
  refine callI_pure cal27 (hN1 h1) ?_
  have kY : Keep h1 (h1.push (.cells (lgS (room : Nat) n (fun _ => t0) newLS) 75 none)) none_ := Keep.push _ _ _
  have gY : (h1.push (.cells (lgS (room : Nat) n (fun _ => t0) newLS) 75 none)).get h1.n = .cells (lgS (room : Nat) n (fun _ => t0) newLS) 75 none := get_push_new
  have lY : h1.n < (h1.push (.cells (lgS (room : Nat) n (fun _ => t0) newLS) 75 none)).n := Nat.lt_succ_self _
  have oY : ow0 h1.n = 0 := w0.ns.zero (Nat.le_refl _)
  have w1 := w0.on kY
  simp only [bW, Nat.reduceEqDiff, bt_4, kt_69, zc_75, zt_75, lgS_s0]
  generalize h1.push (.cells (lgS (room : Nat) n (fun _ => t0) newLS) 75 none) = h2 at kY gY lY w1 ⊢
  have yb : h.n ≤ h1.n := w0.keep.n
  generalize h1.n = Y at gY lY oY yb ⊢
  refine SWp.loopG (α := Nat × (Nat → NR) × V × V × V × (Nat → Nat) × LS × (Nat → Int)) (fun x f h' => f 2 = .imm ds.length (ds.flatMap dgE) ∧ f 7 = .bool true ∧ f 8 = .ptr L 0 ∧ f 10 = .ptr Y 0 ∧ f 12 = .int .i64 (x.1 : Nat) ∧ x.1 ≤ 40 ∧
    LogS h h' L (room : Nat) n x.2.1 x.2.2.1 x.2.2.2.1 x.2.2.2.2.1 x.2.2.2.2.2.1 x.2.2.2.2.2.2.1 ∧ h'.get Y = .cells (lgS (room : Nat) n x.2.2.2.2.2.2.2 x.2.2.2.2.2.2.1) 75 none ∧ x.2.2.2.2.2.1 Y = 0 ∧ Y < h'.n ∧ 0 ≤ x.2.2.2.2.2.2.1.ep ∧ x.2.2.2.2.2.2.1.ep ≤ x.1) (fun x => 40 - x.1) (0, rs0, dv0, nv0, .snil, ow0, newLS, fun _ => t0)
    ⟨rfl, rfl, rfl, rfl, rfl, Nat.zero_le _, w1, gY, oY, lY, Int.le_refl _, Int.le_refl _⟩ ?_
  rintro ⟨i, rs, dv, nv, pv, ow, s, ts⟩ f h' ⟨f2, f7, f8, f10, f12, hi, d, gy, oy, ly, e0, e1⟩
  simp only at f12 hi d gy oy e0 e1
  refine wpI_sound (by kernel_rfl) ?_
  by_cases hlt : i < ds.length ∧ i < 40
  · obtain ⟨hlt, hlt2⟩ := hlt
    have c1 : decide ((i : Int) < ((ds.length : Nat) : Int)) = true := decide_eq_true (by omega)
    have c2 : decide ((i : Int) < 40) = true := decide_eq_true (by omega)
    have hw : IntKind.i64.wrap ((i : Int) + 1) = ((i + 1 : Nat) : Int) := by rw [Go.IntWalk.i64_in _ (by omega)]; rfl
    have x1 := dg_ix hlt
    obtain ⟨⟨hbd, hbl⟩, hrl⟩ := hb _ (List.getElem_mem hlt)
    have D1 := dg_d1
    have D2 := dg_d2
    have D3 := dg_d3
    have D4 := dg_d4
    have D5 := dg_d5
    have Y2 := lgS_d2
    have Y3 := lgS_d3
    generalize ds[i] = z at x1 hbd hbl hrl
    have kP : Keep h' (h'.push (.cells (dgE z) 80 none)) none_ := Keep.push _ _ _
    have dP := d.on kP
    have gz : (h'.push (.cells (dgE z) 80 none)).get h'.n = .cells (dgE z) 80 none := get_push_new
    have gyP := (kP.get Y ly (fun hh => hh)).trans gy
    have oz : ow h'.n = 0 := d.ns.zero (Nat.le_refl _)
    have lz : h'.n < (h'.push (.cells (dgE z) 80 none)).n := Nat.lt_succ_self _
    have lyP : Y < (h'.push (.cells (dgE z) 80 none)).n := Nat.lt_trans ly lz
    simp only [bW, Nat.reduceEqDiff, ft_80_0, kt_68, lt_3, lt_80, zc_80, zt_80, f2, f12, c1, c2, x1, dg_ld, dg_store, gz, dg_l0]
    generalize h'.push (.cells (dgE z) 80 none) = hP at kP dP gz lz gyP lyP ⊢
    generalize h'.n = zb at gz oz lz ⊢
    have okl := dP.okl
    by_cases k0 : z.kind = 0
    · have b0 : (z.kind == 0) = true := by simp [k0]
      simp only [bW, Nat.reduceEqDiff, ft_80_4, ft_80_5, lt_29, lt_78, f8, b0, gz, D4, D5]
      refine callI_of cal28 (logAppend dP (by omega) z.b hbd z.r (RVal.imm _ _ _) hrl) fun x h1 ⟨ex, rs1, pv1, ow1, d1, fr⟩ => ?_
      subst ex
      obtain ⟨gz1, oz1, lz1⟩ := fr.getZ lz oz
      obtain ⟨gy1, oy1, ly1⟩ := fr.getZ lyP oy
      rw [gz] at gz1
      rw [gyP] at gy1
      have hA := pAppendS (room : Nat) n ts s (by omega) okl z.b hbd (by omega) z.r h1
      have hep := appL_ep (room : Nat) n (rch z.r) z.b s
      generalize appL (room : Nat) n (rch z.r) z.b s = W at d1 hA hep ⊢
      obtain ⟨s1, at_, er⟩ := W
      simp only at d1 hA hep
      simp only [bW, Nat.reduceEqDiff, ft_80_4, ft_80_5, lt_29, lt_75, lt_78, f10, gz1, gy1, lgS_l4b, D4, D5]
      refine callI_pure cal29 hA ?_
      have kN : Keep h1 (h1.push (.cells (lgS (room : Nat) n ts s1) 75 none)) none_ := Keep.push _ _ _
      have gN : (h1.push (.cells (lgS (room : Nat) n ts s1) 75 none)).get h1.n = .cells (lgS (room : Nat) n ts s1) 75 none := get_push_new
      have gyN := (kN.get Y ly1 (fun hh => hh)).trans gy1
      have lyN : Y < (h1.push (.cells (lgS (room : Nat) n ts s1) 75 none)).n := Nat.lt_trans ly1 (Nat.lt_succ_self _)
      have dN := d1.on kN
      simp only [bW, Nat.reduceEqDiff, lt_75, zc_75, zt_75, f10, lgS_l4b, lgS_s0]
      generalize h1.push (.cells (lgS (room : Nat) n ts s1) 75 none) = h5 at kN gN gyN lyN dN ⊢
      simp only [bW, Nat.reduceEqDiff, gyN, lgS_s4]
      have nYL : Y ≠ L := fun e => by have := dN.owL; rw [← e, oy1] at this; cases this
      have dQ : LogS h (h5.set Y (.cells (lgS (room : Nat) n ts s1) 75 none)) L (room : Nat) n _ dv nv _ ow1 s1 := dN.setY oy1 yb _
      have gQ : (h5.set Y (.cells (lgS (room : Nat) n ts s1) 75 none)).get Y = .cells (lgS (room : Nat) n ts s1) 75 none := get_set_same
      have lQ : Y < (h5.set Y (.cells (lgS (room : Nat) n ts s1) 75 none)).n := lyN
      generalize h5.set Y (.cells (lgS (room : Nat) n ts s1) 75 none) = hQ at dQ gQ lQ ⊢
      have hrk := dQ.rok
      have hrr := dQ.rl
      refine SWp.drawnS none_ [] (.q 0 (.q 1 (.q 2 (.q 3 (.q 4 (.c 5 (.q 6 (.q 7 (.c 8 (.q 9 (.q 10 (.q 11 (.q 12 (.c 13 (.q 14 (.q 15 (.q 16 (.q 17 .done)))))))))))))))))) (by kernel_rfl) (by kernel_rfl) (by kernel_rfl) ?_
      simp only [bW, bS, Nat.reduceEqDiff, f8]
      refine siI_c rfl rfl rfl (fun h' hk => pRow10P (dQ.kk hk)) ?_
      simp only [bW, bS, Nat.reduceEqDiff, ft_75_3, lt_73, f10, gQ, Y3]
      refine siI_c rfl rfl rfl (fun h' hk => pListsT _ (by omega) (fun x hx => (hrk x hx).2) h') ?_
      simp only [bW, bS, Nat.reduceEqDiff, f8]
      refine siI_c rfl rfl rfl (fun h' hk => logEpoch (dQ.kk hk)) ?_
      simp only [bW, bS, Nat.reduceEqDiff, ft_75_2, lt_3, f10, f12, gQ, Y2, hw]
      exact hid_mk ⟨(i + 1, rs1, dv, nv, pv1, ow1, s1, ts), ⟨f2, f7, f8, f10, rfl, by simp only; omega, dQ, gQ, oy1, lQ, by simp only; omega, by simp only; omega⟩, by simp only; omega⟩
    have b0 : (z.kind == 0) = false := by simp [k0]
    by_cases k1 : z.kind = 1
    · have b1 : (z.kind == 1) = true := by simp [k1]
      simp only [bW, Nat.reduceEqDiff, ft_80_5, lt_78, f8, b0, b1, gz, D5]
      refine callI_of cal30 (logOpen dP ⟨e0, by omega⟩ (by omega) z.r (RVal.imm _ _ _) hrl) fun x h1 ⟨s1, er, rs1, pv1, ow1, hO, ex, d1, hep, fr⟩ => ?_
      subst ex
      obtain ⟨gz1, oz1, lz1⟩ := fr.getZ lz oz
      obtain ⟨gy1, oy1, ly1⟩ := fr.getZ lyP oy
      rw [gz] at gz1
      rw [gyP] at gy1
      obtain ⟨u1, u2⟩ := OpenR.one hO (openF_is (rch z.r) okl)
      have hA := pStart10 (room : Nat) n ts s (by omega) okl ⟨e0, by omega⟩ z.r h1
      rw [← u1, ← u2] at hA
      simp only [bW, Nat.reduceEqDiff, ft_80_5, lt_75, lt_78, f10, gz1, gy1, lgS_l4b, D5]
      refine callI_pure cal31 hA ?_
      simp only [bW, Nat.reduceEqDiff, zt_75, f10, gy1, lgS_s4]
      have nYL : Y ≠ L := fun e => by have := d1.owL; rw [← e, oy1] at this; cases this
      have dQ : LogS h (h1.set Y (.cells (lgS (room : Nat) n ts s1) 75 none)) L (room : Nat) n _ dv nv _ ow1 s1 := d1.setY oy1 yb _
      have gQ : (h1.set Y (.cells (lgS (room : Nat) n ts s1) 75 none)).get Y = .cells (lgS (room : Nat) n ts s1) 75 none := get_set_same
      have lQ : Y < (h1.set Y (.cells (lgS (room : Nat) n ts s1) 75 none)).n := ly1
      generalize h1.set Y (.cells (lgS (room : Nat) n ts s1) 75 none) = hQ at dQ gQ lQ ⊢
      have hrk := dQ.rok
      have hrr := dQ.rl
      refine SWp.drawnS none_ [] (.q 0 (.q 1 (.q 2 (.q 3 (.q 4 (.c 5 (.q 6 (.q 7 (.c 8 (.q 9 (.q 10 (.q 11 (.q 12 (.c 13 (.q 14 (.q 15 (.q 16 (.q 17 .done)))))))))))))))))) (by kernel_rfl) (by kernel_rfl) (by kernel_rfl) ?_
      simp only [bW, bS, Nat.reduceEqDiff, f8]
      refine siI_c rfl rfl rfl (fun h' hk => pRow10P (dQ.kk hk)) ?_
      simp only [bW, bS, Nat.reduceEqDiff, ft_75_3, lt_73, f10, gQ, Y3]
      refine siI_c rfl rfl rfl (fun h' hk => pListsT _ (by omega) (fun x hx => (hrk x hx).2) h') ?_
      simp only [bW, bS, Nat.reduceEqDiff, f8]
      refine siI_c rfl rfl rfl (fun h' hk => logEpoch (dQ.kk hk)) ?_
      simp only [bW, bS, Nat.reduceEqDiff, ft_75_2, lt_3, f10, f12, gQ, Y2, hw]
      exact hid_mk ⟨(i + 1, rs1, dv, nv, pv1, ow1, s1, ts), ⟨f2, f7, f8, f10, rfl, by simp only; omega, dQ, gQ, oy1, lQ, by simp only; omega, by simp only; omega⟩, by simp only; omega⟩
    have b1 : (z.kind == 1) = false := by simp [k1]
    by_cases k2 : z.kind = 2
    · have b2 : (z.kind == 2) = true := by simp [k2]
      simp only [bW, Nat.reduceEqDiff, ft_80_1, ft_80_2, ft_80_3, lt_3, f8, b0, b1, b2, gz, D1, D2, D3]
      refine callI_of cal32 (logCrashX dP (by omega) z.node z.keep z.turn) fun x h1 ⟨ex, rs1, ow1, d1, fr⟩ => ?_
      subst ex
      obtain ⟨gz1, oz1, lz1⟩ := fr.getZ lz oz
      obtain ⟨gy1, oy1, ly1⟩ := fr.getZ lyP oy
      rw [gz] at gz1
      rw [gyP] at gy1
      obtain ⟨ts1, hC⟩ := pCrashS (room : Nat) n ts s (by omega) okl z.node z.keep z.turn
      generalize (if 0 ≤ z.node ∧ z.node < (n : Int) then (0 : Int) else 1) = er at hC ⊢
      simp only [bW, Nat.reduceEqDiff, ft_80_1, ft_80_2, ft_80_3, lt_3, lt_75, f10, gz1, gy1, lgS_l4b, D1, D2, D3]
      refine callI_pure cal33 (hC h1) ?_
      simp only [bW, Nat.reduceEqDiff, zt_75, f10, gy1, lgS_s4]
      have nYL : Y ≠ L := fun e => by have := d1.owL; rw [← e, oy1] at this; cases this
      have dQ : LogS h (h1.set Y (.cells (lgS (room : Nat) n ts1 s) 75 none)) L (room : Nat) n _ dv nv _ ow1 s := d1.setY oy1 yb _
      have gQ : (h1.set Y (.cells (lgS (room : Nat) n ts1 s) 75 none)).get Y = .cells (lgS (room : Nat) n ts1 s) 75 none := get_set_same
      have lQ : Y < (h1.set Y (.cells (lgS (room : Nat) n ts1 s) 75 none)).n := ly1
      generalize h1.set Y (.cells (lgS (room : Nat) n ts1 s) 75 none) = hQ at dQ gQ lQ ⊢
      have hrk := dQ.rok
      have hrr := dQ.rl
      refine SWp.drawnS none_ [] (.q 0 (.q 1 (.q 2 (.q 3 (.q 4 (.c 5 (.q 6 (.q 7 (.c 8 (.q 9 (.q 10 (.q 11 (.q 12 (.c 13 (.q 14 (.q 15 (.q 16 (.q 17 .done)))))))))))))))))) (by kernel_rfl) (by kernel_rfl) (by kernel_rfl) ?_
      simp only [bW, bS, Nat.reduceEqDiff, f8]
      refine siI_c rfl rfl rfl (fun h' hk => pRow10P (dQ.kk hk)) ?_
      simp only [bW, bS, Nat.reduceEqDiff, ft_75_3, lt_73, f10, gQ, Y3]
      refine siI_c rfl rfl rfl (fun h' hk => pListsT _ (by omega) (fun x hx => (hrk x hx).2) h') ?_
      simp only [bW, bS, Nat.reduceEqDiff, f8]
      refine siI_c rfl rfl rfl (fun h' hk => logEpoch (dQ.kk hk)) ?_
      simp only [bW, bS, Nat.reduceEqDiff, ft_75_2, lt_3, f10, f12, gQ, Y2, hw]
      exact hid_mk ⟨(i + 1, rs1, dv, nv, pv, ow1, s, ts1), ⟨f2, f7, f8, f10, rfl, by simp only; omega, dQ, gQ, oy1, lQ, e0, by simp only; omega⟩, by simp only; omega⟩
    have b2 : (z.kind == 2) = false := by simp [k2]
    by_cases hq : 0 ≤ z.node ∧ z.node < n
    · obtain ⟨k, hk⟩ : ∃ k : Nat, z.node = k := ⟨z.node.toNat, by omega⟩
      have hkn : k < n := by omega
      simp only [bW, Nat.reduceEqDiff, ft_80_1, lt_3, f8, b0, b1, b2, gz, D1, hk]
      refine callI_of cal34 (logLose dP (by omega) hkn) fun x h1 ⟨ex, rs1, ow1, d1, fr⟩ => ?_
      subst ex
      obtain ⟨gz1, oz1, lz1⟩ := fr.getZ lz oz
      obtain ⟨gy1, oy1, ly1⟩ := fr.getZ lyP oy
      rw [gz] at gz1
      rw [gyP] at gy1
      obtain ⟨ts1, hC⟩ := pLoseS (room : Nat) n ts s (by omega) okl (by omega) k hkn
      have hep : ({ s with nd := updN s.nd k [] } : LS).ep = s.ep := rfl
      generalize ({ s with nd := updN s.nd k [] } : LS) = s1 at d1 hC hep ⊢
      simp only [bW, Nat.reduceEqDiff, ft_80_1, lt_3, lt_75, f10, gz1, gy1, lgS_l4b, D1, hk]
      refine callI_pure cal35 (hC h1) ?_
      simp only [bW, Nat.reduceEqDiff, zt_75, f10, gy1, lgS_s4]
      have nYL : Y ≠ L := fun e => by have := d1.owL; rw [← e, oy1] at this; cases this
      have dQ : LogS h (h1.set Y (.cells (lgS (room : Nat) n ts1 s1) 75 none)) L (room : Nat) n _ dv nv _ ow1 s1 := d1.setY oy1 yb _
      have gQ : (h1.set Y (.cells (lgS (room : Nat) n ts1 s1) 75 none)).get Y = .cells (lgS (room : Nat) n ts1 s1) 75 none := get_set_same
      have lQ : Y < (h1.set Y (.cells (lgS (room : Nat) n ts1 s1) 75 none)).n := ly1
      generalize h1.set Y (.cells (lgS (room : Nat) n ts1 s1) 75 none) = hQ at dQ gQ lQ ⊢
      have hrk := dQ.rok
      have hrr := dQ.rl
      refine SWp.drawnS none_ [] (.q 0 (.q 1 (.q 2 (.q 3 (.q 4 (.c 5 (.q 6 (.q 7 (.c 8 (.q 9 (.q 10 (.q 11 (.q 12 (.c 13 (.q 14 (.q 15 (.q 16 (.q 17 .done)))))))))))))))))) (by kernel_rfl) (by kernel_rfl) (by kernel_rfl) ?_
      simp only [bW, bS, Nat.reduceEqDiff, f8]
      refine siI_c rfl rfl rfl (fun h' hk => pRow10P (dQ.kk hk)) ?_
      simp only [bW, bS, Nat.reduceEqDiff, ft_75_3, lt_73, f10, gQ, Y3]
      refine siI_c rfl rfl rfl (fun h' hk => pListsT _ (by omega) (fun x hx => (hrk x hx).2) h') ?_
      simp only [bW, bS, Nat.reduceEqDiff, f8]
      refine siI_c rfl rfl rfl (fun h' hk => logEpoch (dQ.kk hk)) ?_
      simp only [bW, bS, Nat.reduceEqDiff, ft_75_2, lt_3, f10, f12, gQ, Y2, hw]
      exact hid_mk ⟨(i + 1, rs1, dv, nv, pv, ow1, s1, ts1), ⟨f2, f7, f8, f10, rfl, by simp only; omega, dQ, gQ, oy1, lQ, by simp only; omega, by simp only; omega⟩, by simp only; omega⟩
    · simp only [bW, Nat.reduceEqDiff, ft_80_1, lt_3, f8, b0, b1, b2, gz, D1]
      refine callI_of cal34 (logLoseX dP z.node (by omega)) fun x h1 ⟨ex, eh⟩ => ?_
      subst ex; subst eh
      have hC := pLose10No (room : Nat) n s.nd ts s.op s.ep s.row (by omega) z.node (by omega) h1
      have hC1 : Pure Tryz.prog 35 [.agg (lgS (room : Nat) n ts s), .int .i64 z.node] h1 (.tuple [.agg (lgS (room : Nat) n ts s), .int .i64 1]) := hC
      simp only [bW, Nat.reduceEqDiff, ft_80_1, lt_3, lt_75, f10, gz, gyP, lgS_l4b, D1]
      refine callI_pure cal35 hC1 ?_
      simp only [bW, Nat.reduceEqDiff, zt_75, f10, gyP, lgS_s4]
      have nYL : Y ≠ L := fun e => by have := dP.owL; rw [← e, oy] at this; cases this
      have dQ : LogS h (h1.set Y (.cells (lgS (room : Nat) n ts s) 75 none)) L (room : Nat) n _ dv nv _ ow s := dP.setY oy yb _
      have gQ : (h1.set Y (.cells (lgS (room : Nat) n ts s) 75 none)).get Y = .cells (lgS (room : Nat) n ts s) 75 none := get_set_same
      have lQ : Y < (h1.set Y (.cells (lgS (room : Nat) n ts s) 75 none)).n := lyP
      generalize h1.set Y (.cells (lgS (room : Nat) n ts s) 75 none) = hQ at dQ gQ lQ ⊢
      have hrk := dQ.rok
      have hrr := dQ.rl
      refine SWp.drawnS none_ [] (.q 0 (.q 1 (.q 2 (.q 3 (.q 4 (.c 5 (.q 6 (.q 7 (.c 8 (.q 9 (.q 10 (.q 11 (.q 12 (.c 13 (.q 14 (.q 15 (.q 16 (.q 17 .done)))))))))))))))))) (by kernel_rfl) (by kernel_rfl) (by kernel_rfl) ?_
      simp only [bW, bS, Nat.reduceEqDiff, f8]
      refine siI_c rfl rfl rfl (fun h' hk => pRow10P (dQ.kk hk)) ?_
      simp only [bW, bS, Nat.reduceEqDiff, ft_75_3, lt_73, f10, gQ, Y3]
      refine siI_c rfl rfl rfl (fun h' hk => pListsT _ (by omega) (fun x hx => (hrk x hx).2) h') ?_
      simp only [bW, bS, Nat.reduceEqDiff, f8]
      refine siI_c rfl rfl rfl (fun h' hk => logEpoch (dQ.kk hk)) ?_
      simp only [bW, bS, Nat.reduceEqDiff, ft_75_2, lt_3, f10, f12, gQ, Y2, hw]
      exact hid_mk ⟨(i + 1, rs, dv, nv, pv, ow, s, ts), ⟨f2, f7, f8, f10, rfl, by simp only; omega, dQ, gQ, oy, lQ, e0, by simp only; omega⟩, by simp only; omega⟩
  · have cE : decide ((i : Int) < ((ds.length : Nat) : Int)) = false ∨ decide ((i : Int) < ((ds.length : Nat) : Int)) = true ∧ decide ((i : Int) < 40) = false := by
      by_cases z : i < ds.length
      · exact .inr ⟨decide_eq_true (by omega), decide_eq_false (by omega)⟩
      · exact .inl (decide_eq_false (by omega))
    rcases cE with c1 | ⟨c1, c2⟩
    · simp only [bW, Nat.reduceEqDiff, kt_68, f2, f7, f12, c1, retA_ret, Tryz.results4, resultsA_1]
      exact hid_mk rfl
    · simp only [bW, Nat.reduceEqDiff, kt_68, f2, f7, f12, c1, c2, retA_ret, Tryz.results4, resultsA_1]
      exact hid_mk rfl
end Go.Proofs.YtilgpaibolollaaGreat.Pk
namespace Go.Proofs.YtilgpaibolollaaGreat.Pk
open Go Go.Proofs Go.Proofs.YtilgpaibolollaaGreat.Ab
set_option linter.unusedVariables false
set_option linter.unusedSimpArgs false
theorem bytes_nat : ∀ {es : List (List V)}, (∀ x ∈ es, Sh.fitsB (.int .u8) x) → ∃ bs : List Nat, es = (bs.map fun n : Nat => [V.int .u8 (n : Int)]) ∧ ∀ b ∈ bs, b < 256
  | [], _ => ⟨[], rfl, by simp⟩
  | e :: es, h => by
    obtain ⟨l, rfl, hl⟩ := bytes_nat (es := es) fun x hx => h x (by simp [hx])
    obtain ⟨n, rfl, hw⟩ := h e (by simp)
    simp only [Lit.wf, Bool.and_eq_true, decide_eq_true_eq] at hw
    have h1 : IntKind.u8.min = 0 := rfl
    have h2 : IntKind.u8.max = 255 := rfl
    refine ⟨n.toNat :: l, ?_, fun b hb => ?_⟩
    · rw [List.map_cons, Int.toNat_of_nonneg (by omega)]
    · rcases List.mem_cons.1 hb with rfl | hb
      · omega
      · exact hl b hb
theorem flat_nat (bs : List Nat) : (bs.map fun n : Nat => [V.int .u8 (n : Int)]).flatten = bytesV bs := by
  induction bs with
  | nil => rfl
  | cons n ns ih => simp [ih, bytesV]
theorem bs_of {e : List V} (h : Sh.fitsB (.sl (.int .u8)) e) : ∃ b : List Nat, e = [.imm b.length (bytesV b)] ∧ (∀ x ∈ b, x < 256) ∧ b.length ≤ 2 ^ 47 := by
  obtain ⟨es, rfl, hl, he⟩ := h
  obtain ⟨b, rfl, hb⟩ := bytes_nat he
  rw [List.length_map] at hl
  exact ⟨b, by rw [List.length_map, flat_nat], hb, by omega⟩
theorem bools_of : ∀ {es : List (List V)}, (∀ x ∈ es, Sh.fitsB .bool x) → ∃ l : List Bool, es.length = l.length ∧ es.flatten = boV l
  | [], _ => ⟨[], rfl, rfl⟩
  | e :: es, h => by
    obtain ⟨l, h1, h2⟩ := bools_of (es := es) fun x hx => h x (by simp [hx])
    obtain ⟨c, rfl⟩ := h e (by simp)
    exact ⟨c :: l, by simp [h1], by simp [h2, boV, boE]⟩
theorem dg_of {e : List V} (h : Sh.fitsB (.cat (.int .i64) (.cat (.int .i64) (.cat (.int .i64) (.cat (.int .i64) (.cat (.sl (.int .u8)) (.cat (.sl .bool) .unit)))))) e) : ∃ d : DeedG, e = dgE d ∧ ((∀ x ∈ d.b, x < 256) ∧ d.b.length ≤ 2 ^ 47) ∧ d.r.length ≤ 2 ^ 47 := by
  obtain ⟨_, _, rfl, ⟨a, rfl, _⟩, _, _, rfl, ⟨b, rfl, _⟩, _, _, rfl, ⟨c, rfl, _⟩, _, _, rfl, ⟨d, rfl, _⟩, _, _, rfl, hB, _, _, rfl, hR, rfl⟩ := h
  obtain ⟨bs, rfl, hb, hbl⟩ := bs_of hB
  obtain ⟨es, rfl, hl, he⟩ := hR
  obtain ⟨r, h1, h2⟩ := bools_of he
  refine ⟨⟨a, b, c, d, bs, r⟩, ?_, ⟨hb, hbl⟩, by simp only; omega⟩
  rw [h1, h2]; rfl
theorem dgs_of : ∀ {es : List (List V)}, (∀ x ∈ es, Sh.fitsB (.cat (.int .i64) (.cat (.int .i64) (.cat (.int .i64) (.cat (.int .i64) (.cat (.sl (.int .u8)) (.cat (.sl .bool) .unit)))))) x) → ∃ l : List DeedG, es.length = l.length ∧ es.flatten = l.flatMap dgE ∧ ∀ d ∈ l, ((∀ x ∈ d.b, x < 256) ∧ d.b.length ≤ 2 ^ 47) ∧ d.r.length ≤ 2 ^ 47
  | [], _ => ⟨[], rfl, rfl, by simp⟩
  | e :: es, h => by
    obtain ⟨l, h1, h2, h3⟩ := dgs_of (es := es) fun x hx => h x (by simp [hx])
    obtain ⟨c, rfl, hc⟩ := dg_of (h e (by simp))
    exact ⟨c :: l, by simp [h1], by simp [h2], fun d hd => by
      rcases List.mem_cons.1 hd with rfl | hd
      · exact hc
      · exact h3 d hd⟩
end Go.Proofs.YtilgpaibolollaaGreat.Pk
