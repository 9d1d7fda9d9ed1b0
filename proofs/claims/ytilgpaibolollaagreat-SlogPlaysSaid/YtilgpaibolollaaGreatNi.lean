/-
  What functions of the program do, told of abstract states. Conditions: as each theorem says.
-/
import Derived.Test.YtilgpaibolollaaGreatNh
import Derived.Test.YtilgpaibolollaaGreatAcD
import Derived.Test.YtilgpaibolollaaGreatNg
namespace Go.Proofs.YtilgpaibolollaaGreat.Pk
open Go Go.Proofs Go.Proofs.YtilgpaibolollaaGreat.Ab
set_option maxRecDepth 10000
set_option linter.unusedVariables false
set_option linter.unusedSimpArgs false
/-! ### A node started again -/
theorem ptrs_set {f g : Nat → Nat} {n k : Nat} (hk : k < n) (h : ∀ q, q < n → q ≠ k → g q = f q) : (ptrs f n).set k (V.ptr (g k) 0) = ptrs g n := by
  refine List.ext_getElem (by simp [ptrs]) fun i h1 h2 => ?_
  rw [List.getElem_set]
  split
  · rename_i e; subst e; simp [ptrs]
  · rename_i e
    simp only [ptrs, List.getElem_map, List.getElem_range]
    rw [h i (by rw [ptrs_len] at h2; exact h2) fun hh => e hh.symm]
set_option maxHeartbeats 1000000 in
set_option maxRecDepth 20000 in
theorem logRestart {h0 h : AHeap} {L : Nat} {room : Int} {n : Nat} {rs : Nat → NR} {dv nv pv : V} {ow : Nat → Nat} {s : LS} (w : LogS h0 h L room n rs dv nv pv ow s) (hn : n ≤ 2 ^ 10) {q : Nat} (hq : q < n) {l' : Pays} (ok : NOk (redoL l')) (pl : ∀ p ∈ l', p.length ≤ 4096 ∧ ∀ x ∈ p, x < 256)
    {fid : FuncId} {caps : List V} (hc : callable Tryz.prog fid = true) (H : SCalls Tryz.prog fid (.ptr (rs q).i 0 :: caps) h (fun x h' => ∃ v' safe, IsDisk h' (.ptr (rs q).i 0) room (nI (l'.flatMap frame)) safe (rs q).i v' ∧ idOf v' = idOf (rs q).v ∧ Keep h h' (NP (rs q)))) :
    SCalls Tryz.prog 74 [.ptr L 0, .int .i64 (q : Int), .func (.func fid) [] caps] h (fun x h' => x = .int .i64 0 ∧ ∃ rs' ow', LogS h0 h' L room n rs' dv nv pv ow' { s with nd := updN s.nd q l' } ∧ LFr h h' ow ow') := by
  have gL := w.get
  have d1 : ∀ (a b c d e : V), dropC (AObj.cells [a, b, c, d, e] 129 none) 1 = some [b, c, d, e] := fun _ _ _ _ _ => rfl
  have d0 : ∀ (a b c d e : V), dropC (AObj.cells [a, b, c, d, e] 129 none) 0 = some [a, b, c, d, e] := fun _ _ _ _ _ => rfl
  have lN := w.nk.length (by decide) Tryz.prog (t := 127) kt_127
  rw [Nat.div_one, ptrs_len] at lN
  have c1 : decide ((q : Int) < 0) = false := decide_eq_false (by omega)
  have c2 : decide (((n : Nat) : Int) ≤ (q : Int)) = false := decide_eq_false (by omega)
  obtain ⟨j, r1, x1, x2, x3⟩ := own_ptr (t := 126) ss_126 w.dk hq
  refine SCalls.enterI (c := _) Tryz.func74 rfl (by kernel_rfl) (by simp) ?_
  simp only [bW, Nat.reduceEqDiff, reduceCtorEq, ft_129_0, ft_129_1, kt_69, lt_126, lt_127, lt_25, gL, d1, d0, lN, c1, c2, x1, x3]
  refine callI_of hc H fun x h1 ⟨v1, safe, dk1, iv1, k1⟩ => ?_
  have tagq : ∀ x, NP (rs q) x → ow x = q + 5 := w.ns.ond q hq
  have kk : Keep h h1 (fun x => 5 ≤ ow x) := k1.mono fun x hx => by have := tagq x hx; omega
  have g1 : h1.get L = .cells [dv, nv, .bool s.op, .int .i64 s.ep, pv] 129 none := (kk.get L w.lt (by rw [w.owL]; decide)).trans w.get
  have dk' : Own h1 25 1 dv (ptrs (fun q => (rs q).i) n) := w.dk.keep kk fun x hx => by rw [w.owd x hx]; decide
  have nk' : Own h1 34 1 nv (ptrs (fun q => (rs q).a) n) := w.nk.keep kk fun x hx => by rw [w.own_ x hx]; decide
  have pk' : Own h1 29 1 pv (rowV s.row) := w.pk.keep kk fun x hx => by rw [w.owp x hx]; decide
  obtain ⟨j', r1', x1', x2', x3'⟩ := own_ptr (t := 126) ss_126 dk' hq
  have tj : ow j' = 2 := w.owd j' x2'
  have nL : ¬ NP (rs q) L := fun hh => by have := tagq L hh; rw [w.owL] at this; omega
  have nj : ¬ NP (rs q) j' := fun hh => by have := tagq j' hh; omega
  simp only [bW]
  refine SWp.drawnS (fun x => NP (rs q) x) [12, 14] (.q 0 (.q 1 (.q 2 (.q 3 (.q 4 (.q 5 (.q 6 (.q 7 (.q 8 (.q 9 (.q 10 (.q 11 (.e 12 (.q 13 (.a 14 .done)) .stop))))))))))))) (by kernel_rfl) (by kernel_rfl) (by kernel_rfl) ?_
  simp only [bW, bS, bM, Nat.reduceEqDiff, reduceCtorEq, ft_129_0, ft_129_1, lt_126, lt_127, lt_25, g1, d1, d0, x1', x3', nL, nj]
  refine callI_of cal8 (nbOpen dk1 ok pl) fun x h2 ⟨r', ex, d', ei, k2, hx⟩ => ?_
  subst ex
  have hpn : ∀ x, Parts (rs q).i v1 x → NP (rs q) x := fun x hh => by
    rcases hh with hh | hh
    · exact Parts.np (.inl hh)
    · exact Parts.np (.inr (by rw [← iv1]; exact hh))
  have k2n : Keep h1 h2 (NP (rs q)) := k2.mono hpn
  have kA : Keep h h2 (NP (rs q)) := k1.trans' k2n
  have kk2 : Keep h h2 (fun x => 5 ≤ ow x) := kA.mono fun x hx => by have := tagq x hx; omega
  have nk2 : Own h2 34 1 nv (ptrs (fun q => (rs q).a) n) := w.nk.keep kk2 fun x hx => by rw [w.own_ x hx]; decide
  have hk' : q < (ptrs (fun q => (rs q).a) n).length := by rw [ptrs_len]; exact hq
  obtain ⟨j3, y1, y2, _, y4⟩ := own_elem (P := Tryz.prog) (t := 127) (kk := .i64) ss_127 nk2 (k := q) hk'
  obtain ⟨ob, z1, z2, z3⟩ := y4 (V.ptr r'.a 0) rfl
  have kn1 := k1.n
  have w2 := w.ns.step hq d' kA fun x hh => by
    rcases hx x hh with h3 | h3
    · exact .inl (hpn x h3)
    · exact .inr (by omega)
  have w3 := w2.1.on (own := (· = j3)) (h' := h2.set j3 ob) (Keep.set _ _ _) (fun x hx => by
    rw [show x = j3 from hx, owN_lt (w.ns.old j3 (by rw [w.own_ j3 y2]; decide)), w.own_ j3 y2]; decide)
  have kS : Keep h2 (h2.set j3 ob) (· = j3) := Keep.set _ _ _
  have t3 := w.own_ j3 y2
  have hlow : ∀ x, ow x ≠ 0 → owN ow h.n (NP r') (q + 5) x = ow x := fun x hx => owN_lt (w.ns.old x hx)
  have hfin : LogS h0 (h2.set j3 ob) L room n (updN rs q r') dv nv pv (owN ow h.n (NP r') (q + 5)) { s with nd := updN s.nd q l' } := by
    have kn0 := w.keep.n
    refine ⟨(w.keep.trans kA fun x hx hh => by have := tagq x hh; have := w.new x (by omega); omega).trans kS fun x hx hh => by have := w.new j3 (by omega); omega, fun x hx => ?_, (hlow L (by rw [w.owL]; decide)).trans w.owL, ?_, ?_, ?_, ?_, fun x hx => ?_, fun x hx => ?_, fun x hx => ?_, w3, w.rok, w.rl⟩
    · by_cases hl : x < h.n
      · rw [owN_lt hl] at hx; exact w.new x hx
      · omega
    · exact (kS.get L (Nat.lt_of_lt_of_le w.lt kA.n) (fun e => by rw [← e, w.owL] at t3; cases t3)).trans ((kk2.get L w.lt (by rw [w.owL]; decide)).trans w.get)
    · rw [ptrs_congr (g := fun q => (rs q).i) fun p hp => by
        by_cases e : p = q
        · subst e; rw [updN_same]; exact ei
        · rw [updN_ne e]]
      exact (w.dk.keep kk2 fun x hx => by rw [w.owd x hx]; decide).keep kS fun x hx hh => by have := w.owd x hx; rw [show x = j3 from hh] at this; omega
    · have e := ptrs_set (f := fun q => (rs q).a) (g := fun p => (updN rs q r' p).a) hq (fun p hp hne => by simp only [updN_ne hne])
      simp only [updN_same] at e
      rw [← e]
      exact z2
    · exact (w.pk.keep kk2 fun x hx => by rw [w.owp x hx]; decide).keep kS fun x hx hh => by have := w.owp x hx; rw [show x = j3 from hh] at this; omega
    · have := w.owd x hx; rw [hlow x (by omega)]; exact this
    · have := w.own_ x hx; rw [hlow x (by omega)]; exact this
    · have := w.owp x hx; rw [hlow x (by omega)]; exact this
  simp only [bW, bS, bM, Nat.reduceEqDiff, zt_34, y1, z1, retA_ret, Tryz.results74, resultsA_1]
  have fr : LFr h (h2.set j3 ob) ow (owN ow h.n (NP r') (q + 5)) := ⟨(kA.mono fun x hx => by have := tagq x hx; omega).trans kS fun x hx hh => by rw [show x = j3 from hh, t3]; decide, fun x hx h0 => by rw [owN_lt hx]; exact h0⟩
  exact ⟨k2n, hid_mk ⟨rfl, _, _, hfin, fr⟩⟩
set_option maxRecDepth 10000 in
/-- No such node. -/
theorem logRestartNo {h0 h : AHeap} {L : Nat} {room : Int} {n : Nat} {rs : Nat → NR} {dv nv pv : V} {ow : Nat → Nat} {s : LS} (w : LogS h0 h L room n rs dv nv pv ow s) (q : Int) (hq : q < 0 ∨ (n : Int) ≤ q) (fv : V) :
    SCalls Tryz.prog 74 [.ptr L 0, .int .i64 q, fv] h (fun x h' => x = .int .i64 1 ∧ h' = h) := by
  have gL := w.get
  have d1 : ∀ (a b c d e : V), dropC (AObj.cells [a, b, c, d, e] 129 none) 1 = some [b, c, d, e] := fun _ _ _ _ _ => rfl
  have lN := w.nk.length (by decide) Tryz.prog (t := 127) kt_127
  rw [Nat.div_one, ptrs_len] at lN
  refine SCalls.enterI (c := _) Tryz.func74 rfl (by kernel_rfl) (by simp) ?_
  by_cases h1 : q < 0
  · have c1 : decide (q < 0) = true := decide_eq_true h1
    simp only [bW, Nat.reduceEqDiff, reduceCtorEq, kt_69, c1, retA_ret, Tryz.results74, resultsA_1]
    exact hid_mk ⟨rfl, rfl⟩
  · have c1 : decide (q < 0) = false := decide_eq_false h1
    have c2 : decide (((n : Nat) : Int) ≤ q) = true := decide_eq_true (by omega)
    simp only [bW, Nat.reduceEqDiff, reduceCtorEq, ft_129_1, kt_69, lt_127, gL, d1, lN, c1, c2, retA_ret, Tryz.results74, resultsA_1]
    exact hid_mk ⟨rfl, rfl⟩
set_option maxRecDepth 10000 in
theorem cClo {h : AHeap} {room : Int} {r : NR} {l : Pays} (d : NdB h room r l) {c1 c2 : Nat} (keep turn : Int) (g1 : h.get c1 = .cells [.int .i64 keep] 3 none) (g2 : h.get c2 = .cells [.int .i64 turn] 3 none) :
    SCalls Tryz.prog 75 [.ptr r.i 0, .ptr c1 0, .ptr c2 0] h (fun x h' => ∃ v' safe, IsDisk h' (.ptr r.i 0) room (nI (l.flatMap frame)) safe r.i v' ∧ idOf v' = idOf r.v ∧ Keep h h' (NP r)) := by
  refine SCalls.enterI (c := _) Tryz.func75 rfl (by kernel_rfl) (by simp) ?_
  simp only [bW, Nat.reduceEqDiff, lt_3, g1, g2]
  refine callI_of cal18 (nbCrash d keep turn) fun x h1 hp => ?_
  simp only [bW, retA_normal, Tryz.results75, resultsA_0]
  exact hid_mk hp
set_option maxRecDepth 10000 in
theorem lClo {h : AHeap} {room : Int} {r : NR} {l : Pays} (d : NdB h room r l) :
    SCalls Tryz.prog 76 [.ptr r.i 0] h (fun x h' => ∃ v' safe, IsDisk h' (.ptr r.i 0) room (nI (([] : Pays).flatMap frame)) safe r.i v' ∧ idOf v' = idOf r.v ∧ Keep h h' (NP r)) := by
  refine SCalls.enterI (c := _) Tryz.func76 rfl (by kernel_rfl) (by simp) ?_
  simp only [bW]
  refine callI_of cal77 (nbLose d) fun x h1 hp => ?_
  simp only [bW, retA_normal, Tryz.results76, resultsA_0]
  exact hid_mk hp
set_option maxRecDepth 10000 in
theorem logLose {h0 h : AHeap} {L : Nat} {room : Int} {n : Nat} {rs : Nat → NR} {dv nv pv : V} {ow : Nat → Nat} {s : LS} (w : LogS h0 h L room n rs dv nv pv ow s) (hn : n ≤ 2 ^ 10) {q : Nat} (hq : q < n) :
    SCalls Tryz.prog 34 [.ptr L 0, .int .i64 (q : Int)] h (fun x h' => x = .int .i64 0 ∧ ∃ rs' ow', LogS h0 h' L room n rs' dv nv pv ow' { s with nd := updN s.nd q [] } ∧ LFr h h' ow ow') := by
  refine SCalls.enterI (c := _) Tryz.func34 rfl (by kernel_rfl) (by simp) ?_
  simp only [bW, Nat.reduceEqDiff, reduceCtorEq]
  refine callI_of cal74 (logRestart w hn hq (l' := []) NOk.nil (by simp) cal76 (lClo (w.ns.nd q hq))) fun x h1 ⟨ex, rs', ow', w2, fr⟩ => ?_
  subst ex
  simp only [bW, Nat.reduceEqDiff, retA_ret, Tryz.results34, resultsA_1]
  exact hid_mk ⟨rfl, rs', ow', w2, fr⟩
end Go.Proofs.YtilgpaibolollaaGreat.Pk
namespace Go.Proofs.YtilgpaibolollaaGreat.Pk
open Go Go.Proofs Go.Proofs.YtilgpaibolollaaGreat.Ab
set_option maxRecDepth 10000
set_option linter.unusedVariables false
set_option linter.unusedSimpArgs false
/-! ### A new log -/
theorem NodesS.add {h h' : AHeap} {room : Int} {n : Nat} {rs : Nat → NR} {nd : Nds} {ow : Nat → Nat} (w : NodesS h room n rs nd ow) {own : Nat → Prop} (k : Keep h h' own) (hn : ∀ x, own x → ow x < 5) {r' : NR} {l' : Pays} (d : NdB h' room r' l') (hx : ∀ x, NP r' x → h.n ≤ x) :
    NodesS h' room (n + 1) (updN rs n r') (updN nd n l') (owN ow h.n (NP r') (n + 5)) := by
  refine ⟨fun p hp => ?_, fun p hp x hx2 => ?_, owN_old k.n d.lt⟩
  · by_cases e : p = n
    · subst e; rw [updN_same, updN_same]; exact d
    · rw [updN_ne e, updN_ne e]
      exact (w.nd p (by omega)).keep k fun x h1 h2 => by have := w.ond p (by omega) x h1; have := hn x h2; omega
  · by_cases e : p = n
    · subst e
      rw [updN_same] at hx2
      exact owN_new (hx x hx2) hx2
    · rw [updN_ne e] at hx2
      rw [owN_lt ((w.nd p (by omega)).lt x hx2)]; exact w.ond p (by omega) x hx2
theorem ptrs_succ (f : Nat → Nat) (n : Nat) : ptrs f (n + 1) = ptrs f n ++ [V.ptr (f n) 0] := by unfold ptrs; rw [List.range_succ, List.map_append]; rfl
def newLS : LS := ⟨fun _ => [], false, 0, []⟩
theorem LogS.nothing {h : AHeap} {room : Int} (rs : Nat → NR) : LogS h (h.push (.cells [.snil, .snil, .bool false, .int .i64 0, .snil] 129 none)) h.n room 0 rs .snil .snil .snil (fun x => if x = h.n then 1 else 0) newLS := by
  refine ⟨Keep.push _ _ _, fun x hx => ?_, if_pos rfl, get_push_new, Own.snil _ _ _, Own.snil _ _ _, Own.snil _ _ _, fun x hx => (by cases hx), fun x hx => (by cases hx), fun x hx => (by cases hx), ⟨fun q hq => absurd hq (Nat.not_lt_zero _), fun q hq => absurd hq (Nat.not_lt_zero _), fun x hx => ?_⟩, fun b hb => (by cases hb), Nat.zero_le _⟩
  · by_cases e : x = h.n
    · omega
    · simp only [if_neg e] at hx; exact absurd rfl hx
  · by_cases e : x = h.n
    · simp only [push_n]; omega
    · simp only [if_neg e] at hx; exact absurd rfl hx
open Classical in
noncomputable def owNew (ow : Nat → Nat) (n0 : Nat) (D N P : Nat → Prop) (n : Nat) : Nat → Nat := fun x => if D x then 2 else if N x then 3 else if P x then n + 5 else if x < n0 then ow x else 0
/-- The lists of disks and of nodes grow. -/
theorem LogS.more {h0 h h1 h2 h4 h5 : AHeap} {L d : Nat} {room : Int} {n : Nat} {rs : Nat → NR} {dv nv dv' nv' : V} {ow : Nat → Nat} {r' : NR} (w : LogS h0 h L room n rs dv nv .snil ow newLS) (k1 : Keep h h1 none_) (hd : d = h.n) (hd1 : h.n < h1.n)
    (k2 : Keep h1 h2 (isId dv)) (od : Own h2 25 1 dv' (ptrs (fun q => (rs q).i) n ++ [.ptr d 0])) (n1 : NewOr h1 dv dv') {o3 : AObj}
    (k4 : Keep (h2.set L o3) h4 (fun x => x = d)) (dn : NdB h4 room r' []) (hi : r'.i = d) (hx : ∀ x, NP r' x → x = d ∨ h2.n ≤ x)
    (k5 : Keep h4 h5 (isId nv)) (on : Own h5 34 1 nv' (ptrs (fun q => (rs q).a) n ++ [.ptr r'.a 0])) (n2 : NewOr h4 nv nv') :
    LogS h0 (h5.set L (.cells [dv', nv', .bool false, .int .i64 0, .snil] 129 none)) L room (n + 1) (updN rs n r') dv' nv' .snil (owNew ow h.n (isId dv') (isId nv') (NP r') n) newLS := by
  have kn0 := w.keep.n
  have kn1 := k1.n
  have kn2 := k2.n
  have kn4 := k4.n
  simp only [set_n] at kn4
  have kn5 := k5.n
  have hL := w.lt
  have odl := od.lt
  have onl := on.lt
  have tL := w.owL
  have tdv : ∀ x, isId dv x → ow x = 2 ∧ x < h.n := fun x hh => ⟨w.owd x hh, w.dk.lt x hh⟩
  have tnv : ∀ x, isId nv x → ow x = 3 ∧ x < h.n := fun x hh => ⟨w.own_ x hh, w.nk.lt x hh⟩
  have tD : ∀ x, isId dv' x → (x < h.n ∧ ow x = 2) ∨ (h1.n ≤ x ∧ x < h2.n) := fun x hh => by
    rcases n1 with e | e
    · have := tdv x (show idOf dv = some x by rw [← e]; exact hh)
      exact .inl ⟨this.2, this.1⟩
    · exact .inr ⟨e x hh, odl x hh⟩
  have tN : ∀ x, isId nv' x → (x < h.n ∧ ow x = 3) ∨ (h4.n ≤ x ∧ x < h5.n) := fun x hh => by
    rcases n2 with e | e
    · have := tnv x (show idOf nv = some x by rw [← e]; exact hh)
      exact .inl ⟨this.2, this.1⟩
    · exact .inr ⟨e x hh, onl x hh⟩
  have tP : ∀ x, NP r' x → (x = d ∨ h2.n ≤ x) ∧ x < h4.n := fun x hh => ⟨hx x hh, dn.lt x hh⟩
  have DN : ∀ x, isId dv' x → ¬ isId nv' x := fun x a b => by have := tD x a; have := tN x b; omega
  have DP : ∀ x, isId dv' x → ¬ NP r' x := fun x a b => by have := tD x a; have := tP x b; omega
  have NPn : ∀ x, isId nv' x → ¬ NP r' x := fun x a b => by have := tN x a; have := tP x b; omega
  have e1 : ∀ x, isId dv' x → owNew ow h.n (isId dv') (isId nv') (NP r') n x = 2 := fun x hh => by unfold owNew; rw [if_pos hh]
  have e2 : ∀ x, isId nv' x → owNew ow h.n (isId dv') (isId nv') (NP r') n x = 3 := fun x hh => by unfold owNew; rw [if_neg (fun a => DN x a hh), if_pos hh]
  have e3 : ∀ x, NP r' x → owNew ow h.n (isId dv') (isId nv') (NP r') n x = n + 5 := fun x hh => by unfold owNew; rw [if_neg (fun a => DP x a hh), if_neg (fun a => NPn x a hh), if_pos hh]
  have e4 : ∀ x, x < h.n → owNew ow h.n (isId dv') (isId nv') (NP r') n x = ow x := fun x hh => by
    unfold owNew
    by_cases a : isId dv' x
    · rw [if_pos a]; have := tD x a; omega
    rw [if_neg a]
    by_cases b : isId nv' x
    · rw [if_pos b]; have := tN x b; omega
    rw [if_neg b, if_neg (fun c => by have := tP x c; omega), if_pos hh]
  have e5 : ∀ x, owNew ow h.n (isId dv') (isId nv') (NP r') n x ≠ 0 → x < h5.n := fun x hh => by
    unfold owNew at hh
    split at hh
    · rename_i a; have := tD x a; omega
    split at hh
    · rename_i b; exact onl x b
    split at hh
    · rename_i c; have := tP x c; omega
    split at hh
    · omega
    · exact absurd rfl hh
  have kS : ∀ (hh : AHeap) (o : AObj), Keep hh (hh.set L o) (· = L) := fun hh o => Keep.set _ _ _
  have KA : Keep h (h5.set L (.cells [dv', nv', .bool false, .int .i64 0, .snil] 129 none)) (fun x => x = L ∨ isId dv x ∨ isId nv x) :=
    (((((k1.up (o := fun x => x = L ∨ isId dv x ∨ isId nv x)).trans k2 fun x hx hh => .inr (.inl hh)).trans (kS _ o3) fun x hx hh => .inl hh).trans k4 fun x hx hh => by have : x = d := hh; omega).trans k5 fun x hx hh => .inr (.inr hh)).trans (kS _ _) fun x hx hh => .inl hh
  refine ⟨w.keep.trans KA fun x hx hh => ?_, fun x hx => ?_, (e4 L hL).trans tL, get_set_same, ?_, ?_, Own.snil _ _ _, e1, e2, fun x hx => (by cases hx), ⟨fun p hp => ?_, fun p hp x hx2 => ?_, e5⟩, fun b hb => (by cases hb), Nat.zero_le _⟩
  · have h3 := w.new x
    rcases hh with hh | hh | hh
    · rw [hh] at hx; have := w.new L (by omega); omega
    · have := tdv x hh; have := h3 (by omega); omega
    · have := tnv x hh; have := h3 (by omega); omega
  · by_cases hl : x < h.n
    · rw [e4 x hl] at hx; exact w.new x hx
    · omega
  · have hp : ptrs (fun q => (updN rs n r' q).i) (n + 1) = ptrs (fun q => (rs q).i) n ++ [.ptr d 0] := by
      rw [ptrs_succ, ptrs_congr (g := fun q => (rs q).i) fun q hq => by rw [updN_ne (by omega)]]
      simp only [updN_same, hi]
    rw [hp]
    exact (((od.keep (kS _ o3) fun x a b => by have := tD x a; have : x = L := b; subst this; omega).keep k4 fun x a b => by have := tD x a; have : x = d := b; omega).keep k5 fun x a b => by have := tD x a; have := tnv x b; omega).keep (kS _ _) fun x a b => by have := tD x a; have : x = L := b; subst this; omega
  · have hp : ptrs (fun q => (updN rs n r' q).a) (n + 1) = ptrs (fun q => (rs q).a) n ++ [.ptr r'.a 0] := by
      rw [ptrs_succ, ptrs_congr (g := fun q => (rs q).a) fun q hq => by rw [updN_ne (by omega)]]
      simp only [updN_same]
    rw [hp]
    exact on.keep (kS _ _) fun x a b => by have := tN x a; have : x = L := b; subst this; omega
  · by_cases e : p = n
    · subst e
      rw [updN_same]
      exact (dn.keep k5 fun x a b => by have := tP x a; have := tnv x b; omega).keep (kS _ _) fun x a b => by have := tP x a; have : x = L := b; omega
    · rw [updN_ne e]
      exact (w.ns.nd p (by omega)).keep KA fun x a b => by
        have h3 := w.ns.ond p (by omega) x a
        rcases b with b | b | b
        · subst b; omega
        · have := tdv x b; omega
        · have := tnv x b; omega
  · by_cases e : p = n
    · subst e; rw [updN_same] at hx2; exact e3 x hx2
    · rw [updN_ne e] at hx2
      rw [e4 x ((w.ns.nd p (by omega)).lt x hx2)]
      exact w.ns.ond p (by omega) x hx2
set_option maxHeartbeats 2000000 in
set_option maxRecDepth 20000 in
theorem logNew (h : AHeap) (n : Nat) (hn : n = 1 ∨ n = 3 ∨ n = 5 ∨ n = 7) (room : Int) (hr : 0 ≤ room ∧ room ≤ 1048576) :
    SCalls Tryz.prog 26 [.int .i64 (n : Int), .int .i64 room] h (fun x h' => ∃ L rs dv nv ow, x = .tuple [.ptr L 0, .int .i64 0] ∧ LogS h h' L room n rs dv nv .snil ow newLS) := by
  have c1 : decide ((n : Int) < 1) = false := decide_eq_false (by omega)
  have c2 : decide ((7 : Int) < (n : Int)) = false := decide_eq_false (by omega)
  have c3 : (n : Int).tmod 2 = 1 := by rw [Int.tmod_eq_emod_of_nonneg (by omega)]; omega
  have d0 : ∀ (a b c d e : V), dropC (AObj.cells [a, b, c, d, e] 129 none) 0 = some [a, b, c, d, e] := fun _ _ _ _ _ => rfl
  have d1 : ∀ (a b c d e : V), dropC (AObj.cells [a, b, c, d, e] 129 none) 1 = some [b, c, d, e] := fun _ _ _ _ _ => rfl
  have s0 : ∀ (a b c d e x : V), x.one = true → setC (some 1) (AObj.cells [a, b, c, d, e] 129 none) 0 [x] = some (.cells [x, b, c, d, e] 129 none) := fun a b c d e x hx => by rw [setC_one hx]; rfl
  have s1 : ∀ (a b c d e x : V), x.one = true → setC (some 1) (AObj.cells [a, b, c, d, e] 129 none) 1 [x] = some (.cells [a, x, c, d, e] 129 none) := fun a b c d e x hx => by rw [setC_one hx]; rfl
  refine SCalls.enterI (c := _) Tryz.func26 rfl (by kernel_rfl) (by simp) ?_
  simp only [bW, Int.reduceBEq, Nat.reduceEqDiff, reduceCtorEq, pl_129, zc_129, c1, c2, aBin_rem (show (2 : Int) ≠ 0 by decide), c3]
  refine SWp.loopG (α := Nat × (Nat → NR) × V × V × (Nat → Nat)) (fun x f h' => f 0 = .int .i64 (n : Int) ∧ f 1 = .int .i64 room ∧ f 6 = .ptr h.n 0 ∧ f 22 = .int .i64 (n : Int) ∧ f 23 = .int .i64 (x.1 : Nat) ∧ x.1 ≤ n ∧ LogS h h' h.n room x.1 x.2.1 x.2.2.1 x.2.2.2.1 .snil x.2.2.2.2 newLS) (fun x => n - x.1) (0, fun _ => ⟨0, 0, 0, 0, 0, .snil, .snil, 0⟩, .snil, .snil, fun x => if x = h.n then 1 else 0)
    ⟨rfl, rfl, rfl, rfl, rfl, Nat.zero_le _, LogS.nothing _⟩ ?_
  rintro ⟨i, rs, dv, nv, ow⟩ f h1 ⟨f0, f1, f6, f22, f23, hi, w⟩
  simp only at f23 hi w
  refine wpI_sound (by kernel_rfl) ?_
  by_cases hlt : i < n
  · have e1 : decide ((i : Int) < (n : Int)) = true := decide_eq_true (by omega)
    have hw : IntKind.i64.wrap ((i : Int) + 1) = ((i + 1 : Nat) : Int) := by rw [Go.IntWalk.i64_in _ (by omega)]; rfl
    have n0 : ((0 : Int) != 0) = false := rfl
    simp only [bW, Nat.reduceEqDiff, f1, f22, f23, e1]
    refine callI_of cal6 (dNew h1 room hr.1 hr.2) fun x h2 ⟨ex, dk, k2⟩ => ?_
    subst ex
    have g2 : h2.get h.n = .cells [dv, nv, .bool false, .int .i64 0, .snil] 129 none := (k2.get h.n w.lt fun hh => hh).trans w.get
    have hlt2 := dk.lt
    have dk2 : Own h2 25 1 dv (ptrs (fun q => (rs q).i) i) := w.dk.keepN k2
    have nk2 : Own h2 34 1 nv (ptrs (fun q => (rs q).a) i) := w.nk.keepN k2
    obtain ⟨dv', h3, ea, o3, k3, nw3⟩ := append_elemM (P := Tryz.prog) sl_126 (by decide) dk2 (xs := [.ptr h1.n 0]) rfl rfl (fun m hm => by
      change m * 1 = (ptrs (fun q => (rs q).i) i).length + 1 at hm
      rw [ptrs_len] at hm
      exact ⟨by simp only [lim]; omega, by simp only [lim]; omega⟩)
    have lit : aBuildSlice Tryz.prog 126 1 [(0, .ptr h1.n 0)] h2 = some (.sl h2.n 0 1 1, h2.push (.cells [.ptr h1.n 0] 25 none)) := by rw [buildSlice_go sl_126]; rfl
    obtain ⟨vc, v1⟩ := one_of_own o3
    have kn2 := k2.n
    have kn3 := k3.n
    have tdv := w.owd
    have tnv := w.own_
    have hL := w.lt
    have nLd : ¬ isId dv h.n := fun e => by have := tdv _ e; rw [w.owL] at this; cases this
    have g3 : h3.get h.n = .cells [dv, nv, .bool false, .int .i64 0, .snil] 129 none := (k3.get h.n (by omega) nLd).trans g2
    have u0 := s0 dv nv (.bool false) (.int .i64 0) .snil dv' v1
    have u1 := s1 dv' nv (.bool false) (.int .i64 0) .snil
    have dk3 : IsDisk h3 (.ptr h1.n 0) room [] 0 h1.n .snil := dk.keep k3 fun x hx hh => by
      rcases hx with hx | hx
      · have := w.dk.lt x hh; omega
      · cases hx
    have kS : ∀ (hh : AHeap) (o : AObj), Keep hh (hh.set h.n o) (· = h.n) := fun hh o => Keep.set _ _ _
    have dk4 : IsDisk (h3.set h.n (.cells [dv', nv, .bool false, .int .i64 0, .snil] 129 none)) (.ptr h1.n 0) room [] 0 h1.n .snil := dk3.keep (kS _ _) fun x hx hh => by
      rcases hx with hx | hx
      · have : x = h.n := hh; omega
      · cases hx
    have nk4 : Own (h3.set h.n (.cells [dv', nv, .bool false, .int .i64 0, .snil] 129 none)) 34 1 nv (ptrs (fun q => (rs q).a) i) := (nk2.keep k3 fun x hx hh => by have := tdv x hh; have := tnv x hx; omega).keep (kS _ _) fun x hx hh => by have := tnv x hx; rw [show x = h.n from hh, w.owL] at this; cases this
    have g4 : (h3.set h.n (.cells [dv', nv, .bool false, .int .i64 0, .snil] 129 none)).get h.n = .cells [dv', nv, .bool false, .int .i64 0, .snil] 129 none := get_set_same
    have more := @LogS.more h h1 h2 h3
    simp only [bW, Nat.reduceEqDiff, ft_129_0, lt_126, zt_126, f6, g2, d0, lit, ea, g3, vc, u0]
    generalize hh4 : h3.set h.n (.cells [dv', nv, .bool false, .int .i64 0, .snil] 129 none) = h4 at dk4 nk4 g4 ⊢
    have hn4 : h4.n = h3.n := by rw [← hh4]; rfl
    have m1 : (h.n = h1.n) = False := eq_false (by omega)
    have m2 : ¬ idOf nv = some h.n := fun e => by have := tnv _ e; rw [w.owL] at this; cases this
    refine SWp.drawnS (fun x => x = h1.n ∨ idOf nv = some x) [6, 7, 8, 11] (.q 0 (.q 1 (.q 2 (.q 3 (.q 4 (.q 5 (.e 6 (.e 7 (.e 8 (.q 9 (.q 10 (.a 11 .done))) .stop) .stop) .stop))))))) (by kernel_rfl) (by kernel_rfl) (by kernel_rfl) ?_
    simp only [bW, bS, bM, Nat.reduceEqDiff, ft_129_1, lt_127, f6, g4, d1, m1, m2]
    refine ⟨fun hh => hh.elim id id, ?_⟩
    refine callI_of cal8 (nbOpen (l := []) (h := h4) dk4 NOk.nil (by simp)) fun x h5 ⟨r', ex, dn, ei, k5, hx⟩ => ?_
    subst ex
    have k5' : Keep h4 h5 (fun x => x = h1.n) := k5.mono fun x hh => by
      rcases hh with hh | hh
      · exact hh
      · cases hh
    have nk5 : Own h5 34 1 nv (ptrs (fun q => (rs q).a) i) := nk4.keep k5' fun x hx hh => by have := w.nk.lt x hx; have : x = h1.n := hh; omega
    obtain ⟨nv', h6, eb, o6, k6, nw6⟩ := append_elemM (P := Tryz.prog) sl_127 (by decide) nk5 (xs := [.ptr r'.a 0]) rfl rfl (fun m hm => by
      change m * 1 = (ptrs (fun q => (rs q).a) i).length + 1 at hm
      rw [ptrs_len] at hm
      exact ⟨by simp only [lim]; omega, by simp only [lim]; omega⟩)
    have litb : aBuildSlice Tryz.prog 127 1 [(0, .ptr r'.a 0)] h5 = some (.sl h5.n 0 1 1, h5.push (.cells [.ptr r'.a 0] 34 none)) := by rw [buildSlice_go sl_127]; rfl
    obtain ⟨wc, w1⟩ := one_of_own o6
    have kn5 := k5.n
    have g5 : h5.get h.n = .cells [dv', nv, .bool false, .int .i64 0, .snil] 129 none := (k5'.get h.n (by omega) (by omega)).trans g4
    have g6 : h6.get h.n = .cells [dv', nv, .bool false, .int .i64 0, .snil] 129 none := (k6.get h.n (by omega) m2).trans g5
    have u1' := u1 nv' w1
    have mo := more (r' := r') (o3 := .cells [dv', nv, .bool false, .int .i64 0, .snil] 129 none) (h4 := h5) (h5 := h6) (nv' := nv') w k2 rfl (by omega) k3 o3 nw3 (by rw [hh4]; exact k5') dn ei (fun x hh => by
      rcases hx x hh with h7 | h7
      · rcases h7 with h7 | h7
        · exact .inl h7
        · cases h7
      · exact .inr (by omega)) k6 o6 nw6
    have kM : Keep h4 h5 (fun x => x = h1.n ∨ idOf nv = some x) := k5'.mono fun _ hh => .inl hh
    have kM2 : Keep h4 h6 (fun x => x = h1.n ∨ idOf nv = some x) := kM.trans k6 fun _ _ hh => .inr hh
    simp only [bW, bS, bM, Nat.reduceEqDiff, ft_129_1, zt_127, litb, eb, kM, kM2]
    simp only [bW, bS, bM, Nat.reduceEqDiff, g6, wc, u1', f23, hw]
    exact ⟨kM.then_push _, hid_mk ⟨(i + 1, updN rs i r', dv', nv', _), ⟨f0, f1, f6, f22, rfl, hlt, mo⟩, by simp only; omega⟩⟩
  · have e1 : decide ((i : Int) < (n : Int)) = false := decide_eq_false (by omega)
    have hin : i = n := by omega
    subst hin
    simp only [bW, Nat.reduceEqDiff, f6, f22, f23, e1, retA_ret, Tryz.results26, resultsA_2]
    exact hid_mk ⟨h.n, rs, dv, nv, ow, rfl, w⟩
end Go.Proofs.YtilgpaibolollaaGreat.Pk
namespace Go.Proofs.YtilgpaibolollaaGreat.Pk
open Go Go.Proofs Go.Proofs.YtilgpaibolollaaGreat.Ab
set_option maxRecDepth 10000
set_option linter.unusedVariables false
set_option linter.unusedSimpArgs false
/-! ### No log -/
/-! ### The law's rows -/
theorem rowV_snoc (l : List (List Nat)) (b : List Nat) : rowV (l ++ [b]) = rowV l ++ [.imm b.length (bytesV b)] := by unfold rowV; rw [List.map_append]; rfl
theorem litRow (h : AHeap) (v : V) (h1 : v.one = true) (h2 : v.cells = some [v]) : aBuildSlice Tryz.prog 73 1 [(0, v)] h = some (.sl h.n 0 1 1, h.push (.cells [v] 29 none)) := by rw [buildSlice_go sl_73]; cases v <;> simp [V.one] at h1 <;> simp [V.cells] at h2 <;> rfl
set_option maxHeartbeats 1000000 in
set_option maxRecDepth 10000 in
theorem pRow10 {h0 h : AHeap} {L : Nat} {room : Int} {n : Nat} {rs : Nat → NR} {dv nv pv : V} {ow : Nat → Nat} {s : LS} (w : LogS h0 h L room n rs dv nv pv ow s) :
    SCalls Tryz.prog 37 [.ptr L 0] h (fun r h' => Acc h h' 29 1 r (rowV s.row)) := by
  have hrl := w.rl
  refine SCalls.enterI (c := _) Tryz.func37 rfl (by kernel_rfl) (by simp) ?_
  simp only [bW]
  refine SWp.loopG (α := Nat) (fun i f h' => f 0 = .ptr L 0 ∧ f 4 = .int .i64 (i : Nat) ∧ i ≤ s.row.length ∧ Acc h h' 29 1 (f 3) (rowV (s.row.take i))) (fun i => s.row.length - i) 0
    ⟨rfl, rfl, Nat.zero_le _, Acc.nil (Keep.refl _ _)⟩ ?_
  rintro i f h1 ⟨f0, f4, hi, acc⟩
  have w1 := w.on acc.keep
  refine wpI_sound (by kernel_rfl) ?_
  simp only [bW, Nat.reduceEqDiff, reduceCtorEq, f0, f4]
  refine callI_pure cal62 (logLen w1) ?_
  by_cases hlt : i < s.row.length
  · have c1 : decide ((i : Int) < ((s.row.length : Nat) : Int)) = true := decide_eq_true (by omega)
    have c2 : decide ((i : Int) < 5000) = true := decide_eq_true (by omega)
    have hw : IntKind.i64.wrap ((i : Int) + 1) = ((i + 1 : Nat) : Int) := by rw [Go.IntWalk.i64_in _ (by omega)]; rfl
    have z1 : ((0 : Int) == 0) = true := rfl
    have htk := List.take_succ_eq_append_getElem hlt
    have hg := logGet w1 hlt
    generalize s.row[i] = b at hg htk
    obtain ⟨v, h2, ea, o2, k2, nw2⟩ := append_elemM (P := Tryz.prog) sl_73 (by decide) acc.own (xs := [.imm b.length (bytesV b)]) rfl rfl (fun m hm => by
      change m * 1 = (rowV (s.row.take i)).length + 1 at hm
      rw [rowV_len, List.length_take] at hm
      exact ⟨by simp only [lim]; omega, by simp only [lim]; omega⟩)
    have lit := litRow h1 (.imm b.length (bytesV b)) rfl rfl
    have a2 := acc.step o2 k2 nw2
    simp only [bW, Nat.reduceEqDiff, reduceCtorEq, f0, f4, c1, c2]
    refine callI_pure cal79 hg ?_
    simp only [bW, Nat.reduceEqDiff, f4, lit, ea, hw]
    exact hid_mk ⟨i + 1, ⟨f0, rfl, hlt, by rw [htk, rowV_snoc]; exact a2⟩, by omega⟩
  · have c1 : decide ((i : Int) < ((s.row.length : Nat) : Int)) = false := decide_eq_false (by omega)
    rw [List.take_of_length_le (by omega)] at acc
    simp only [bW, Nat.reduceEqDiff, c1, retA_ret, Tryz.results37, resultsA_1]
    exact hid_mk acc
end Go.Proofs.YtilgpaibolollaaGreat.Pk
namespace Go.Proofs.YtilgpaibolollaaGreat.Pk
open Go Go.Proofs Go.Proofs.YtilgpaibolollaaGreat.Ab
set_option maxRecDepth 10000
set_option linter.unusedVariables false
set_option linter.unusedSimpArgs false
theorem litB2 (h : AHeap) (a b : Bool) : aBuildSlice Tryz.prog 78 2 [(0, .bool a), (1, .bool b)] h = some (.sl h.n 0 2 2, h.push (.cells (boV [a, b]) 4 none)) := by rw [buildSlice_go sl_78]; rfl
theorem litB1 (h : AHeap) (a : Bool) : aBuildSlice Tryz.prog 78 1 [(0, .bool a)] h = some (.sl h.n 0 1 1, h.push (.cells (boV [a]) 4 none)) := by rw [buildSlice_go sl_78]; rfl
theorem litB3 (h : AHeap) (a b c : Bool) : aBuildSlice Tryz.prog 78 3 [(0, .bool a), (1, .bool b), (2, .bool c)] h = some (.sl h.n 0 3 3, h.push (.cells (boV [a, b, c]) 4 none)) := by rw [buildSlice_go sl_78]; rfl
theorem rv_new {h : AHeap} {ow : Nat → Nat} (l : List Bool) (hz : ow h.n = 0) (hl : l.length < 1000) : RVal (h.push (.cells (boV l) 4 none)) ow (.sl h.n 0 l.length l.length) l :=
  ⟨.inr (Own.fresh' (boV l) l.length (by rw [boV_len, Nat.mul_one]) (by unfold unk; omega)), fun x hx => by simp only [idOf, Option.some.injEq] at hx; rw [← hx]; exact hz⟩
theorem logAppend1 {h0 h : AHeap} {L : Nat} {room : Int} {n : Nat} {rs : Nat → NR} {dv nv pv : V} {ow : Nat → Nat} {s : LS} (w : LogS h0 h L room n rs dv nv pv ow s) (hn : n ≤ 2 ^ 10) (c : Nat) (hc : c < 256) (reach : List Bool) {rv : V} (rvl : RVal h ow rv reach) (hr : reach.length ≤ 2 ^ 47) :
    SCalls Tryz.prog 28 [.ptr L 0, .sl h.n 0 1 1, rv] (h.push (.cells [.int .u8 (c : Int)] 5 none)) (fun x h' => x = .tuple [.int .i64 ((appL room n (rch reach) [c] s).2.1 : Nat), .int .i64 (appL room n (rch reach) [c] s).2.2] ∧ ∃ rs' pv' ow', LogS h0 h' L room n rs' dv nv pv' ow' (appL room n (rch reach) [c] s).1 ∧ LFr h h' ow ow') := by
  obtain ⟨h2, cc, k2⟩ := Cast.lit (h := h) (c := [.int .u8 (c : Int)]) (e := 5) (n := 1) (sz := 1) rfl (by decide) (by decide)
  refine SCalls.args (CastL.cons (Cast.refl _ _) (CastL.cons cc (CastL.refl _ _))) ((logAppend (w.on k2) hn [c] (by simpa using hc) reach (rvl.fr (LFr.none ow k2)) hr).mono fun x h' ⟨e, rs', pv', ow', w', f⟩ => ⟨e, rs', pv', ow', w', (LFr.none ow k2).trans f⟩)
/-- Append of a literal, reach being a literal, too. -/
theorem logAppend2 {h0 h : AHeap} {L : Nat} {room : Int} {n : Nat} {rs : Nat → NR} {dv nv pv : V} {ow : Nat → Nat} {s : LS} (w : LogS h0 h L room n rs dv nv pv ow s) (hn : n ≤ 2 ^ 10) (c : Nat) (hc : c < 256) (b : Bool) :
    SCalls Tryz.prog 28 [.ptr L 0, .sl h.n 0 1 1, .sl (h.n + 1) 0 1 1] ((h.push (.cells [.int .u8 (c : Int)] 5 none)).push (.cells (boV [b]) 4 none)) (fun x h' => x = .tuple [.int .i64 ((appL room n (rch [b]) [c] s).2.1 : Nat), .int .i64 (appL room n (rch [b]) [c] s).2.2] ∧ ∃ rs' pv' ow', LogS h0 h' L room n rs' dv nv pv' ow' (appL room n (rch [b]) [c] s).1 ∧ LFr h h' ow ow') := by
  have oA : Own ((h.push (.cells [.int .u8 (c : Int)] 5 none)).push (.cells (boV [b]) 4 none)) 5 1 (.sl h.n 0 1 1) [.int .u8 (c : Int)] := (Own.fresh' _ 1 rfl (by decide)).keepN (Keep.push _ _ _)
  obtain ⟨h2, cc, k2⟩ := Cast.own oA (n := 1) rfl (by decide)
  have kh : Keep h h2 none_ := ((Keep.push _ _ none_).then_push _).trans k2 fun x hx hh => by simp only [isId, idOf, Option.some.injEq] at hh; omega
  have rv0 : RVal ((h.push (.cells [.int .u8 (c : Int)] 5 none)).push (.cells (boV [b]) 4 none)) ow (.sl (h.n + 1) 0 1 1) [b] := rv_new (h := h.push (.cells [.int .u8 (c : Int)] 5 none)) [b] (w.ns.zero (by simp only [push_n]; omega)) (by simp)
  have rv2 : RVal h2 ow (.sl (h.n + 1) 0 1 1) [b] := by
    rcases rv0.v with e | o
    · cases e
    · exact ⟨.inr (o.keep k2 fun x hx hh => by simp only [isId, idOf, Option.some.injEq] at hh hx; omega), rv0.ow⟩
  exact SCalls.args (CastL.cons (Cast.refl _ _) (CastL.cons cc (CastL.refl _ _))) ((logAppend (w.on kh) hn [c] (by simpa using hc) [b] rv2 (by simp)).mono fun x h' ⟨e, rs', pv', ow', w', f⟩ => ⟨e, rs', pv', ow', w', (LFr.none ow kh).trans f⟩)
theorem good0 (n : Nat) : Good n newLS.nd newLS.ep [] 0 := Good.start n _ [] fun q hq => ⟨fun k => rfl, Int.le_refl _, Nat.le_refl _⟩
set_option maxHeartbeats 2000000 in
set_option maxRecDepth 20000 in
theorem shown10 (h : AHeap) : Pure Tryz.prog 25 [] h (.bool true) := by
  refine Pure.val (Clo.bool _) ?_
  have n0 : ((0 : Int) != 0) = false := rfl
  refine SCalls.enterI (c := _) Tryz.func25 rfl (by kernel_rfl) (by simp) ?_
  simp only [bW]
  refine callI_of cal26 (logNew h 3 (.inr (.inl rfl)) 1000 (by decide)) fun r1 h1 ⟨L, rs, dv, nv, ow, e1, w1⟩ => ?_
  subst e1
  have k2 : Keep h1 (h1.push (.cells (boV [true, true]) 4 none)) none_ := Keep.push _ _ _
  have w2 := w1.on k2
  have r2 := rv_new (h := h1) [true, true] (w1.ns.zero (Nat.le_refl _)) (by simp)
  simp only [bW, Nat.reduceEqDiff, reduceCtorEq, kt_69, litB2]
  generalize h1.push (.cells (boV [true, true]) 4 none) = h2 at w2 r2 ⊢
  refine callI_of cal30 (logOpen w2 (by decide) (by decide) [true, true] r2 (by simp)) fun x h3 ⟨s3, e3, rs3, pv3, ow3, O3, ex, w3, ep3, f3⟩ => ?_
  subst ex
  obtain ⟨rfl, row3, op3, _, g3, fu3, _⟩ := (good0 3).open_ (M := 1) O3 (by decide) (by decide) (by simp) (by simp) (by decide) (.inl rfl) (by simp)
  have r3 := r2.fr f3
  have ep3' : s3.ep = 1 := ep3
  simp only [bW, Nat.reduceEqDiff, reduceCtorEq, lit1b]
  refine callI_of cal28 (logAppend1 w3 (by decide) 7 (by decide) [true, true] r3 (by simp)) fun x h4 ⟨ex, rs4, pv4, ow4, w4, f4⟩ => ?_
  subst ex
  have G3 : Good 3 s3.nd s3.ep s3.row (0 + 54 + 0) := by rw [row3, ep3']; exact g3
  obtain ⟨g4, fu4, ep4, A4⟩ := G3.app (room := 1000) (rc := rch [true, true]) (b := [7]) (M := 1) op3 (by decide) (by omega) (by simp) (by simp) (by rw [row3]; simp) (by simp)
  rw [if_pos (by decide)] at A4
  obtain ⟨a4, row4, op4⟩ := A4
  rw [a4, row3]
  simp only [bW, Nat.reduceEqDiff, reduceCtorEq, lit1b, litB1]
  generalize (appL 1000 3 (rch [true, true]) [7] s3).1 = s4 at w4 g4 fu4 ep4 row4 op4
  refine callI_of cal28 (logAppend2 w4 (by decide) 8 (by decide) true) fun x h5 ⟨ex, rs5, pv5, ow5, w5, f5⟩ => ?_
  subst ex
  have G4 : Good 3 s4.nd s4.ep s4.row (0 + 54 + 0 + (54 + 1)) := by rw [row4, ep4]; exact g4
  obtain ⟨g5, fu5, ep5, A5⟩ := G4.app (room := 1000) (rc := rch [true]) (b := [8]) (M := 1) op4 (by decide) (by omega) (by simp) (by simp) (by rw [row4, row3]; simp) (by simp)
  rw [if_neg (by decide)] at A5
  obtain ⟨a5, row5, op5⟩ := A5
  rw [a5]
  generalize (appL 1000 3 (rch [true]) [8] s4).1 = s5 at w5 g5 fu5 ep5 row5 op5
  have k6 : Keep h5 (h5.push (.cells (boV [true, false, true]) 4 none)) none_ := Keep.push _ _ _
  have w6 := w5.on k6
  have r6 := rv_new (h := h5) [true, false, true] (w5.ns.zero (Nat.le_refl _)) (by simp)
  simp only [bW, Nat.reduceEqDiff, reduceCtorEq, litB3]
  generalize h5.push (.cells (boV [true, false, true]) 4 none) = h6 at w6 r6 ⊢
  refine callI_of cal30 (logOpen w6 (by omega) (by decide) [true, false, true] r6 (by simp)) fun x h7 ⟨s7, e7, rs7, pv7, ow7, O7, ex, w7, ep7, f7⟩ => ?_
  subst ex
  have hrow : s4.row ++ [[8]] = [[7], [8]] := by rw [row4, row3]; rfl
  have full0 : Full (s4.row ++ [[8]]) (s5.nd 0) := fu5 0 (by decide) rfl (by rw [row4]; exact fu4 0 (by decide) rfl (by rw [row3]; exact fu3 0 (by decide) rfl))
  obtain ⟨rfl, row7, op7, _, g7, _, _⟩ := (show Good 3 s5.nd s5.ep (s4.row ++ [[8]]) _ by rw [ep5]; exact g5).open_ (M := 1) O7 (by decide) (by omega) (by rw [hrow]; decide) (by rw [hrow]; decide) (by decide) (.inr ⟨0, by decide, rfl, full0⟩) (by rw [hrow]; decide)
  have hlen := logLen w7
  rw [row7, hrow] at hlen
  have hep := logEpoch w7
  rw [ep7, ep5, ep4, ep3'] at hep
  have z0 : ((0 : Int) == 0) = true := rfl
  have z1 : (((0 : Nat) : Int) == 0) = true := rfl
  have z8 : ((8 : Int) == 8) = true := rfl
  have zl : ((([[7], [8]] : List (List Nat)).length : Nat) : Int) = 2 := rfl
  rw [zl] at hlen
  have z2 : ((2 : Int) == 2) = true := rfl
  have z11 : (1 : Int) + 1 = 2 := rfl
  rw [z11] at hep
  have hln : (([] : List (List Nat)).length : Nat) = 0 := rfl
  simp only [bW, Nat.reduceEqDiff, reduceCtorEq, z1]
  refine callI_pure cal62 hlen ?_
  simp only [bW, Nat.reduceEqDiff, reduceCtorEq]
  refine callI_pure cal38 hep ?_
  simp only [bW, Nat.reduceEqDiff, reduceCtorEq, retA_ret, Tryz.results25, resultsA_1]
  exact hid_mk ⟨rfl, w7.keep⟩
end Go.Proofs.YtilgpaibolollaaGreat.Pk
namespace Go.Proofs.YtilgpaibolollaaGreat.Pk
open Go Go.Proofs Go.Proofs.YtilgpaibolollaaGreat.Ab
set_option maxRecDepth 10000
set_option linter.unusedVariables false
set_option linter.unusedSimpArgs false
/-! ### A list of payloads that a node may have -/
structure Okl (room : Int) (l : Pays) : Prop where
  r1 : room ≤ 1048576
  r2 : ((l.flatMap frame).length : Int) ≤ room
  ok : NOk (redoL l)
  pl : ∀ p ∈ l, p.length ≤ 4096 ∧ ∀ x ∈ p, x < 256
theorem NdB.okl {h : AHeap} {room : Int} {r : NR} {l : Pays} (d : NdB h room r l) : Okl room l := by
  obtain ⟨l1, l2, l3, l4, l5⟩ := d.lens
  exact ⟨l1, l2, d.ok, d.pl⟩
theorem Okl.nil {room : Int} (h0 : 0 ≤ room) (h1 : room ≤ 1048576) : Okl room [] := ⟨h1, by simpa using h0, NOk.nil, by simp⟩
theorem Okl.lens {room : Int} {l : Pays} (d : Okl room l) : room ≤ 1048576 ∧ ((l.flatMap frame).length : Int) ≤ room ∧ (redoRL l).2.length ≤ 1048576 ∧ (∀ x ∈ l.flatMap frame, x < 256) ∧ (∀ c ∈ (redoRL l).2, (0 ≤ c.at_ ∧ c.at_ < 4096) ∧ (∀ x ∈ c.bytes, x < 256) ∧ c.bytes.length ≤ 2048) := by
  have h1 := d.r2
  have h2 := d.r1
  have h3 := frames_len l
  have h4 := redoRL_len l
  refine ⟨h2, h1, by omega, fun x hx => ?_, cel_ok d.ok (like_all l)⟩
  obtain ⟨p, hp, hx⟩ := List.mem_flatMap.1 hx
  have he := enc_lt p.length p.length (Nat.le_refl _)
  unfold frame encBytes at hx
  rcases List.mem_append.1 hx with hx | hx
  · rcases List.mem_append.1 hx with hx | hx
    · exact he x hx
    · exact (d.pl p hp).2 x hx
  · simp only [sumL, List.mem_cons, List.not_mem_nil, or_false] at hx
    rcases hx with rfl | rfl | rfl | rfl <;> exact sumB_lt _ _
theorem yWriteO {room : Int} {l : Pays} (d : Okl room l) (t ep at_ : Int) (b : List Nat) (hb : ∀ x ∈ b, x < 256) (hbl : b.length ≤ 2 ^ 50) (h : AHeap) :
    Pure Tryz.prog 11 [.agg (yE room l t), .int .i64 ep, .int .i64 at_, .imm b.length (bytesV b)] h (.tuple [.agg (yE room (nw room ep at_ b l).1 t), .int .i64 (nw room ep at_ b l).2]) := by
  obtain ⟨l1, l2, l3, l4, l5⟩ := d.lens
  have := pWriteR room (l.flatMap frame) t (redoRL l) ep at_ b l1 (by omega) (like_all l).ri (by omega) (fun c hc => (l5 c hc).2.1) hb hbl h
  unfold writeV at this
  rw [wrR_eq (like_all l)] at this
  unfold nw
  cases hw : wrI (redoL l) ep at_ b with
  | some e => rw [hw] at this; exact this
  | none =>
    rw [hw] at this
    simp only at this ⊢
    unfold noteV at this
    by_cases hP : putBad room (l.flatMap frame) (payN ⟨1, ep, at_, b⟩) = 0
    · rw [if_pos hP] at this ⊢
      rw [yE_snoc] at this
      exact this
    · rw [if_neg hP] at this ⊢
      exact this
theorem ySealO {room : Int} {l : Pays} (d : Okl room l) (t ep : Int) (h : AHeap) :
    Pure Tryz.prog 16 [.agg (yE room l t), .int .i64 ep] h (.tuple [.agg (yE room (nseal room ep l).1 t), selV room ep l, .int .i64 (nseal room ep l).2]) := by
  obtain ⟨l1, l2, l3, l4, l5⟩ := d.lens
  have := pSealR room (l.flatMap frame) t (redoRL l) ep l1 (by omega) (like_all l).ri (by omega) h
  unfold sealV at this
  rw [selR_eq (like_all l)] at this
  unfold selV nseal
  cases hw : selI (redoL l) ep with
  | some e =>
    rw [hw] at this
    simp only at this ⊢
    have he : e ≠ 0 := by
      rintro rfl
      unfold selI at hw
      split at hw
      · cases hw
      split at hw <;> cases hw
    rw [if_neg he]
    exact this
  | none =>
    rw [hw] at this
    simp only at this ⊢
    by_cases hP : putBad room (l.flatMap frame) (payN (selA ep)) = 0
    · rw [if_pos hP] at this ⊢
      rw [yE_snoc, ← redoRL_snoc] at this
      exact this
    · rw [if_neg hP] at this ⊢
      simp only
      rw [if_neg hP]
      exact this
theorem yOpenLO {room : Int} {l : Pays} (d : Okl room l) : ∃ t, ∀ h, Pure Tryz.prog 9 [.agg (xE room (nI (l.flatMap frame)) (nI []))] h (.agg (yE room l t)) := by
  obtain ⟨l1, l2, l3, l4, l5⟩ := d.lens
  have := fun h => pNodeR room (l.flatMap frame) [] (by rw [List.append_nil]; exact l4) (by rw [List.append_nil]; omega) h
  rw [List.append_nil, scan_all l fun p hp => (d.pl p hp).1] at this
  exact ⟨_, this⟩
theorem Okl.more {room : Int} {l : Pays} (d : Okl room l) {p : List Nat} (hp : p.length ≤ 4096 ∧ ∀ x ∈ p, x < 256) (h0 : putBad room (l.flatMap frame) p = 0) : Okl room (l ++ [p]) := by
  refine ⟨d.r1, ?_, ?_, fun q hq => ?_⟩
  · unfold putBad at h0
    rw [List.flatMap_append, List.length_append]
    rw [if_neg (by omega)] at h0
    split at h0
    · rename_i h; simpa using h
    · exact absurd h0 (by decide)
  · rw [redoL_snoc]; exact d.ok.redo p hp.2
  · rcases List.mem_append.1 hq with hq | hq
    · exact d.pl q hq
    · simp at hq; subst hq; exact hp
theorem Okl.nw {room : Int} {l : Pays} (d : Okl room l) (ep at_ : Int) {b : List Nat} (hb : ∀ x ∈ b, x < 256) : Okl room (Pk.nw room ep at_ b l).1 := by
  unfold Pk.nw
  cases hw : wrI (redoL l) ep at_ b with
  | some e => exact d
  | none =>
    simp only
    split
    · rename_i h0
      obtain ⟨r1, r2, r3⟩ := wr_rng (wr_ok hw)
      exact d.more (pay_ok _ ⟨by simp only; omega, by simp only; omega, by simp only; omega, r3⟩ hb) h0
    · exact d
theorem Okl.nseal {room : Int} {l : Pays} (d : Okl room l) (ep : Int) : Okl room (Pk.nseal room ep l).1 := by
  unfold Pk.nseal
  cases hw : selI (redoL l) ep with
  | some e => exact d
  | none =>
    simp only
    split
    · rename_i h0
      obtain ⟨hm, hlt⟩ := sel_rng hw
      exact d.more (pay_ok _ ⟨by simp only [selA]; omega, by simp only [selA]; omega, by simp only [selA]; omega, by simp [selA]⟩ (by simp [selA])) h0
    · exact d
/-! ### Layer 9 of the reference -/
theorem pNeed9 (n : Nat) (hn : n ≤ 1000) (h : AHeap) : Pure Tryz.prog 72 [.int .i64 (n : Nat)] h (.int .i64 ((n / 2 + 1 : Nat) : Int)) := by
  refine Pure.val (Clo.int _ _) ?_
  refine SCalls.enterI (c := _) Tryz.func72 rfl (by kernel_rfl) (by simp) ?_
  simp only [bW]
  refine SWp.loopG (α := Nat) (fun k f h' => h' = h ∧ f 0 = .int .i64 (n : Nat) ∧ f 3 = .int .i64 (k : Nat) ∧ 1 ≤ k ∧ k ≤ n / 2 + 1) (fun k => n + 1 - k) 1
    ⟨rfl, rfl, rfl, Nat.le_refl _, by omega⟩ ?_
  rintro k f h' ⟨rfl, f0, f3, hk1, hk2⟩
  refine wpI_sound (by kernel_rfl) ?_
  have w1 : IntKind.i64.wrap (2 * (k : Int)) = ((2 * k : Nat) : Int) := by rw [Go.IntWalk.i64_in _ (by omega)]; omega
  have w2 : IntKind.i64.wrap ((k : Int) + 1) = ((k + 1 : Nat) : Int) := by rw [Go.IntWalk.i64_in _ (by omega)]; rfl
  by_cases h1 : 2 * k ≤ n
  · have d1 : decide (((2 * k : Nat) : Int) ≤ (n : Int)) = true := by simp; omega
    have d2 : decide ((k : Int) ≤ 1000000) = true := by simp; omega
    simp only [bW, Nat.reduceEqDiff, reduceCtorEq, f0, f3, w1, d1, d2, w2]
    exact hid_mk ⟨k + 1, ⟨rfl, f0, rfl, by omega, by omega⟩, by omega⟩
  · have d1 : decide (((2 * k : Nat) : Int) ≤ (n : Int)) = false := by simp; omega
    simp only [bW, Nat.reduceEqDiff, reduceCtorEq, f0, f3, w1, d1, retA_ret, Tryz.results72, resultsA_1]
    exact hid_mk ⟨by rw [show k = n / 2 + 1 by omega], Keep.refl _ _⟩
def pgo (c : Cel) : List Cel → Bool → List Cel × Bool
  | [], d => ([], d)
  | x :: l, d => if x.at_ = c.at_ then ((if x.epoch < c.epoch then c else x) :: (pgo c l true).1, (pgo c l true).2)
    else if d = false ∧ c.at_ < x.at_ then (c :: x :: (pgo c l true).1, (pgo c l true).2) else (x :: (pgo c l d).1, (pgo c l d).2)
def putC (l : List Cel) (c : Cel) : List Cel := (pgo c l false).1 ++ (if (pgo c l false).2 then [] else [c])
def bst (t : Option Cel) (c : Cel) : Cel := match t with | some x => if x.epoch < c.epoch then c else x | none => c
theorem pgo_past (c : Cel) : ∀ l : List Cel, (∀ x ∈ l, c.at_ < x.at_) → pgo c l true = (l, true)
  | [], _ => rfl
  | x :: l, h => by
    have h1 := h x (by simp)
    unfold pgo
    rw [if_neg (by omega), if_neg (by simp), pgo_past c l fun y hy => h y (by simp [hy])]
theorem filt_none {l : List Cel} {k : Int} (h : ∀ x ∈ l, k < x.at_) : l.filter (fun d => decide (d.at_ < k)) = [] := List.filter_eq_nil_iff.2 fun x hx => by have := h x hx; simp; omega
theorem filt_all {l : List Cel} {k : Int} (h : ∀ x ∈ l, k < x.at_) : l.filter (fun d => decide (k < d.at_)) = l := List.filter_eq_self.2 fun x hx => by have := h x hx; simpa using this
theorem putC_rise (c : Cel) : ∀ {l : List Cel}, Rise l → putC l c = rwith l (bst (rfind l c.at_) c)
  | [], _ => rfl
  | x :: l, r => by
    have hx := (List.pairwise_cons.1 r).1
    have hr := (List.pairwise_cons.1 r).2
    have ih := putC_rise c hr
    have fc : rfind (x :: l) c.at_ = if x.at_ = c.at_ then some x else rfind l c.at_ := by
      unfold rfind
      rw [List.find?_cons]
      by_cases h : x.at_ = c.at_
      · rw [if_pos h, show decide (x.at_ = c.at_) = true by simpa using h]
      · rw [if_neg h, show decide (x.at_ = c.at_) = false by simpa using h]
    have hb : ∀ t, (∀ x, t = some x → x.at_ = c.at_) → (bst t c).at_ = c.at_ := fun t ht => by
      unfold bst
      cases t with
      | none => rfl
      | some y => simp only; split; rfl; exact ht y rfl
    have hfat : ∀ k (l : List Cel) y, rfind l k = some y → y.at_ = k := fun k l y hy => by
      have := List.find?_some hy
      simpa using this
    rw [fc]
    by_cases h1 : x.at_ = c.at_
    · rw [if_pos h1]
      have hp : ∀ y ∈ l, c.at_ < y.at_ := fun y hy => by have := hx y hy; omega
      have e0 : pgo c (x :: l) false = ((if x.epoch < c.epoch then c else x) :: l, true) := by
        rw [pgo, if_pos h1, pgo_past c l hp]
      unfold putC
      rw [e0]
      have e := hb (some x) (fun y hy => by cases hy; exact h1)
      have f1 : (x :: l).filter (fun d => decide (d.at_ < c.at_)) = [] := by rw [List.filter_cons, if_neg (by simp; omega), filt_none hp]
      have f2 : (x :: l).filter (fun d => decide (c.at_ < d.at_)) = l := by rw [List.filter_cons, if_neg (by simp; omega), filt_all hp]
      unfold rwith
      rw [e, f1, f2]
      simp [bst]
    · rw [if_neg h1]
      by_cases h2 : c.at_ < x.at_
      · have hp : ∀ y ∈ l, c.at_ < y.at_ := fun y hy => by have := hx y hy; omega
        have hn : rfind l c.at_ = none := List.find?_eq_none.2 fun y hy => by have := hp y hy; simp; omega
        have e0 : pgo c (x :: l) false = (c :: x :: l, true) := by
          rw [pgo, if_neg h1, if_pos ⟨rfl, h2⟩, pgo_past c l hp]
        unfold putC
        rw [e0, hn]
        have f1 : (x :: l).filter (fun d => decide (d.at_ < c.at_)) = [] := by rw [List.filter_cons, if_neg (by simp; omega), filt_none hp]
        have f2 : (x :: l).filter (fun d => decide (c.at_ < d.at_)) = x :: l := by rw [List.filter_cons, if_pos (by simpa using h2), filt_all hp]
        unfold rwith bst
        simp only
        rw [f1, f2]
        simp
      · have hc : putC (x :: l) c = x :: putC l c := by
          unfold putC
          conv => lhs; unfold pgo
          rw [if_neg h1, if_neg (fun z => h2 z.2)]
          simp
        rw [hc, ih]
        have e := hb (rfind l c.at_) (fun y hy => hfat _ _ _ hy)
        unfold rwith
        rw [e, List.filter_cons, List.filter_cons, if_pos (by simp; omega), if_neg (by simp; omega)]
        rfl
theorem IsMerge.find {cs m : List Cel} (w : IsMerge cs m) (k : Int) : rfind m k = bestOf (atOf cs k) := by
  have hr : Rise m := w.up
  cases h : bestOf (atOf cs k) with
  | some x =>
    have hx := (atOf_mem.1 (bestOf_mem h)).2
    exact (hr.find k x).2 ⟨(w.mem x).2 (by rw [hx]; exact h), hx⟩
  | none =>
    cases h2 : rfind m k with
    | none => rfl
    | some x =>
      obtain ⟨h3, h4⟩ := (hr.find k x).1 h2
      have := (w.mem x).1 h3
      rw [h4, h] at this
      cases this
theorem IsMerge.nilC : IsMerge [] [] := ⟨fun c => ⟨fun h => (by cases h), fun h => (by cases h)⟩, List.Pairwise.nil⟩
theorem IsMerge.put {cs m : List Cel} (w : IsMerge cs m) (c : Cel) : IsMerge (cs ++ [c]) (putC m c) := by
  have hr : Rise m := w.up
  rw [putC_rise c hr, w.find]
  have hb : (bst (bestOf (atOf cs c.at_)) c).at_ = c.at_ := by
    unfold bst
    cases h : bestOf (atOf cs c.at_) with
    | none => rfl
    | some y => simp only; split; rfl; exact (atOf_mem.1 (bestOf_mem h)).2
  have hbf : bestF (bestOf (atOf cs c.at_)) c = some (bst (bestOf (atOf cs c.at_)) c) := by
    unfold bst bestF
    cases bestOf (atOf cs c.at_) with
    | none => rfl
    | some y => simp only; split <;> rfl
  refine ⟨fun d => ?_, hr.with _⟩
  rw [mem_rwith, hb, atOf_snoc]
  by_cases hd : c.at_ = d.at_
  · rw [if_pos hd, bestOf_snoc, ← hd, hbf]
    constructor
    · rintro (h | ⟨_, h⟩)
      · rw [h]
      · exact absurd rfl h
    · intro h
      exact .inl (Option.some.inj h).symm
  · rw [if_neg hd, ← w.mem]
    constructor
    · rintro (h | ⟨h, _⟩)
      · rw [h, hb] at hd; exact absurd rfl hd
      · exact h
    · exact fun h => .inr ⟨h, fun e => hd e.symm⟩
def mergeC (cs : List Cel) : List Cel := cs.foldl putC []
theorem mergeC_snoc (cs : List Cel) (c : Cel) : mergeC (cs ++ [c]) = putC (mergeC cs) c := by unfold mergeC; rw [List.foldl_append]; rfl
theorem mergeC_is (cs : List Cel) : IsMerge cs (mergeC cs) := by
  have : ∀ (b a m : List Cel), IsMerge a m → IsMerge (a ++ b) (b.foldl putC m) := by
    intro b
    induction b with
    | nil => intro a m w; rw [List.append_nil]; exact w
    | cons c b ih => intro a m w; rw [List.append_cons, List.foldl_cons]; exact ih _ _ (w.put c)
  exact this cs [] [] IsMerge.nilC
theorem putC_len {l : List Cel} (r : Rise l) (c : Cel) : (putC l c).length ≤ l.length + 1 := by rw [putC_rise c r]; exact rwith_len _ _
theorem mergeC_len (cs : List Cel) : (mergeC cs).length ≤ cs.length := by
  have : ∀ (b a m : List Cel), IsMerge a m → (b.foldl putC m).length ≤ m.length + b.length := by
    intro b
    induction b with
    | nil => exact fun a m w => Nat.le_refl _
    | cons c b ih =>
      intro a m w
      have h1 := ih _ _ (w.put c)
      have h2 := putC_len (show Rise m from w.up) c
      rw [List.foldl_cons, List.length_cons]
      omega
  have h := this cs [] [] IsMerge.nilC
  unfold mergeC
  simpa using h
end Go.Proofs.YtilgpaibolollaaGreat.Pk
namespace Go.Proofs.YtilgpaibolollaaGreat.Pk
open Go Go.Proofs Go.Proofs.YtilgpaibolollaaGreat.Ab
set_option maxRecDepth 10000
set_option linter.unusedVariables false
set_option linter.unusedSimpArgs false
theorem litCA (h : AHeap) (c : Cel) : aBuildSlice Tryz.prog 55 1 [(0, .agg (celE c))] h = some (.sl h.n 0 1 1, h.push (.cells (celE c) 48 none)) := by rw [buildSlice_go sl_55]; rfl
set_option maxHeartbeats 4000000 in
theorem pPut9 (l : List Cel) (c : Cel) (hl : l.length ≤ 2 ^ 30) (h : AHeap) : Pure Tryz.prog 104 [.imm l.length (l.flatMap celE), .agg (celE c)] h (.imm (putC l c).length ((putC l c).flatMap celE)) := by
  refine Pure.acc (e := 48) (sz := 3) (cels_clo _) (rows_len celE_len _) (by decide) ?_
  refine SCalls.enterI (c := _) Tryz.func104 rfl (by kernel_rfl) (by simp) ?_
  have hcc : ∀ c : Cel, (V.agg (celE c)).cells = some (celE c) := fun c => rfl
  have l0 : ∀ c : Cel, loadGo (some none) (some (celE c)) = some (.int .i64 c.at_) := fun c => rfl
  have l3 : ∀ c : Cel, loadGo (some (some 3)) (some (celE c)) = some (.agg (celE c)) := fun c => rfl
  have e1 : dropC (AObj.cells (celE c) 48 none) 1 = some [.int .i64 c.epoch, .imm c.bytes.length (bytesV c.bytes)] := rfl
  simp only [bW, hcc]
  have k0 : Keep h (h.push (.cells (celE c) 48 none)) none_ := Keep.push _ _ _
  have g0 : (h.push (.cells (celE c) 48 none)).get h.n = .cells (celE c) 48 none := get_push_new
  have n0 : (h.push (.cells (celE c) 48 none)).n = h.n + 1 := rfl
  generalize h.push (.cells (celE c) 48 none) = H at k0 g0 n0 ⊢
  refine SWp.loopG (α := Nat × List Cel × Bool × V) (fun x f h' => f 0 = .imm l.length (l.flatMap celE) ∧ f 3 = .ptr h.n 0 ∧ f 5 = x.2.2.2 ∧ f 6 = .bool x.2.2.1 ∧ f 7 = .int .i64 (x.1 : Nat) ∧ x.1 ≤ l.length ∧ x.2.1.length ≤ 2 * x.1 ∧ Acc H h' 48 3 x.2.2.2 (x.2.1.flatMap celE) ∧
    x.2.1 ++ (pgo c (l.drop x.1) x.2.2.1).1 = (pgo c l false).1 ∧ (pgo c (l.drop x.1) x.2.2.1).2 = (pgo c l false).2) (fun x => l.length - x.1) (0, [], false, .snil)
    ⟨rfl, rfl, rfl, rfl, rfl, Nat.zero_le _, Nat.le_refl _, Acc.nil (Keep.refl _ _), by simp, by simp⟩ ?_
  rintro ⟨i, out, d, v⟩ f h1 ⟨f0, f3, f5, f6, f7, hi, ho, a1, hw1, hw2⟩
  simp only at f5 f6 f7 hi ho a1 hw1 hw2
  have g1 := (a1.keep.get h.n (by omega) (fun h => h)).trans g0
  refine wpI_sound (by kernel_rfl) ?_
  by_cases hlt : i < l.length
  · have d1 : decide ((i : Int) < ((l.length : Nat) : Int)) = true := by simp; omega
    have hi1 : IntKind.i64.wrap ((i : Int) + 1) = ((i + 1 : Nat) : Int) := by rw [Go.IntWalk.i64_in _ (by omega)]; rfl
    have hx := cel_ixA hlt (kk := .i64)
    have lx0 : ∀ r : List V, loadGo (some none) (some (celE l[i] ++ r)) = some (.int .i64 l[i].at_) := fun r => rfl
    have lx3 : ∀ r : List V, loadGo (some (some 3)) (some (celE l[i] ++ r)) = some (.agg (celE l[i])) := fun r => rfl
    have hx1 : ∀ (c : Cel) (r : List V), (if 1 ≤ (celE c ++ r).length then some (V.at (List.drop 1 (celE c ++ r))) else none) = some (V.at (.int .i64 c.epoch :: .imm c.bytes.length (bytesV c.bytes) :: r)) := fun c r => if_pos (by simp [celE])
    have hdr : l.drop i = l[i] :: l.drop (i + 1) := List.drop_eq_getElem_cons hlt
    rw [hdr] at hw1 hw2
    simp only [bW, Nat.reduceEqDiff, reduceCtorEq, kt_55, f0, f7, d1]
    refine SWp.drawnS none_ [] (.q 0 (.q 1 (.q 2 (.q 3 (.q 4 (.q 5 (.q 6 (.q 7 .done)))))))) (by kernel_rfl) (by kernel_rfl) (by kernel_rfl) ?_
    by_cases heq : l[i].at_ = c.at_
    · have b1 : (l[i].at_ == c.at_) = true := by simpa using heq
      rw [pgo, if_pos heq] at hw1 hw2
      simp only at hw1 hw2
      simp only [bW, bS, Nat.reduceEqDiff, reduceCtorEq, ft_48_0, lt_3, f0, f3, f7, g1, l0, hx, lx0, b1]
      refine SWp.drawnS none_ [] (.q 0 (.q 1 (.q 2 (.q 3 (.q 4 (.q 5 (.q 6 (.q 7 .done)))))))) (by kernel_rfl) (by kernel_rfl) (by kernel_rfl) ?_
      by_cases hgt : l[i].epoch < c.epoch
      · have b2 : decide (l[i].epoch < c.epoch) = true := by simpa using hgt
        rw [if_pos hgt] at hw1
        obtain ⟨s2, h2, ea2, o2, kp2, dd2⟩ := append_elemM (P := Tryz.prog) sl_55 (by decide) a1.own (xs := celE c) rfl rfl (fun m hm => by
          change m * 3 = _ + 3 at hm
          rw [rows_len celE_len] at hm
          exact ⟨by simp only [lim]; (try simp only [List.length_append, List.length_cons, List.length_nil] at hm); omega, by simp only [lim]; (try simp only [List.length_append, List.length_cons, List.length_nil] at hm); omega⟩)
        have lit2 := litCA h1 (c)
        have a2 := a1.step o2 kp2 dd2
        simp only [bW, bS, Nat.reduceEqDiff, reduceCtorEq, ft_48_1, lt_3, lt_48, f0, f3, f5, f6, f7, g1, e1, hx, hx1, b2, l3, lit2, ea2, hi1]
        exact hid_mk ⟨(i + 1, out ++ [c], true, s2), ⟨f0, f3, rfl, rfl, rfl, hlt, by simp only [List.length_append, List.length_cons, List.length_nil]; omega, a2.conv (by rw [List.flatMap_append]; simp), by rw [← hw1]; simp, by rw [← hw2]⟩, by simp only; omega⟩
      · have b2 : decide (l[i].epoch < c.epoch) = false := by simpa using hgt
        rw [if_neg hgt] at hw1
        obtain ⟨s2, h2, ea2, o2, kp2, dd2⟩ := append_elemM (P := Tryz.prog) sl_55 (by decide) a1.own (xs := celE l[i]) rfl rfl (fun m hm => by
          change m * 3 = _ + 3 at hm
          rw [rows_len celE_len] at hm
          exact ⟨by simp only [lim]; (try simp only [List.length_append, List.length_cons, List.length_nil] at hm); omega, by simp only [lim]; (try simp only [List.length_append, List.length_cons, List.length_nil] at hm); omega⟩)
        have lit2 := litCA h1 (l[i])
        have a2 := a1.step o2 kp2 dd2
        simp only [bW, bS, Nat.reduceEqDiff, reduceCtorEq, ft_48_1, lt_3, lt_48, f0, f3, f5, f6, f7, g1, e1, hx, hx1, b2, lx3, lit2, ea2, hi1]
        exact hid_mk ⟨(i + 1, out ++ [l[i]], true, s2), ⟨f0, f3, rfl, rfl, rfl, hlt, by simp only [List.length_append, List.length_cons, List.length_nil]; omega, a2.conv (by rw [List.flatMap_append]; simp), by rw [← hw1]; simp, by rw [← hw2]⟩, by simp only; omega⟩
    · have b1 : (l[i].at_ == c.at_) = false := by simpa using heq
      rw [pgo, if_neg heq] at hw1 hw2
      simp only [bW, bS, Nat.reduceEqDiff, reduceCtorEq, ft_48_0, lt_3, f0, f3, f7, g1, l0, hx, lx0, b1]
      by_cases hb : d = false ∧ c.at_ < l[i].at_
      · obtain ⟨rfl, hb⟩ := hb
        rw [if_pos ⟨rfl, hb⟩] at hw1 hw2
        simp only at hw1 hw2
        have b2 : decide (c.at_ < l[i].at_) = true := by simpa using hb
        refine SWp.drawnS none_ [] (.q 0 (.q 1 (.q 2 (.q 3 (.q 4 (.q 5 (.q 6 (.q 7 (.q 8 (.q 9 (.q 10 (.q 11 .done)))))))))))) (by kernel_rfl) (by kernel_rfl) (by kernel_rfl) ?_
        obtain ⟨s2, h2, ea2, o2, kp2, dd2⟩ := append_elemM (P := Tryz.prog) sl_55 (by decide) a1.own (xs := celE c) rfl rfl (fun m hm => by
          change m * 3 = _ + 3 at hm
          rw [rows_len celE_len] at hm
          exact ⟨by simp only [lim]; (try simp only [List.length_append, List.length_cons, List.length_nil] at hm); omega, by simp only [lim]; (try simp only [List.length_append, List.length_cons, List.length_nil] at hm); omega⟩)
        have lit2 := litCA h1 (c)
        have a2 := a1.step o2 kp2 dd2
        have a3 := a2.conv (show _ = (out ++ [c]).flatMap celE by rw [List.flatMap_append]; simp)
        obtain ⟨s4, h4, ea4, o4, kp4, dd4⟩ := append_elemM (P := Tryz.prog) sl_55 (by decide) a3.own (xs := celE l[i]) rfl rfl (fun m hm => by
          change m * 3 = _ + 3 at hm
          rw [rows_len celE_len] at hm
          exact ⟨by simp only [lim]; (try simp only [List.length_append, List.length_cons, List.length_nil] at hm); omega, by simp only [lim]; (try simp only [List.length_append, List.length_cons, List.length_nil] at hm); omega⟩)
        have lit4 := litCA h2 (l[i])
        have a4 := a3.step o4 kp4 dd4
        simp only [bW, bS, Nat.reduceEqDiff, reduceCtorEq, ft_48_0, lt_3, lt_48, f0, f3, f5, f6, f7, g1, l0, hx, lx0, b2, l3, lx3, lit2, ea2, lit4, ea4, hi1]
        exact hid_mk ⟨(i + 1, out ++ [c] ++ [l[i]], true, s4), ⟨f0, f3, rfl, rfl, rfl, hlt, by simp only [List.length_append, List.length_cons, List.length_nil]; omega, a4.conv (by rw [List.flatMap_append]; simp), by rw [← hw1]; simp, by rw [← hw2]⟩, by simp only; omega⟩
      · rw [if_neg hb] at hw1 hw2
        simp only at hw1 hw2
        obtain ⟨s2, h2, ea2, o2, kp2, dd2⟩ := append_elemM (P := Tryz.prog) sl_55 (by decide) a1.own (xs := celE l[i]) rfl rfl (fun m hm => by
          change m * 3 = _ + 3 at hm
          rw [rows_len celE_len] at hm
          exact ⟨by simp only [lim]; (try simp only [List.length_append, List.length_cons, List.length_nil] at hm); omega, by simp only [lim]; (try simp only [List.length_append, List.length_cons, List.length_nil] at hm); omega⟩)
        have lit2 := litCA h1 (l[i])
        have a2 := a1.step o2 kp2 dd2
        refine SWp.drawnS none_ [] (.q 0 (.q 1 (.q 2 (.q 3 (.q 4 (.q 5 (.q 6 (.q 7 (.q 8 (.q 9 (.q 10 (.q 11 .done)))))))))))) (by kernel_rfl) (by kernel_rfl) (by kernel_rfl) ?_
        cases d with
        | true =>
          simp only [bW, bS, Nat.reduceEqDiff, reduceCtorEq, lt_48, f0, f5, f6, f7, hx, lx3, lit2, ea2, hi1]
          exact hid_mk ⟨(i + 1, out ++ [l[i]], true, s2), ⟨f0, f3, rfl, f6, rfl, hlt, by simp only [List.length_append, List.length_cons, List.length_nil]; omega, a2.conv (by rw [List.flatMap_append]; simp), by rw [← hw1]; simp, by rw [← hw2]⟩, by simp only; omega⟩
        | false =>
          have b2 : decide (c.at_ < l[i].at_) = false := by simp; exact Int.not_lt.1 fun z => hb ⟨rfl, z⟩
          simp only [bW, bS, Nat.reduceEqDiff, reduceCtorEq, ft_48_0, lt_3, lt_48, f0, f3, f5, f6, f7, g1, l0, hx, lx0, b2, lx3, lit2, ea2, hi1]
          exact hid_mk ⟨(i + 1, out ++ [l[i]], false, s2), ⟨f0, f3, rfl, f6, rfl, hlt, by simp only [List.length_append, List.length_cons, List.length_nil]; omega, a2.conv (by rw [List.flatMap_append]; simp), by rw [← hw1]; simp, by rw [← hw2]⟩, by simp only; omega⟩
  · have d1 : decide ((i : Int) < ((l.length : Nat) : Int)) = false := by simp; omega
    have hdr : l.drop i = [] := List.drop_of_length_le (by omega)
    rw [hdr] at hw1 hw2
    simp only [pgo, List.append_nil] at hw1 hw2
    have hfin : putC l c = out ++ (if d then [] else [c]) := by unfold putC; rw [← hw1, ← hw2]
    cases d with
    | true =>
      simp only [bW, Nat.reduceEqDiff, reduceCtorEq, kt_55, f0, f5, f6, f7, d1, retA_ret, Tryz.results104, resultsA_1]
      exact hid_mk (Acc.base k0 (a1.conv (by rw [hfin]; simp)))
    | false =>
      obtain ⟨s2, h2, ea2, o2, kp2, dd2⟩ := append_elemM (P := Tryz.prog) sl_55 (by decide) a1.own (xs := celE c) rfl rfl (fun m hm => by
        change m * 3 = _ + 3 at hm
        rw [rows_len celE_len] at hm
        exact ⟨by simp only [lim]; (try simp only [List.length_append, List.length_cons, List.length_nil] at hm); omega, by simp only [lim]; (try simp only [List.length_append, List.length_cons, List.length_nil] at hm); omega⟩)
      have lit2 := litCA h1 (c)
      have a2 := a1.step o2 kp2 dd2
      simp only [bW, Nat.reduceEqDiff, reduceCtorEq, kt_55, lt_48, f0, f3, f5, f6, f7, d1, g1, l3, lit2, ea2, retA_ret, Tryz.results104, resultsA_1]
      exact hid_mk (Acc.base k0 (a2.conv (by rw [hfin]; simp)))
end Go.Proofs.YtilgpaibolollaaGreat.Pk
namespace Go.Proofs.YtilgpaibolollaaGreat.Pk
open Go Go.Proofs Go.Proofs.YtilgpaibolollaaGreat.Ab
set_option maxRecDepth 10000
set_option linter.unusedVariables false
set_option linter.unusedSimpArgs false
theorem pPut9V {v : V} {l : List Cel} (hv : CelsV v l) (c : Cel) (hl : l.length ≤ 2 ^ 30) (h : AHeap) : Pure Tryz.prog 104 [v, .agg (celE c)] h (.imm (putC l c).length ((putC l c).flatMap celE)) :=
  Pure.args (CastL.cons (hv.cast h) (CastL.refl _ _)) (pPut9 l c hl h)
theorem flat_takeC {rows : List (List Cel)} {i : Nat} (hi : i < rows.length) : (rows.take (i + 1)).flatten = (rows.take i).flatten ++ rows[i] := by
  rw [List.take_succ_eq_append_getElem hi, List.flatten_append]
  simp
theorem flat_leC (rows : List (List Cel)) (i : Nat) : (rows.take i).flatten.length ≤ rows.flatten.length := by
  conv => rhs; rw [← List.take_append_drop i rows, List.flatten_append, List.length_append]
  omega
theorem pMerge9 (rows : List (List Cel)) (hr : rows.length ≤ 2 ^ 30) (hf : rows.flatten.length ≤ 2 ^ 29) (h : AHeap) :
    Pure Tryz.prog 73 [.imm rows.length (rows.flatMap rowE)] h (.imm (mergeC rows.flatten).length ((mergeC rows.flatten).flatMap celE)) := by
  refine Pure.of (Clo.imm (cels_clo _)) ?_
  refine SCalls.enterI (c := _) Tryz.func73 rfl (by kernel_rfl) (by simp) ?_
  simp only [bW]
  refine SWp.loopG (α := Nat × V) (fun x f h' => h' = h ∧ f 0 = .imm rows.length (rows.flatMap rowE) ∧ f 3 = x.2 ∧ f 4 = .int .i64 (x.1 : Nat) ∧ x.1 ≤ rows.length ∧ CelsV x.2 (mergeC (rows.take x.1).flatten)) (fun x => rows.length - x.1) (0, .snil)
    ⟨rfl, rfl, rfl, rfl, Nat.zero_le _, .inl ⟨rfl, rfl⟩⟩ ?_
  rintro ⟨i, v⟩ f h' ⟨rfl, f0, f3, f4, hi, hv⟩
  simp only at f3 f4 hi hv
  refine wpI_sound (by kernel_rfl) ?_
  by_cases hlt : i < rows.length
  · have d1 : decide ((i : Int) < ((rows.length : Nat) : Int)) = true := by simp; omega
    have hi1 : IntKind.i64.wrap ((i : Int) + 1) = ((i + 1 : Nat) : Int) := by rw [Go.IntWalk.i64_in _ (by omega)]; rfl
    have hrx := rws_ix hlt (kk := .i64)
    have hld := row_ld
    have hfl := flat_leC rows (i + 1)
    rw [flat_takeC hlt, List.length_append] at hfl
    simp only [bW, Nat.reduceEqDiff, reduceCtorEq, kt_134, f0, f4, d1]
    refine SWp.loopG (α := Nat × V) (fun x f h2 => h2 = h' ∧ f 0 = .imm rows.length (rows.flatMap rowE) ∧ f 3 = x.2 ∧ f 4 = .int .i64 (i : Nat) ∧ f 5 = .int .i64 (x.1 : Nat) ∧ x.1 ≤ rows[i].length ∧ CelsV x.2 (mergeC ((rows.take i).flatten ++ rows[i].take x.1))) (fun x => rows[i].length - x.1) (0, v)
      ⟨rfl, f0, f3, f4, rfl, Nat.zero_le _, by rw [List.take_zero, List.append_nil]; exact hv⟩ ?_
    clear f0 f3 f4 hv f
    rintro ⟨k, w⟩ f h2 ⟨rfl, f0, f3, f4, f5, hk, hw⟩
    simp only at f3 f5 hk hw
    refine wpI_sound (by kernel_rfl) ?_
    by_cases hlt2 : k < rows[i].length
    · have d2 : decide ((k : Int) < ((rows[i].length : Nat) : Int)) = true := by simp; omega
      have hk1 : IntKind.i64.wrap ((k : Int) + 1) = ((k + 1 : Nat) : Int) := by rw [Go.IntWalk.i64_in _ (by omega)]; rfl
      have hcx := cel_ixA hlt2 (kk := .i64)
      have l3 : ∀ (c : Cel) (r : List V), loadGo (some (some 3)) (some (celE c ++ r)) = some (.agg (celE c)) := fun c r => rfl
      have l3b : ∀ (c : Cel) (r : List V), (if 3 ≤ (celE c ++ r).length then some (V.agg (List.take 3 (celE c ++ r))) else none) = some (.agg (celE c)) := fun c r => if_pos (by simp [celE])
      have hml := mergeC_len ((rows.take i).flatten ++ rows[i].take k)
      rw [List.length_append, List.length_take] at hml
      simp only [bW, Nat.reduceEqDiff, reduceCtorEq, kt_55, lt_48, lt_55, f0, f3, f4, f5, hrx, hld, d2, hcx, l3]
      refine callI_pure cal104 (pPut9V hw rows[i][k] (by omega) _) ?_
      simp only [bW, Nat.reduceEqDiff, f5, hk1]
      exact hid_mk ⟨(k + 1, .imm (putC (mergeC ((rows.take i).flatten ++ rows[i].take k)) rows[i][k]).length ((putC (mergeC ((rows.take i).flatten ++ rows[i].take k)) rows[i][k]).flatMap celE)), ⟨rfl, f0, rfl, f4, rfl, hlt2, by
        rw [List.take_succ_eq_append_getElem hlt2, ← List.append_assoc, mergeC_snoc]
        exact .inr rfl⟩, by simp only; omega⟩
    · have d2 : decide ((k : Int) < ((rows[i].length : Nat) : Int)) = false := by simp; omega
      simp only [bW, Nat.reduceEqDiff, reduceCtorEq, kt_55, lt_55, f0, f3, f4, f5, hrx, hld, d2, hi1]
      rw [List.take_of_length_le (show rows[i].length ≤ k by omega), ← flat_takeC hlt] at hw
      exact hid_mk ⟨(i + 1, w), ⟨rfl, f0, f3, rfl, hlt, hw⟩, by simp only; omega⟩
  · have d1 : decide ((i : Int) < ((rows.length : Nat) : Int)) = false := by simp; omega
    rw [List.take_of_length_le (by omega)] at hv
    simp only [bW, Nat.reduceEqDiff, reduceCtorEq, kt_134, f0, f3, f4, d1, retA_ret, Tryz.results73, resultsA_1]
    exact hid_mk ⟨_, hv.cast _, Keep.refl _ _⟩
/-! ### Layer 10: reached, real -/
theorem pReached (l : List Bool) (i : Nat) (h : AHeap) : Pure Tryz.prog 69 [.imm l.length (boV l), .int .i64 (i : Nat)] h (.bool (rch l i)) := by
  refine Pure.val (Clo.bool _) ?_
  refine SCalls.enterI (c := _) Tryz.func69 rfl (by kernel_rfl) (by simp) ?_
  by_cases hlt : i < l.length
  · have d1 : decide ((i : Int) < ((l.length : Nat) : Int)) = true := by simp; omega
    have hx := bo_ix hlt
    have hb := bo_ld
    simp only [bW, Nat.reduceEqDiff, reduceCtorEq, kt_78, lt_4, d1, hx, hb, retA_ret, Tryz.results69, resultsA_1]
    exact hid_mk ⟨by rw [rch_lt hlt], Keep.refl _ _⟩
  · have d1 : decide ((i : Int) < ((l.length : Nat) : Int)) = false := by simp; omega
    simp only [bW, Nat.reduceEqDiff, reduceCtorEq, kt_78, d1, retA_ret, Tryz.results69, resultsA_1]
    exact hid_mk ⟨by rw [rch_ge (by omega)], Keep.refl _ _⟩
theorem pReal (l : List Cel) (hl : l.length ≤ 2 ^ 30) (h : AHeap) : Pure Tryz.prog 71 [.imm l.length (l.flatMap celE)] h (.imm l.length (l.flatMap celE)) := by
  refine Pure.acc (e := 48) (sz := 3) (cels_clo _) (rows_len celE_len _) (by decide) ?_
  refine SCalls.enterI (c := _) Tryz.func71 rfl (by kernel_rfl) (by simp) ?_
  simp only [bW]
  refine SWp.loopG (α := Nat × V) (fun x f h' => f 0 = .imm l.length (l.flatMap celE) ∧ f 3 = x.2 ∧ f 4 = .int .i64 (x.1 : Nat) ∧ x.1 ≤ l.length ∧ Acc h h' 48 3 x.2 ((l.take x.1).flatMap celE)) (fun x => l.length - x.1) (0, .snil)
    ⟨rfl, rfl, rfl, Nat.zero_le _, Acc.nil (Keep.refl _ _)⟩ ?_
  rintro ⟨i, v⟩ f h1 ⟨f0, f3, f4, hi, a1⟩
  simp only at f3 f4 hi a1
  refine wpI_sound (by kernel_rfl) ?_
  by_cases hlt : i < l.length
  · have d1 : decide ((i : Int) < ((l.length : Nat) : Int)) = true := by simp; omega
    have hi1 : IntKind.i64.wrap ((i : Int) + 1) = ((i + 1 : Nat) : Int) := by rw [Go.IntWalk.i64_in _ (by omega)]; rfl
    have hx := cel_ixR hlt (kk := .i64)
    have lx0 : ∀ r : List V, loadGo (some none) (some (celE l[i] ++ r)) = some (.int .i64 l[i].at_) := fun r => rfl
    have hx1 : ∀ (c : Cel) (r : List V), (if 1 ≤ (celE c ++ r).length then some (V.at (List.drop 1 (celE c ++ r))) else none) = some (V.at (.int .i64 c.epoch :: .imm c.bytes.length (bytesV c.bytes) :: r)) := fun c r => if_pos (by simp [celE])
    have hx2 : ∀ (c : Cel) (r : List V), (if 2 ≤ (celE c ++ r).length then some (V.at (List.drop 2 (celE c ++ r))) else none) = some (V.at (.imm c.bytes.length (bytesV c.bytes) :: r)) := fun c r => if_pos (by simp [celE])
    obtain ⟨s2, h2, ea2, o2, kp2, dd2⟩ := append_elemM (P := Tryz.prog) sl_55 (by decide) a1.own (xs := celE l[i]) rfl rfl (fun m hm => by
      change m * 3 = _ + 3 at hm
      rw [rows_len celE_len, List.length_take] at hm
      exact ⟨by simp only [lim]; omega, by simp only [lim]; omega⟩)
    have lit2 : aBuildSlice Tryz.prog 55 1 [(0, .agg [.int .i64 l[i].at_, .int .i64 l[i].epoch, .imm l[i].bytes.length (bytesV l[i].bytes)])] h1 = some (.sl h1.n 0 1 1, h1.push (.cells (celE l[i]) 48 none)) := litCA h1 l[i]
    have a2 := a1.step o2 kp2 dd2
    simp only [bW, Nat.reduceEqDiff, reduceCtorEq, kt_38, f0, f4, d1]
    refine SWp.drawnS none_ [17, 18] (.q 0 (.q 1 (.q 2 (.q 3 (.q 4 (.q 5 (.q 6 (.q 7 (.q 8 (.q 9 (.q 10 (.q 11 (.q 12 (.q 13 (.q 14 (.q 15 (.q 16 (.e 17 (.a 18 (.q 19 .done)) .stop)))))))))))))))))) (by kernel_rfl) (by kernel_rfl) (by kernel_rfl) ?_
    simp only [bW, bS, Nat.reduceEqDiff, Nat.reduceAdd, Nat.reduceLeDiff, reduceCtorEq, ft_51_0, ft_51_1, ft_51_2, lt_29, lt_3, pl_48, zc_48, f0, f3, f4, hx, hx1, hx2, lx0, lit2, ea2, hi1]
    exact hid_mk ⟨(i + 1, s2), ⟨f0, rfl, rfl, hlt, a2.conv (by rw [List.take_succ_eq_append_getElem hlt, List.flatMap_append]; simp)⟩, by simp only; omega⟩
  · have d1 : decide ((i : Int) < ((l.length : Nat) : Int)) = false := by simp; omega
    rw [List.take_of_length_le (by omega)] at a1
    simp only [bW, Nat.reduceEqDiff, reduceCtorEq, kt_38, f0, f3, f4, d1, retA_ret, Tryz.results71, resultsA_1]
    exact hid_mk a1
end Go.Proofs.YtilgpaibolollaaGreat.Pk
namespace Go.Proofs.YtilgpaibolollaaGreat.Pk
open Go Go.Proofs Go.Proofs.YtilgpaibolollaaGreat.Ab
set_option maxRecDepth 10000
set_option linter.unusedVariables false
set_option linter.unusedSimpArgs false
/-! ### An element of an own slice of structs; layer 10: with -/
theorem own_elemS {t e : TypeId} {sz : Nat} {kk : IntKind} (hs : slSz Tryz.prog t = some sz) (hpos : 0 < sz) {h : AHeap} {v : V} {cs : List V} (ho : Own h e sz v cs) {k : Nat} (hk : k * sz + sz ≤ cs.length) :
    ∃ i, aIndexAddr Tryz.prog t v (.int kk (k : Int)) = some (.ptr i (k * sz)) ∧ idOf v = some i ∧ (∃ r, dropC (h.get i) (k * sz) = some (cs.drop (k * sz) ++ r)) ∧
      ∀ xs : List V, xs.length = sz → xs.all (·.one) = true → ∃ ob, setC (some sz) (h.get i) (k * sz) xs = some ob ∧ Own (h.set i ob) e sz v (lay cs (k * sz) xs) ∧ Keep h (h.set i ob) (isId v) := by
  rcases ho with ⟨_, rfl⟩ | ⟨i, len, cap, c, ex, rfl, hi, hg, hlen, htake, hcap⟩
  · simp at hk; omega
  · have hcl : len * sz ≤ c.length := by
      have := congrArg List.length htake
      rw [List.length_take, hlen] at this
      omega
    have hkl : k < len := by
      apply Nat.lt_of_mul_lt_mul_right (a := sz)
      omega
    have hcut : c.drop (k * sz) = cs.drop (k * sz) ++ c.drop (len * sz) := by
      conv => lhs; rw [← List.take_append_drop (len * sz) c, htake]
      rw [List.drop_append_of_le_length (by omega)]
    refine ⟨i, ?_, rfl, ⟨c.drop (len * sz), ?_⟩, fun xs hx h1 => ?_⟩
    · rw [aIndexAddr_eq, hs, ixGo_sl, if_pos ⟨by omega, by omega⟩]
      simp
    · rw [hg, dropC_cells, if_pos (by omega), hcut]
    · refine ⟨.cells (lay c (k * sz) xs) e ex, ?_, .inr ⟨i, len, cap, lay c (k * sz) xs, ex, rfl, hi, by simp [AHeap.set], by rw [length_lay _ _ _ (by omega)]; exact hlen, ?_, ?_⟩, (Keep.set h i _).mono fun k hk => by subst hk; rfl⟩
      · rw [hg]
        show (if xs.length = sz ∧ xs.all (·.one) = true ∧ k * sz + sz ≤ c.length then _ else _) = _
        rw [if_pos ⟨hx, h1, by omega⟩]
      · rw [lay_take _ _ _ _ (by omega) hcl, htake]
      · rcases hcap with ⟨a, b, d⟩ | ⟨a, b⟩
        · exact .inl ⟨a, by rw [length_lay _ _ _ (by omega)]; exact b, d⟩
        · exact .inr ⟨a, b⟩
def ndsE (room : Int) (n : Nat) (nd : Nds) (ts : Nat → Int) : List V := (List.range n).flatMap fun q => yE room (nd q) (ts q)
theorem yE_len (room : Int) (l : Pays) (t : Int) : (yE room l t).length = 6 := rfl
theorem yE_clo (room : Int) (l : Pays) (t : Int) : CloL (yE room l t) := rnE_clo _ _ _ _ _
theorem yE_one (room : Int) (l : Pays) (t : Int) : (yE room l t).all (·.one) = true := rfl
theorem ndsE_len (room : Int) (n : Nat) (nd : Nds) (ts : Nat → Int) : (ndsE room n nd ts).length = n * 6 := by
  have := rows_len (enc := fun q => yE room (nd q) (ts q)) (sz := 6) (fun q => yE_len _ _ _) (List.range n)
  rw [List.length_range] at this
  exact this
theorem ndsE_clo (room : Int) (n : Nat) (nd : Nds) (ts : Nat → Int) : CloL (ndsE room n nd ts) := rows_clo (fun q => yE_clo _ _ _) _
theorem ndsE_one (room : Int) (n : Nat) (nd : Nds) (ts : Nat → Int) : (ndsE room n nd ts).all (·.one) = true := by
  unfold ndsE
  rw [List.all_flatMap, List.all_eq_true]
  exact fun q _ => yE_one _ _ _
theorem ndsE_snoc (room : Int) (n : Nat) (nd : Nds) (ts : Nat → Int) : ndsE room (n + 1) nd ts = ndsE room n nd ts ++ yE room (nd n) (ts n) := by
  unfold ndsE
  rw [List.range_succ, List.flatMap_append]
  simp
theorem ndsE_congr {room : Int} {n : Nat} {nd nd' : Nds} {ts ts' : Nat → Int} (h1 : ∀ q, q < n → nd q = nd' q) (h2 : ∀ q, q < n → ts q = ts' q) : ndsE room n nd ts = ndsE room n nd' ts' := by
  induction n with
  | zero => rfl
  | succ n ih => rw [ndsE_snoc, ndsE_snoc, ih (fun q hq => h1 q (by omega)) (fun q hq => h2 q (by omega)), h1 n (by omega), h2 n (by omega)]
theorem ndsE_drop (room : Int) (n : Nat) (nd : Nds) (ts : Nat → Int) {k : Nat} (hk : k < n) : ∃ r, (ndsE room n nd ts).drop (k * 6) = yE room (nd k) (ts k) ++ r := by
  induction n with
  | zero => omega
  | succ n ih =>
    rw [ndsE_snoc]
    by_cases e : k = n
    · subst e
      rw [← ndsE_len room k nd ts, List.drop_left]
      exact ⟨[], by rw [List.append_nil]⟩
    · obtain ⟨r, hr⟩ := ih (by omega)
      rw [List.drop_append_of_le_length (by rw [ndsE_len]; omega), hr]
      exact ⟨_, List.append_assoc _ _ _⟩
theorem ndsE_lay (room : Int) (n : Nat) (nd : Nds) (ts : Nat → Int) {k : Nat} (hk : k < n) (l : Pays) (t : Int) : lay (ndsE room n nd ts) (k * 6) (yE room l t) = ndsE room n (updN nd k l) (updN ts k t) := by
  induction n with
  | zero => omega
  | succ n ih =>
    have hl : ∀ a b c : List V, k * 6 + c.length ≤ a.length → lay (a ++ b) (k * 6) c = lay a (k * 6) c ++ b := fun a b c h => by
      unfold lay
      rw [List.take_append_of_le_length (by omega), List.drop_append_of_le_length h, List.append_assoc, List.append_assoc, List.append_assoc]
    rw [ndsE_snoc, ndsE_snoc]
    by_cases e : k = n
    · subst e
      rw [updN_same, updN_same, ndsE_congr (nd' := updN nd k l) (ts' := updN ts k t) (fun q hq => (updN_ne (by omega)).symm) (fun q hq => (updN_ne (by omega)).symm)]
      unfold lay
      rw [← ndsE_len room k (updN nd k l) (updN ts k t), List.take_left, List.drop_of_length_le (by rw [List.length_append, yE_len, yE_len]; omega), List.append_nil]
    · rw [hl _ _ _ (by rw [ndsE_len, yE_len]; omega), ih (by omega), updN_ne (by omega), updN_ne (by omega)]
theorem ndsE_ix (room : Int) {n : Nat} (nd : Nds) (ts : Nat → Int) {k : Nat} (hk : k < n) {kk : IntKind} : ∃ r, aIndexAddr Tryz.prog 72 (.imm n (ndsE room n nd ts)) (.int kk (k : Int)) = some (.at (yE room (nd k) (ts k) ++ r)) := by
  obtain ⟨r, hr⟩ := ndsE_drop room n nd ts hk
  refine ⟨r, ?_⟩
  rw [index_imm ss_72 (by omega) (by omega) (ndsE_len _ _ _ _), Int.toNat_natCast, hr]
def lgE (room : Int) (n : Nat) (nd : Nds) (ts : Nat → Int) (op : Bool) (ep : Int) (row : List (List Nat)) : List V := [.imm n (ndsE room n nd ts), .bool op, .int .i64 ep, .imm row.length (rowV row)]
theorem lgE_clo (room : Int) (n : Nat) (nd : Nds) (ts : Nat → Int) (op : Bool) (ep : Int) (row : List (List Nat)) : CloL (lgE room n nd ts op ep row) :=
  CloL.cons (Clo.imm (ndsE_clo _ _ _ _)) (CloL.cons (Clo.bool _) (CloL.cons (Clo.int _ _) (CloL.cons (Clo.imm (rowV_clo _)) CloL.nil)))
theorem accN0 (h : AHeap) (e : TypeId) (sz : Nat) : Acc h (h.push (.cells [] e none)) e sz (.sl h.n 0 0 0) [] :=
  ⟨Own.fresh' [] 0 (by simp) (by decide), Keep.push _ _ _, fun k hk => by simp [idOf] at hk; omega⟩
theorem appN0 (h : AHeap) : aBuildSlice Tryz.prog 72 0 [] h = some (.sl h.n 0 0 0, h.push (.cells [] 40 none)) := by rw [buildSlice_go sl_72]; rfl
theorem pWith10 (room : Int) (n : Nat) (nd : Nds) (ts : Nat → Int) (op : Bool) (ep : Int) (row : List (List Nat)) (hn : n ≤ 2 ^ 20) (k : Nat) (hk : k < n) (l : Pays) (t : Int) (h : AHeap) :
    Pure Tryz.prog 70 [.agg (lgE room n nd ts op ep row), .int .i64 (k : Nat), .agg (yE room l t)] h (.agg (lgE room n (updN nd k l) (updN ts k t) op ep row)) := by
  refine Pure.of (Clo.agg (lgE_clo _ _ _ _ _ _ _)) ?_
  refine SCalls.enterI (c := _) Tryz.func70 rfl (by kernel_rfl) (by simp) ?_
  have hcl : (V.agg (lgE room n nd ts op ep row)).cells = some (lgE room n nd ts op ep row) := rfl
  have hcy : (V.agg (yE room l t)).cells = some (yE room l t) := rfl
  simp only [bW, Nat.reduceEqDiff, zc_75, hcl, hcy]
  have k0 : Keep h (((h.push (.cells (lgE room n nd ts op ep row) 75 none)).push (.cells (yE room l t) 40 none)).push (.cells [.snil, .bool false, .int .i64 0, .snil] 75 none)) none_ := ((Keep.push _ _ _).trans (Keep.push _ _ _) (fun _ _ h => h)).trans (Keep.push _ _ _) (fun _ _ h => h)
  have gL : (((h.push (.cells (lgE room n nd ts op ep row) 75 none)).push (.cells (yE room l t) 40 none)).push (.cells [.snil, .bool false, .int .i64 0, .snil] 75 none)).get h.n = .cells (lgE room n nd ts op ep row) 75 none := get_p3 _ _ _ _
  have gY : (((h.push (.cells (lgE room n nd ts op ep row) 75 none)).push (.cells (yE room l t) 40 none)).push (.cells [.snil, .bool false, .int .i64 0, .snil] 75 none)).get (h.n + 1) = .cells (yE room l t) 40 none := get_p2 (h.push _) _ _
  have gZ : (((h.push (.cells (lgE room n nd ts op ep row) 75 none)).push (.cells (yE room l t) 40 none)).push (.cells [.snil, .bool false, .int .i64 0, .snil] 75 none)).get (h.n + 1 + 1) = .cells [.snil, .bool false, .int .i64 0, .snil] 75 none := get_push_new
  have n0 : (((h.push (.cells (lgE room n nd ts op ep row) 75 none)).push (.cells (yE room l t) 40 none)).push (.cells [.snil, .bool false, .int .i64 0, .snil] 75 none)).n = h.n + 3 := rfl
  generalize ((h.push (.cells (lgE room n nd ts op ep row) 75 none)).push (.cells (yE room l t) 40 none)).push (.cells [.snil, .bool false, .int .i64 0, .snil] 75 none) = H at k0 gL gY gZ n0 ⊢
  have lit := appN0 H
  obtain ⟨v1, h1, q1, a1⟩ := (accN0 H 40 6).appM (P := Tryz.prog) (tx := 72) (x := .imm n (ndsE room n nd ts)) (n := n) (news := ndsE room n nd ts) sl_72 (by decide) (imm_src kt_72 (ndsE_len _ _ _ _) (ndsE_one _ _ _ _)) (ndsE_len _ _ _ _) (fun m hm => by
    have hm' : m * 6 = 0 + (ndsE room n nd ts).length := hm
    rw [ndsE_len] at hm'
    exact ⟨by show m * 96 ≤ lim; simp only [lim]; omega, by simp only [lim]; omega⟩)
  rw [List.nil_append] at a1
  have n1 := a1.keep.n
  obtain ⟨v1c, v1o⟩ := one_of_own a1.own
  have nw : ∀ j, idOf v1 = some j → h.n + 3 ≤ j := fun j hj => by have := a1.new j hj; omega
  have gL1 := (a1.keep.get h.n (by omega) (fun h => h)).trans gL
  have gY1 := (a1.keep.get (h.n + 1) (by omega) (fun h => h)).trans gY
  have gZ1 := (a1.keep.get (h.n + 1 + 1) (by omega) (fun h => h)).trans gZ
  have kk1 : Keep h h1 none_ := k0.trans' a1.keep
  generalize hH : h1.set h.n (.cells [v1, .bool op, .int .i64 ep, .imm row.length (rowV row)] 75 none) = H2
  have gL2 : H2.get h.n = .cells [v1, .bool op, .int .i64 ep, .imm row.length (rowV row)] 75 none := by rw [← hH, get_set_same]
  have gY2 : H2.get (h.n + 1) = .cells (yE room l t) 40 none := by rw [← hH, get_set_ne (by omega)]; exact gY1
  have gZ2 : H2.get (h.n + 1 + 1) = .cells [.snil, .bool false, .int .i64 0, .snil] 75 none := by rw [← hH, get_set_ne (by omega)]; exact gZ1
  have o2 : Own H2 40 6 v1 (ndsE room n nd ts) := by rw [← hH]; exact a1.own.keep (Keep.set _ _ _) fun j hj => by have := nw j hj; omega
  have k2 : Keep h H2 none_ := by rw [← hH]; exact kk1.setNew (Nat.le_refl _) _
  obtain ⟨bi, y0, hb0, ⟨r0, z0⟩, yy⟩ := own_elemS (kk := .i64) (t := 72) ss_72 (by decide) o2 (k := k) (by rw [ndsE_len]; omega)
  obtain ⟨ob, y1, y2, y3⟩ := yy (yE room l t) rfl (yE_one _ _ _)
  rw [ndsE_lay room n nd ts hk] at y2
  have hbi := nw bi hb0
  have gL3 : (H2.set bi ob).get h.n = .cells [v1, .bool op, .int .i64 ep, .imm row.length (rowV row)] 75 none := by rw [get_set_ne (by omega)]; exact gL2
  have gZ3 : (H2.set bi ob).get (h.n + 1 + 1) = .cells [.snil, .bool false, .int .i64 0, .snil] 75 none := by rw [get_set_ne (by omega)]; exact gZ2
  have k3 : Keep h (H2.set bi ob) none_ := k2.setNew (by omega) _
  have l6 : loadGo (some (some 6)) (some (yE room l t)) = some (.agg (yE room l t)) := rfl
  have hset : setC (some 4) (AObj.cells [.snil, .bool false, .int .i64 0, .snil] 75 none) 0 [v1, .bool op, .int .i64 ep, .imm row.length (rowV row)] = some (.cells [v1, .bool op, .int .i64 ep, .imm row.length (rowV row)] 75 none) := by
    rw [setC_row (n := 4) rfl (by simp [v1o]; exact ⟨rfl, rfl, rfl⟩), if_pos (by decide)]; rfl
  unfold lgE at gL1 gL
  have gLp := fun o => (get_push_lt (h := H) (o := o) (show h.n < H.n by omega)).trans gL
  simp only [bW, Nat.reduceEqDiff, Nat.reduceAdd, Nat.reduceLeDiff, ft_75_0, lt_40, lt_72, lt_75, zt_40, zt_72, zt_75, hcy, lgE, lit, gLp, gL1, q1, v1c, v1o, hH, gL2, gY2, l6, y0, y1, gL3, gZ3, hset, retA_ret, Tryz.results70, resultsC_1, resultA_cell]
  obtain ⟨h3, c, k⟩ := Acc.cast (h0 := h) (h := (H2.set bi ob).set (h.n + 1 + 1) (.cells [v1, .bool op, .int .i64 ep, .imm row.length (rowV row)] 75 none)) ⟨y2.keep (Keep.set _ _ _) fun j hj hh => by have := nw j hj; omega, k3.setNew (by omega) _, fun j hj => by have := nw j hj; omega⟩ (n := n) (ndsE_len _ _ _ _) (by decide)
  exact hid_mk ⟨h3, Pk.Cast.agg (CastL.cons c (CastL.refl _ _)), k⟩
end Go.Proofs.YtilgpaibolollaaGreat.Pk
