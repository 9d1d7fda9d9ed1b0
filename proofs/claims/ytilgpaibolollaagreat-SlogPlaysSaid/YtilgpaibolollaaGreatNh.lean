/-
  What functions of the program do, told of abstract states. Conditions: as each theorem says.
-/
import Derived.Test.YtilgpaibolollaaGreatNg
namespace Go.Proofs.YtilgpaibolollaaGreat.Pk
open Go Go.Proofs Go.Proofs.YtilgpaibolollaaGreat.Ab
set_option maxRecDepth 10000
set_option linter.unusedVariables false
set_option linter.unusedSimpArgs false
def boE (b : Bool) : List V := [.bool b]
def boV (l : List Bool) : List V := l.flatMap boE
def rch (l : List Bool) (q : Nat) : Bool := l.getD q false
theorem rch_lt {l : List Bool} {q : Nat} (h : q < l.length) : rch l q = l[q] := by unfold rch; rw [List.getD_eq_getElem?_getD, List.getElem?_eq_getElem h]; rfl
theorem rch_ge {l : List Bool} {q : Nat} (h : l.length ≤ q) : rch l q = false := by unfold rch; rw [List.getD_eq_getElem?_getD, List.getElem?_eq_none h]; rfl
theorem bo_ix {l : List Bool} {k : Nat} (hk : k < l.length) : aIndexAddr Tryz.prog 78 (.imm l.length (boV l)) (.int .i64 (k : Int)) = some (.at (boE l[k] ++ (l.drop (k + 1)).flatMap boE)) := rows_ix (enc := boE) (sz := 1) (fun _ => rfl) hk ss_78
theorem bo_ld (b : Bool) (r : List V) : loadGo (some none) (some (boE b ++ r)) = some (.bool b) := rfl
/-- Who is reached: a row that is read alone, or one that belongs to no log. -/
structure RVal (h : AHeap) (ow : Nat → Nat) (rv : V) (l : List Bool) : Prop where
  v : rv = .imm l.length (boV l) ∨ Own h 4 1 rv (boV l)
  ow : ∀ x, idOf rv = some x → ow x = 0
theorem boV_len (l : List Bool) : (boV l).length = l.length := by
  have := rows_len (enc := boE) (sz := 1) (fun _ => rfl) l
  rwa [Nat.mul_one] at this
theorem boV_get {l : List Bool} {i : Nat} (h : i < (boV l).length) (h2 : i < l.length) : (boV l)[i] = .bool l[i] := by
  have e : boV l = l.map V.bool := by
    unfold boV boE
    clear h h2
    induction l with
    | nil => rfl
    | cons b l ih => simp [ih]
  simp only [e, List.getElem_map]
theorem RVal.len {h : AHeap} {ow : Nat → Nat} {rv : V} {l : List Bool} (r : RVal h ow rv l) : aLen Tryz.prog 78 rv h = some (.int .i64 (l.length : Nat)) := by
  rcases r.v with e | o
  · rw [e]; exact aLen_imm kt_78
  · have := o.length (by decide) Tryz.prog (t := 78) kt_78
    rw [Nat.div_one, boV_len] at this
    exact this
theorem RVal.ix {h : AHeap} {ow : Nat → Nat} {rv : V} {l : List Bool} (r : RVal h ow rv l) {i : Nat} (hi : i < l.length) : ∃ p rr, aIndexAddr Tryz.prog 78 rv (.int .i64 (i : Int)) = some p ∧ aPlace h p = some (V.bool l[i] :: rr) := by
  rcases r.v with e | o
  · rw [e]; exact ⟨_, _, bo_ix hi, rfl⟩
  · have hk' : i < (boV l).length := by rw [boV_len]; exact hi
    obtain ⟨j, x1, x2, ⟨rr, x3⟩, _⟩ := own_elem (P := Tryz.prog) (t := 78) (kk := .i64) ss_78 o (k := i) hk'
    rw [boV_get hk' hi] at x3
    exact ⟨_, rr, x1, by rw [aPlace_ptr]; exact x3⟩
theorem RVal.on {h h' : AHeap} {ow ow' : Nat → Nat} {rv : V} {l : List Bool} (r : RVal h ow rv l) {own : Nat → Prop} (k : Keep h h' own) (hn : ∀ x, x < h.n → ow x = 0 → ¬ own x) (ho : ∀ x, x < h.n → ow x = 0 → ow' x = 0) : RVal h' ow' rv l := by
  rcases r.v with e | o
  · exact ⟨.inl e, fun x hx => by rw [e] at hx; cases hx⟩
  · exact ⟨.inr (o.keep k fun x hx => hn x (o.lt x hx) (r.ow x hx)), fun x hx => ho x (o.lt x hx) (r.ow x hx)⟩
theorem RVal.imm (h : AHeap) (ow : Nat → Nat) (l : List Bool) : RVal h ow (.imm l.length (boV l)) l := ⟨.inl rfl, fun x hx => by cases hx⟩
set_option maxHeartbeats 2000000 in
set_option maxRecDepth 20000 in
theorem quorumW {h : AHeap} {room : Int} {n : Nat} {rs : Nat → NR} {nd : Nds} {ow : Nat → Nat} (w : NodesS h room n rs nd ow) {L c1 c2 c3 : Nat} {dv nv pv op : V} {ep at_ : Int} {b : List Nat} (hb : ∀ n ∈ b, n < 256) (hbl : b.length ≤ 2 ^ 40)
    (gL : h.get L = .cells [dv, nv, op, .int .i64 ep, pv] 129 none) (g1 : h.get c1 = .cells [.ptr L 0] 69 none) (g2 : h.get c2 = .cells [.int .i64 at_] 3 none) (g3 : h.get c3 = .cells [.imm b.length (bytesV b)] 29 none)
    (lL : L < h.n ∧ ow L < 5) (l1 : c1 < h.n ∧ ow c1 < 5) (l2 : c2 < h.n ∧ ow c2 < 5) (l3 : c3 < h.n ∧ ow c3 < 5) (nk : Own h 34 1 nv (ptrs (fun q => (rs q).a) n)) (onv : ∀ x, idOf nv = some x → ow x < 5) (hn : n ≤ 2 ^ 30) (reach : List Bool) {rv : V} (rvl : RVal h ow rv reach) (hr : reach.length ≤ 2 ^ 47) :
    SCalls Tryz.prog 97 [.ptr L 0, rv, .func (.func 98) [] [.ptr c1 0, .ptr c2 0, .ptr c3 0]] h (fun x h' => x = .bool (wrL room n ep at_ b (rch reach) nd).2 ∧
      ∃ rs' ow', NodesS h' room n rs' (wrL room n ep at_ b (rch reach) nd).1 ow' ∧ Same h h' n rs rs' ow ow') := by
  have hx0 : ow h.n = 0 := by
    cases hq : ow h.n with
    | zero => rfl
    | succ k => have := w.old h.n (by omega); omega
  have kP : Keep h (h.push (.cells [.int .i64 0] 198 none)) none_ := Keep.push _ _ _
  have gN : h.get L = .cells [dv, nv, op, .int .i64 ep, pv] 129 none := gL
  have d1' : dropC (AObj.cells [dv, nv, op, .int .i64 ep, pv] 129 none) 1 = some [nv, op, .int .i64 ep, pv] := rfl
  have gLP : (h.push (.cells [.int .i64 0] 198 none)).get L = .cells [dv, nv, op, .int .i64 ep, pv] 129 none := (get_push_lt lL.1).trans gL
  have hlen : ∀ {h1 : AHeap} {rs1 : Nat → NR}, Own h1 34 1 nv (ptrs (fun q => (rs1 q).a) n) → aLen Tryz.prog 127 nv h1 = some (.int .i64 (n : Nat)) := fun {h1 rs1} o => by
    have := o.length (by decide) Tryz.prog (t := 127) kt_127
    rw [ptrs_len, Nat.div_one] at this
    exact this
  have oP := nk.keepN kP
  have lenP := hlen oP
  refine SCalls.enterI (c := _) Tryz.func97 rfl (by kernel_rfl) (by simp) ?_
  simp only [bW, Nat.reduceEqDiff, reduceCtorEq, ft_129_1, lt_127, zc_198, gLP, d1', lenP]
  refine SWp.loopG (α := Nat × (Nat → NR) × (Nat → Nat)) (fun x f h1 => f 0 = .ptr L 0 ∧ f 1 = rv ∧ f 2 = .func (.func 98) [] [.ptr c1 0, .ptr c2 0, .ptr c3 0] ∧ f 7 = .ptr h.n 0 ∧ f 13 = nv ∧ f 14 = .int .i64 (n : Nat) ∧ f 15 = .int .i64 (x.1 : Nat) ∧ x.1 ≤ n ∧
      NodesS h1 room n x.2.1 (allN (nw room ep at_ b) (rch reach) x.1 nd) x.2.2 ∧ Same h h1 n rs x.2.1 ow x.2.2 ∧ h1.get h.n = .cells [.int .i64 (cntN (fineN (nw room ep at_ b) (rch reach) nd) x.1 : Nat)] 198 none ∧ x.2.2 h.n = 0 ∧ h.n < h1.n) (fun x => n - x.1) (0, rs, ow)
    ⟨rfl, rfl, rfl, rfl, rfl, rfl, rfl, Nat.zero_le _, (by rw [allN_zero]; exact w.on kP (fun x hx => hx.elim)), (Same.refl h n rs ow).on kP (fun x _ hx => hx), get_push_new, hx0, Nat.lt_succ_self _⟩ ?_
  rintro ⟨i, rs1, ow1⟩ f h1 ⟨f0, f1, f2, f7, f13, f14, f15, hi, w1, s1, gc, o1, n1⟩
  simp only at f15 hi w1 s1 gc o1
  have keepc : ∀ x, x < h.n → ow x < 5 → h1.get x = h.get x := fun x hx ho => s1.keep.get x hx (by omega)
  have gL1 := (keepc L lL.1 lL.2).trans gL
  have nk1 : Own h1 34 1 nv (ptrs (fun q => (rs1 q).a) n) := by
    rw [ptrs_congr (f := fun q => (rs1 q).a) (g := fun q => (rs q).a) fun q hq => s1.a q hq]
    exact nk.keep s1.keep fun x hx hh => by have := onv x hx; omega
  have rv1 := rvl.on (ow' := ow1) s1.keep (fun x hx h0 => by rw [h0]; decide) (fun x hx h0 => (s1.ow x hx).trans h0)
  have rlen := rv1.len
  refine wpI_sound (by kernel_rfl) ?_
  by_cases hlt : i < n
  · have c1' : decide ((i : Int) < ((n : Nat) : Int)) = true := decide_eq_true (by omega)
    obtain ⟨j, q, x1, x2, x3⟩ := own_ptr (t := 127) ss_127 nk1 hlt
    have hw : IntKind.i64.wrap ((i : Int) + 1) = ((i + 1 : Nat) : Int) := by rw [Go.IntWalk.i64_in _ (by omega)]; rfl
    have hsucc := allN_succ (nw room ep at_ b) (rch reach) i nd
    by_cases hlr : i < reach.length
    · have c2' : decide ((i : Int) < ((reach.length : Nat) : Int)) = true := decide_eq_true (by omega)
      obtain ⟨rp, rr, y1, yl⟩ := rv1.ix hlr
      have hri := rch_lt hlr
      cases hb2 : reach[i] with
      | false =>
        rw [hb2] at yl hri
        have e1 : allN (nw room ep at_ b) (rch reach) (i + 1) nd = allN (nw room ep at_ b) (rch reach) i nd := by rw [hsucc, if_neg (by rw [hri]; decide)]
        have e2 : cntN (fineN (nw room ep at_ b) (rch reach) nd) (i + 1) = cntN (fineN (nw room ep at_ b) (rch reach) nd) i := by
          show _ + _ = _
          rw [if_neg (by unfold fineN; rw [hri]; simp)]
          rfl
        simp only [bW, Nat.reduceEqDiff, lt_34, lt_4, f1, f13, f14, f15, c1', rlen, c2', x1, x3, y1, yl, hw]
        exact hid_mk ⟨(i + 1, rs1, ow1), ⟨f0, f1, f2, f7, f13, f14, rfl, hlt, by rw [e1]; exact w1, s1, by rw [e2]; exact gc, o1, n1⟩, by simp only; omega⟩
      | true =>
        rw [hb2] at yl hri
        have d0 := w1.nd i hlt
        rw [allN_at] at d0
        have tagc : ∀ x, x < h.n → ow x < 5 → ¬ NP (rs1 i) x := fun x hx ho hh => by have := w1.ond i hlt x hh; have := s1.ow x hx; omega
        simp only [bW, Nat.reduceEqDiff, lt_34, lt_4, f1, f2, f13, f14, f15, c1', rlen, c2', x1, x3, y1, yl]
        refine callI_of cal98 (wClo d0 hb hbl gL1 ((keepc c1 l1.1 l1.2).trans g1) ((keepc c2 l2.1 l2.2).trans g2) ((keepc c3 l3.1 l3.2).trans g3) (tagc L lL.1 lL.2) (tagc c1 l1.1 l1.2) (tagc c2 l2.1 l2.2) (tagc c3 l3.1 l3.2)) fun x h2 ⟨ex, r', d', st⟩ => ?_
        subst ex
        obtain ⟨st1, st2, st3, st4⟩ := st
        obtain ⟨w2, k2⟩ := w1.step hlt d' st3 st4
        have e1 : allN (nw room ep at_ b) (rch reach) (i + 1) nd = updN (allN (nw room ep at_ b) (rch reach) i nd) i (nw room ep at_ b (nd i)).1 := by rw [hsucc, if_pos hri]; rfl
        rw [← e1] at w2
        have s2 : Same h h2 n rs (updN rs1 i r') ow (owN ow1 h1.n (NP r') (i + 5)) := s1.trans ⟨k2, fun q hq => by
            by_cases e : q = i
            · subst e; rw [updN_same]; exact st1
            · rw [updN_ne e], fun q hq => by
            by_cases e : q = i
            · subst e; rw [updN_same]; exact st2
            · rw [updN_ne e], fun x hx => owN_lt hx⟩
        have gc2 := (k2.get h.n n1 (by rw [o1]; omega)).trans gc
        have n2 := k2.n
        have o2 : owN ow1 h1.n (NP r') (i + 5) h.n = 0 := by rw [owN_lt n1]; exact o1
        by_cases hz : (nw room ep at_ b (nd i)).2 = 0
        · have e2 : cntN (fineN (nw room ep at_ b) (rch reach) nd) (i + 1) = cntN (fineN (nw room ep at_ b) (rch reach) nd) i + 1 := by
            show _ + _ = _
            rw [if_pos (by unfold fineN; rw [hri, hz]; rfl)]
          have cle := cntN_le (fineN (nw room ep at_ b) (rch reach) nd) i
          have hcw : IntKind.i64.wrap (((cntN (fineN (nw room ep at_ b) (rch reach) nd) i : Nat) : Int) + 1) = ((cntN (fineN (nw room ep at_ b) (rch reach) nd) (i + 1) : Nat) : Int) := by
            rw [e2, Go.IntWalk.i64_in _ (by omega)]; rfl
          have z1 : ((0 : Int) == 0) = true := rfl
          rw [hz]
          simp only [bW, Nat.reduceEqDiff, f7]
          refine callI_of cal118 (tAdd h2 h.n _ 1 gc2) fun x h3 ⟨ex, eh⟩ => ?_
          subst ex; subst eh
          rw [hcw]
          have kS : ∀ o, Keep h2 (h2.set h.n o) (· = h.n) := fun o => Keep.set _ _ _
          simp only [bW, Nat.reduceEqDiff, f15, hw]
          exact hid_mk ⟨(i + 1, updN rs1 i r', owN ow1 h1.n (NP r') (i + 5)), ⟨f0, f1, f2, f7, f13, f14, rfl, hlt, w2.on (kS _) (fun x hx => by subst hx; rw [o2]; omega), s2.on (kS _) (fun x hx hh => by omega), get_set_same, o2, by simp only [set_n]; omega⟩, by simp only; omega⟩
        · have e2 : cntN (fineN (nw room ep at_ b) (rch reach) nd) (i + 1) = cntN (fineN (nw room ep at_ b) (rch reach) nd) i := by
            show _ + _ = _
            rw [if_neg (by unfold fineN; simp [hz])]
            rfl
          have z1 : ((nw room ep at_ b (nd i)).2 == 0) = false := by simp [hz]
          simp only [bW, Nat.reduceEqDiff, f15, z1, hw]
          exact hid_mk ⟨(i + 1, updN rs1 i r', owN ow1 h1.n (NP r') (i + 5)), ⟨f0, f1, f2, f7, f13, f14, rfl, hlt, w2, s2, by rw [e2]; exact gc2, o2, by omega⟩, by simp only; omega⟩
    · have c2' : decide ((i : Int) < ((reach.length : Nat) : Int)) = false := decide_eq_false (by omega)
      have hri := rch_ge (l := reach) (q := i) (by omega)
      have e1 : allN (nw room ep at_ b) (rch reach) (i + 1) nd = allN (nw room ep at_ b) (rch reach) i nd := by rw [hsucc, if_neg (by rw [hri]; decide)]
      have e2 : cntN (fineN (nw room ep at_ b) (rch reach) nd) (i + 1) = cntN (fineN (nw room ep at_ b) (rch reach) nd) i := by
        show _ + _ = _
        rw [if_neg (by unfold fineN; rw [hri]; simp)]
        rfl
      simp only [bW, Nat.reduceEqDiff, lt_34, f1, f13, f14, f15, c1', rlen, c2', x1, x3, hw]
      exact hid_mk ⟨(i + 1, rs1, ow1), ⟨f0, f1, f2, f7, f13, f14, rfl, hlt, by rw [e1]; exact w1, s1, by rw [e2]; exact gc, o1, n1⟩, by simp only; omega⟩
  · have c1' : decide ((i : Int) < ((n : Nat) : Int)) = false := decide_eq_false (by omega)
    have hin : i = n := by omega
    subst hin
    have len1 := hlen nk1
    have fin : decide (((i : Nat) : Int) / 2 + 1 ≤ ((cntN (fineN (nw room ep at_ b) (rch reach) nd) i : Nat) : Int)) = (wrL room i ep at_ b (rch reach) nd).2 := by
      unfold wrL
      rw [Bool.eq_iff_iff, decide_eq_true_iff, decide_eq_true_iff]
      omega
    simp only [bW, f14, f15, c1']
    refine SWp.drawnS none_ [] (.c 0 (.q 1 (.q 2 (.q 3 (.q 4 (.q 5 (.c 6 (.q 7 (.q 8 .done))))))))) (by kernel_rfl) (by kernel_rfl) (by kernel_rfl) ?_
    refine siI_c (v := .int .i64 (cntN (fineN (nw room ep at_ b) (rch reach) nd) i : Nat)) rfl rfl rfl (fun h' hk => ?_) ?_
    · show Ab.Pure Tryz.prog 119 [f 7] h' _
      rw [f7]
      refine tLoad64 h' h.n _ ?_
      rcases hk with hk | hk
      · exact (hk.get h.n n1 (fun hh => hh)).trans gc
      · rw [hk]; exact gc
    simp only [bW, bS, Nat.reduceEqDiff, reduceCtorEq, ft_129_1, lt_127, f0, gL1, d1', len1]
    refine siI_c rfl rfl rfl (fun h' _ => pNeed (i : Int) (by omega) (by omega) h') ?_
    simp only [bW, bS, Nat.reduceEqDiff, fin, retA_ret, Tryz.results97, resultsA_1]
    exact hid_mk ⟨rfl, rs1, ow1, w1, s1⟩
end Go.Proofs.YtilgpaibolollaaGreat.Pk
namespace Go.Proofs.YtilgpaibolollaaGreat.Pk
open Go Go.Proofs Go.Proofs.YtilgpaibolollaaGreat.Ab
set_option maxRecDepth 10000
set_option linter.unusedVariables false
set_option linter.unusedSimpArgs false
/-! ### What is told of a sealed node -/
theorem atOf_map : ∀ {es : Ces}, KNodup es → (∀ e ∈ es, e.2.2.at_ = e.2.1) → ∀ k, atOf (es.map (·.2.2)) k = (kget es k).toList
  | [], _, _, k => rfl
  | e :: es, hn, ha, k => by
    have hn' := List.nodup_cons.1 hn
    have ih := atOf_map (es := es) hn'.2 (fun x hx => ha x (by simp [hx])) k
    have h0 := ha e (by simp)
    unfold atOf at ih ⊢
    rw [List.map_cons, List.filter_cons]
    unfold kget
    by_cases hk : k = e.2.1
    · rw [if_pos (by rw [h0, hk]; simp), if_pos hk, ih]
      have : kget es k = none := kget_none.2 fun x hx hh => hn'.1 (List.mem_map.2 ⟨x, hx, by rw [hh, hk]⟩)
      rw [this]; rfl
    · rw [if_neg (by rw [h0]; simpa using fun h => hk h.symm), if_neg hk, ih]
theorem atOf_cells {l : Pays} (w : NOk (redoL l)) {out : List Cel} (p : out.Perm ((redoL l).2.1.map (·.2.2))) (k : Int) : atOf out k = (cellAt l k).toList := by
  have h1 : (atOf out k).Perm (atOf ((redoL l).2.1.map (·.2.2)) k) := by unfold atOf; exact p.filter _
  rw [atOf_map w.nd (fun e he => (w.sm e he).2.2.2.2)] at h1
  show _ = (kget (redoL l).2.1 k).toList
  cases hg : kget (redoL l).2.1 k with
  | none => rw [hg] at h1; exact h1.eq_nil
  | some c => rw [hg] at h1; exact List.perm_singleton.1 h1
theorem cells_small {l : Pays} (w : NOk (redoL l)) {out : List Cel} (p : out.Perm ((redoL l).2.1.map (·.2.2))) : ∀ c ∈ out, (c.bytes.length ≤ 2048 ∧ ∀ x ∈ c.bytes, x < 256) ∧ 0 ≤ c.at_ ∧ c.at_ < 4096 := fun c hc => by
  obtain ⟨e, he, rfl⟩ := List.mem_map.1 (p.mem_iff.1 hc)
  obtain ⟨s1, s2, s3, s4, s5⟩ := w.sm e he
  rw [s5]
  exact ⟨⟨s1, s2⟩, s3, s4⟩
theorem cells_len {h : AHeap} {room : Int} {r : NR} {l : Pays} (d : NdB h room r l) {out : List Cel} (p : out.Perm ((redoL l).2.1.map (·.2.2))) : out.length ≤ 1048576 := by
  have h1 := p.length_eq
  rw [List.length_map] at h1
  have h2 := redoL_len l (0, [], 0)
  have h3 := d.nd0.len
  unfold redoL at h1
  simp only [List.length_nil] at h2
  omega
/-- Seal, its answer being read alone. -/
theorem nbSealI {h : AHeap} {room : Int} {r : NR} {l : Pays} (d : NdB h room r l) (ep : Int) :
    SCalls Tryz.prog 15 [.ptr r.a 0, .int .i64 ep] h (fun x h' => ∃ out : List Cel, x = .tuple [.imm out.length (out.flatMap celE), .int .i64 (nseal room ep l).2] ∧ ((nseal room ep l).2 = 0 → out.Perm ((redoL l).2.1.map (·.2.2))) ∧ ∃ r', NdB h' room r' (nseal room ep l).1 ∧ NStep h h' r r') := by
  refine SCalls.cast ((nbSeal d ep).mono fun x h' ⟨rv, e, hs, r', d', st, hz⟩ => ?_)
  subst e
  by_cases h0 : (nseal room ep l).2 = 0
  · obtain ⟨out, o1, o2, o3, o4⟩ := hz h0
    obtain ⟨h2, c, k⟩ := Cast.own o3 (n := out.length) (rows_len celE_len _) (by decide)
    have hne : ∀ q, NP r' q → ¬ isId rv q := fun q hq hh => (o4 q hh).2 hq
    obtain ⟨s1, s2, s3, s4⟩ := st
    exact ⟨_, h2, Cast.tuple (CastL.cons c (CastL.refl _ _)), out, rfl, fun _ => o1, r', d'.keep k hne, s1, s2, s3.trans k fun q hq hh => by have := (o4 q hh).1; omega, s4⟩
  · have := hs h0
    subst this
    exact ⟨_, _, Cast.tuple (CastL.cons (Cast.snil0 _) (CastL.refl _ _)), [], rfl, fun hh => absurd hh h0, r', d', st⟩
set_option maxHeartbeats 1000000 in
set_option maxRecDepth 20000 in
theorem sClo {h : AHeap} {room : Int} {r : NR} {l : Pays} (d : NdB h room r l) {L c1 c6 : Nat} {dv nv pv op pr : V} {ep : Int} {rows : List (List Cel)} (hrl : rows.length ≤ 2 ^ 20)
    (gL : h.get L = .cells [dv, nv, op, .int .i64 ep, pv] 129 none) (g1 : h.get c1 = .cells [.ptr L 0] 69 none) (g6 : h.get c6 = .cells [pr] 134 none) (l6 : c6 < h.n) (o6 : Own h 55 1 pr (rows.flatMap rowE))
    (n6 : ¬ NP r c6) (npr : ∀ x, idOf pr = some x → ¬ NP r x ∧ x ≠ c6) :
    SCalls Tryz.prog 99 [.ptr r.a 0, .ptr c1 0, .ptr c6 0] h (fun x h' => x = .int .i64 (nseal room ep l).2 ∧ ∃ r' pr' rows', NdB h' room r' (nseal room ep l).1 ∧ r'.a = r.a ∧ r'.i = r.i ∧ (∀ q, NP r' q → NP r q ∨ h.n ≤ q) ∧
      Keep h h' (fun x => NP r x ∨ x = c6 ∨ idOf pr = some x) ∧ h'.get c6 = .cells [pr'] 134 none ∧ Own h' 55 1 pr' (rows'.flatMap rowE) ∧ (idOf pr' = idOf pr ∨ ∀ x, idOf pr' = some x → h.n ≤ x ∧ ¬ NP r' x) ∧ (∀ x, idOf pr' = some x → x ≠ c6 ∧ x < h'.n) ∧
      (((nseal room ep l).2 ≠ 0 ∧ rows' = rows) ∨ ((nseal room ep l).2 = 0 ∧ ∃ out : List Cel, rows' = rows ++ [out] ∧ out.Perm ((redoL l).2.1.map (·.2.2))))) := by
  have d3 : dropC (AObj.cells [dv, nv, op, .int .i64 ep, pv] 129 none) 3 = some [.int .i64 ep, pv] := rfl
  refine SCalls.enterI (c := _) Tryz.func99 rfl (by kernel_rfl) (by simp) ?_
  simp only [bW, Nat.reduceEqDiff, reduceCtorEq, ft_129_3, lt_3, lt_69, gL, g1, d3]
  refine callI_of cal15 (nbSealI d ep) fun x h1 ⟨out, e, ho, r', d', s1, s2, s3, s4⟩ => ?_
  subst e
  have g61 : h1.get c6 = .cells [pr] 134 none := (s3.get c6 l6 n6).trans g6
  have o61 : Own h1 55 1 pr (rows.flatMap rowE) := o6.keep s3 fun x hx hh => (npr x hx).1 hh
  have kn1 := s3.n
  by_cases h0 : (nseal room ep l).2 = 0
  case neg =>
    have c1' : ((nseal room ep l).2 == 0) = false := by simp [h0]
    simp only [bW, Nat.reduceEqDiff, c1', retA_ret, Tryz.results99, resultsA_1]
    exact hid_mk ⟨rfl, r', pr, rows, d', s1, s2, s4, s3.mono fun _ hh => .inl hh, g61, o61, .inl rfl, fun x hx => ⟨(npr x hx).2, by have := o61.lt x hx; omega⟩, .inl ⟨h0, rfl⟩⟩
  have c1' : ((nseal room ep l).2 == 0) = true := by simp [h0]
  obtain ⟨v, h2, ea, o2, k2, nw2⟩ := append_elemM (P := Tryz.prog) sl_134 (by decide) o61 (xs := rowE out) rfl rfl (fun m hm => by
    have e1 : (rows.flatMap rowE).length = rows.length * 1 := rows_len rowE_len _
    change m * 1 = _ + 1 at hm
    rw [e1] at hm
    exact ⟨by simp only [lim]; omega, by simp only [lim]; omega⟩)
  obtain ⟨vc, v1⟩ := one_of_own o2
  have lit : aBuildSlice Tryz.prog 134 1 [(0, .imm out.length (out.flatMap celE))] h1 = some (.sl h1.n 0 1 1, h1.push (.cells (rowE out) 55 none)) := by rw [buildSlice_go sl_134]; rfl
  have hc6 : c6 < h1.n := by omega
  have gP : (h1.push (.cells (rowE out) 55 none)).get c6 = .cells [pr] 134 none := (get_push_lt hc6).trans g61
  have nc6 : ¬ isId pr c6 := fun hh => (npr c6 hh).2 rfl
  have g62 : h2.get c6 = .cells [pr] 134 none := (k2.get c6 hc6 nc6).trans g61
  have kn2 := k2.n
  have kS : ∀ o, Keep h2 (h2.set c6 o) (· = c6) := fun o => Keep.set _ _ _
  have vne : ∀ x, idOf v = some x → x ≠ c6 := fun x hx hh => by
    rcases nw2 with e | e
    · rw [e] at hx; exact (npr x hx).2 hh
    · have := e x hx; omega
  have dS : NdB (h2.set c6 (.cells [v] 134 none)) room r' (nseal room ep l).1 := (d'.keep k2 fun x hx hh => by
      rcases s4 x hx with h5 | h5
      · exact (npr x hh).1 h5
      · have := o6.lt x hh; omega).keep (kS _) fun x hx hh => by
      subst hh
      rcases s4 _ hx with h5 | h5
      · exact n6 h5
      · omega
  simp only [bW, Nat.reduceEqDiff, lt_134, zt_134, c1', g61, lit, ea, g62, vc, v1, retA_ret, Tryz.results99, resultsA_1]
  refine hid_mk ⟨rfl, r', v, rows ++ [out], dS, s1, s2, s4, ?_, get_set_same, ?_, ?_, fun x hx => ⟨vne x hx, o2.lt x hx⟩, .inr ⟨h0, out, rfl, ho h0⟩⟩
  · refine ((s3.mono fun _ hh => Or.inl hh).trans k2 fun q hq hh => .inr (.inr hh)).trans (kS _) fun q hq hh => .inr (.inl hh)
  · refine (?_ : Own h2 55 1 v ((rows ++ [out]).flatMap rowE)).keep (kS _) fun x hx hh => vne x hx hh
    rw [List.flatMap_append]
    simpa using o2
  · rcases nw2 with e | e
    · exact .inl e
    · exact .inr fun x hx => ⟨by have := e x hx; omega, fun hh => by have := e x hx; have := d'.lt x hh; omega⟩
end Go.Proofs.YtilgpaibolollaaGreat.Pk
namespace Go.Proofs.YtilgpaibolollaaGreat.Pk
open Go Go.Proofs Go.Proofs.YtilgpaibolollaaGreat.Ab
set_option maxRecDepth 10000
set_option linter.unusedVariables false
set_option linter.unusedSimpArgs false
/-- More cells than a disk has room for. -/
def mostC : Nat := 1048576
/-- What replies tell: at each slot what the sealed nodes have there. -/
structure Rep (P : Nat → Bool) (nd : Nds) (n : Nat) (rows : List (List Cel)) : Prop where
  at_ : ∀ k, atOf rows.flatten k = votes P nd k n
  len : rows.flatten.length ≤ n * mostC
  rl : rows.length ≤ n
  sm : ∀ c ∈ rows.flatten, (c.bytes.length ≤ 2048 ∧ ∀ x ∈ c.bytes, x < 256) ∧ 0 ≤ c.at_ ∧ c.at_ < 4096
theorem Rep.nil (P : Nat → Bool) (nd : Nds) : Rep P nd 0 [] := ⟨fun _ => rfl, Nat.zero_le _, Nat.le_refl _, fun c hc => by cases hc⟩
set_option maxRecDepth 10000 in
theorem Rep.skip {P : Nat → Bool} {nd : Nds} {n : Nat} {rows : List (List Cel)} (w : Rep P nd n rows) (h : P n = false) : Rep P nd (n + 1) rows :=
  ⟨fun k => by unfold votes; rw [if_neg (by rw [h]; decide), List.append_nil]; exact w.at_ k, by rw [Nat.succ_mul]; exact Nat.le_trans w.len (Nat.le_add_right _ _), by have := w.rl; omega, w.sm⟩
set_option maxRecDepth 10000 in
theorem Rep.more {P : Nat → Bool} {nd : Nds} {n : Nat} {rows : List (List Cel)} (w : Rep P nd n rows) (h : P n = true) {out : List Cel} (ho : ∀ k, atOf out k = (cellAt (nd n) k).toList) (hl : out.length ≤ mostC) (hs : ∀ c ∈ out, (c.bytes.length ≤ 2048 ∧ ∀ x ∈ c.bytes, x < 256) ∧ 0 ≤ c.at_ ∧ c.at_ < 4096) : Rep P nd (n + 1) (rows ++ [out]) := by
  have hf : (rows ++ [out]).flatten = rows.flatten ++ out := by simp
  refine ⟨fun k => ?_, ?_, ?_, fun c hc => ?_⟩
  · unfold votes
    rw [if_pos h, hf, atOf_append, w.at_, ho]
  · rw [hf, List.length_append, Nat.succ_mul]; exact Nat.add_le_add w.len hl
  · rw [List.length_append]; have := w.rl; simp; omega
  · rw [hf] at hc
    rcases List.mem_append.1 hc with h1 | h1
    · exact w.sm c h1
    · exact hs c h1
open Classical in
noncomputable def ow3 (ow : Nat → Nat) (n0 : Nat) (P : Nat → Prop) (t : Nat) (P2 : Nat → Prop) (t2 : Nat) : Nat → Nat := fun x => if x < n0 then ow x else if P x then t else if P2 x then t2 else 0
theorem ow3_lt {ow : Nat → Nat} {n0 : Nat} {P P2 : Nat → Prop} {t t2 x : Nat} (h : x < n0) : ow3 ow n0 P t P2 t2 x = ow x := by unfold ow3; rw [if_pos h]
theorem ow3_one {ow : Nat → Nat} {n0 : Nat} {P P2 : Nat → Prop} {t t2 x : Nat} (h : n0 ≤ x) (hp : P x) : ow3 ow n0 P t P2 t2 x = t := by unfold ow3; rw [if_neg (by omega), if_pos hp]
theorem ow3_two {ow : Nat → Nat} {n0 : Nat} {P P2 : Nat → Prop} {t t2 x : Nat} (h : n0 ≤ x) (hn : ¬ P x) (hp : P2 x) : ow3 ow n0 P t P2 t2 x = t2 := by unfold ow3; rw [if_neg (by omega), if_neg hn, if_pos hp]
theorem ow3_old {ow : Nat → Nat} {n0 n1 : Nat} {P P2 : Nat → Prop} {t t2 : Nat} (hn : n0 ≤ n1) (hp : ∀ x, P x → x < n1) (hp2 : ∀ x, P2 x → x < n1) : ∀ x, ow3 ow n0 P t P2 t2 x ≠ 0 → x < n1 := fun x hx => by
  unfold ow3 at hx
  split at hx
  · omega
  split at hx
  · rename_i hh; exact hp x hh
  split at hx
  · rename_i hh; exact hp2 x hh
  · exact absurd rfl hx
theorem NodesS.stepG {h h' : AHeap} {room : Int} {n : Nat} {rs : Nat → NR} {nd : Nds} {ow : Nat → Nat} (w : NodesS h room n rs nd ow) {q : Nat} (hq : q < n) {r' : NR} {l' : Pays} (d : NdB h' room r' l') {own : Nat → Prop} (hk : Keep h h' own) (ho : ∀ x, own x → ∀ p, p < n → p ≠ q → ow x ≠ p + 5) (hx : ∀ x, NP r' x → NP (rs q) x ∨ h.n ≤ x)
    {ow2 : Nat → Nat} (o1 : ∀ x, x < h.n → ow2 x = ow x) (o2 : ∀ x, h.n ≤ x → NP r' x → ow2 x = q + 5) (o3 : ∀ x, ow2 x ≠ 0 → x < h'.n) : NodesS h' room n (updN rs q r') (updN nd q l') ow2 := by
  refine ⟨fun p hp => ?_, fun p hp x hx2 => ?_, o3⟩
  · by_cases e : p = q
    · subst e; rw [updN_same, updN_same]; exact d
    · rw [updN_ne e, updN_ne e]
      exact (w.nd p hp).keep hk fun x h1 h2 => ho x h2 p hp e (w.ond p hp x h1)
  · by_cases e : p = q
    · subst e
      rw [updN_same] at hx2
      rcases hx x hx2 with h1 | h1
      · rw [o1 x ((w.nd p hp).lt x h1)]; exact w.ond p hp x h1
      · exact o2 x h1 hx2
    · rw [updN_ne e] at hx2
      rw [o1 x ((w.nd p hp).lt x hx2)]; exact w.ond p hp x hx2
set_option maxHeartbeats 2000000 in
set_option maxRecDepth 20000 in
theorem quorumS {h : AHeap} {room : Int} {n : Nat} {rs : Nat → NR} {nd : Nds} {ow : Nat → Nat} (w : NodesS h room n rs nd ow) {L c1 c6 : Nat} {dv nv pv op : V} {ep : Int}
    (gL : h.get L = .cells [dv, nv, op, .int .i64 ep, pv] 129 none) (g1 : h.get c1 = .cells [.ptr L 0] 69 none) (g6 : h.get c6 = .cells [.snil] 134 none)
    (lL : L < h.n ∧ ow L < 5) (l1 : c1 < h.n ∧ ow c1 < 5) (l6 : c6 < h.n ∧ ow c6 = n + 5) (nk : Own h 34 1 nv (ptrs (fun q => (rs q).a) n)) (onv : ∀ x, idOf nv = some x → ow x < 5) (hn : n ≤ 2 ^ 10) (reach : List Bool) {rv : V} (rvl : RVal h ow rv reach) (hr : reach.length ≤ 2 ^ 47) :
    SCalls Tryz.prog 97 [.ptr L 0, rv, .func (.func 99) [] [.ptr c1 0, .ptr c6 0]] h (fun x h' => x = .bool (decide (n / 2 + 1 ≤ cntN (fineN (nseal room ep) (rch reach) nd) n)) ∧
      ∃ rs' ow' pr rows, NodesS h' room n rs' (allN (nseal room ep) (rch reach) n nd) ow' ∧ Same h h' n rs rs' ow ow' ∧ h'.get c6 = .cells [pr] 134 none ∧ Own h' 55 1 pr (rows.flatMap rowE) ∧ (∀ x, idOf pr = some x → h.n ≤ x ∧ ow' x = n + 5) ∧ Rep (fineN (nseal room ep) (rch reach) nd) nd n rows) := by
  have hx0 : ow h.n = 0 := by
    cases hq : ow h.n with
    | zero => rfl
    | succ k => have := w.old h.n (by omega); omega
  have kP : Keep h (h.push (.cells [.int .i64 0] 198 none)) none_ := Keep.push _ _ _
  have d1' : dropC (AObj.cells [dv, nv, op, .int .i64 ep, pv] 129 none) 1 = some [nv, op, .int .i64 ep, pv] := rfl
  have gLP : (h.push (.cells [.int .i64 0] 198 none)).get L = .cells [dv, nv, op, .int .i64 ep, pv] 129 none := (get_push_lt lL.1).trans gL
  have hlen : ∀ {h1 : AHeap} {rs1 : Nat → NR}, Own h1 34 1 nv (ptrs (fun q => (rs1 q).a) n) → aLen Tryz.prog 127 nv h1 = some (.int .i64 (n : Nat)) := fun {h1 rs1} o => by
    have := o.length (by decide) Tryz.prog (t := 127) kt_127
    rw [ptrs_len, Nat.div_one] at this
    exact this
  have oP := nk.keepN kP
  have lenP := hlen oP
  refine SCalls.enterI (c := _) Tryz.func97 rfl (by kernel_rfl) (by simp) ?_
  simp only [bW, Nat.reduceEqDiff, reduceCtorEq, ft_129_1, lt_127, zc_198, gLP, d1', lenP]
  refine SWp.loopG (α := Nat × (Nat → NR) × (Nat → Nat) × V × List (List Cel)) (fun x f h1 => f 0 = .ptr L 0 ∧ f 1 = rv ∧ f 2 = .func (.func 99) [] [.ptr c1 0, .ptr c6 0] ∧ f 7 = .ptr h.n 0 ∧ f 13 = nv ∧ f 14 = .int .i64 (n : Nat) ∧ f 15 = .int .i64 (x.1 : Nat) ∧ x.1 ≤ n ∧
      NodesS h1 room n x.2.1 (allN (nseal room ep) (rch reach) x.1 nd) x.2.2.1 ∧ Same h h1 n rs x.2.1 ow x.2.2.1 ∧ h1.get h.n = .cells [.int .i64 (cntN (fineN (nseal room ep) (rch reach) nd) x.1 : Nat)] 198 none ∧ x.2.2.1 h.n = 0 ∧ h.n < h1.n ∧
      h1.get c6 = .cells [x.2.2.2.1] 134 none ∧ Own h1 55 1 x.2.2.2.1 (x.2.2.2.2.flatMap rowE) ∧ (∀ y, idOf x.2.2.2.1 = some y → h.n ≤ y ∧ x.2.2.1 y = n + 5) ∧ Rep (fineN (nseal room ep) (rch reach) nd) nd x.1 x.2.2.2.2) (fun x => n - x.1) (0, rs, ow, .snil, [])
    ⟨rfl, rfl, rfl, rfl, rfl, rfl, rfl, Nat.zero_le _, (by rw [allN_zero]; exact w.on kP (fun x hx => hx.elim)), (Same.refl h n rs ow).on kP (fun x _ hx => hx), get_push_new, hx0, Nat.lt_succ_self _, (get_push_lt l6.1).trans g6, Own.snil _ _ _, (fun y hy => by cases hy), Rep.nil _ _⟩ ?_
  rintro ⟨i, rs1, ow1, pr, rows⟩ f h1 ⟨f0, f1, f2, f7, f13, f14, f15, hi, w1, s1, gc, o1, n1, gr, orow, tpr, rp⟩
  simp only at f15 hi w1 s1 gc o1 gr orow tpr rp
  have keepc : ∀ x, x < h.n → ow x < 5 → h1.get x = h.get x := fun x hx ho => s1.keep.get x hx (by omega)
  have gL1 := (keepc L lL.1 lL.2).trans gL
  have nk1 : Own h1 34 1 nv (ptrs (fun q => (rs1 q).a) n) := by
    rw [ptrs_congr (f := fun q => (rs1 q).a) (g := fun q => (rs q).a) fun q hq => s1.a q hq]
    exact nk.keep s1.keep fun x hx hh => by have := onv x hx; omega
  have rv1 := rvl.on (ow' := ow1) s1.keep (fun x hx h0 => by rw [h0]; omega) (fun x hx h0 => (s1.ow x hx).trans h0)
  have rlen := rv1.len
  refine wpI_sound (by kernel_rfl) ?_
  by_cases hlt : i < n
  · have c1' : decide ((i : Int) < ((n : Nat) : Int)) = true := decide_eq_true (by omega)
    obtain ⟨j, q, x1, x2, x3⟩ := own_ptr (t := 127) ss_127 nk1 hlt
    have hw : IntKind.i64.wrap ((i : Int) + 1) = ((i + 1 : Nat) : Int) := by rw [Go.IntWalk.i64_in _ (by omega)]; rfl
    have hsucc := allN_succ (nseal room ep) (rch reach) i nd
    have skip : rch reach i = false → allN (nseal room ep) (rch reach) (i + 1) nd = allN (nseal room ep) (rch reach) i nd ∧ cntN (fineN (nseal room ep) (rch reach) nd) (i + 1) = cntN (fineN (nseal room ep) (rch reach) nd) i ∧ Rep (fineN (nseal room ep) (rch reach) nd) nd (i + 1) rows := fun hri => by
      have hf : fineN (nseal room ep) (rch reach) nd i = false := by unfold fineN; rw [hri]; simp
      refine ⟨by rw [hsucc, if_neg (by rw [hri]; decide)], ?_, rp.skip hf⟩
      show _ + _ = _
      rw [if_neg (by rw [hf]; decide)]
      rfl
    by_cases hlr : i < reach.length
    · have c2' : decide ((i : Int) < ((reach.length : Nat) : Int)) = true := decide_eq_true (by omega)
      obtain ⟨rpp, rr, y1, yl⟩ := rv1.ix hlr
      have hri := rch_lt hlr
      cases hb2 : reach[i] with
      | false =>
        rw [hb2] at yl hri
        obtain ⟨e1, e2, e3⟩ := skip hri
        simp only [bW, Nat.reduceEqDiff, lt_34, lt_4, f1, f13, f14, f15, c1', rlen, c2', x1, x3, y1, yl, hw]
        exact hid_mk ⟨(i + 1, rs1, ow1, pr, rows), ⟨f0, f1, f2, f7, f13, f14, rfl, hlt, by rw [e1]; exact w1, s1, by rw [e2]; exact gc, o1, n1, gr, orow, tpr, e3⟩, by simp only; omega⟩
      | true =>
        rw [hb2] at yl hri
        have d0 := w1.nd i hlt
        rw [allN_at] at d0
        have t6 : ow1 c6 = n + 5 := (s1.ow c6 l6.1).trans l6.2
        have tag6 : ¬ NP (rs1 i) c6 := fun hh => by have := w1.ond i hlt c6 hh; omega
        have lc6 : c6 < h1.n := by have := s1.keep.n; have := l6.1; omega
        simp only [bW, Nat.reduceEqDiff, lt_34, lt_4, f1, f2, f13, f14, f15, c1', rlen, c2', x1, x3, y1, yl]
        refine callI_of cal99 (sClo d0 (by have := rp.rl; omega) gL1 ((keepc c1 l1.1 l1.2).trans g1) gr lc6 orow tag6 (fun x hx => ⟨fun hh => by have := w1.ond i hlt x hh; have := (tpr x hx).2; omega, fun hh => by have := (tpr x hx).1; have := l6.1; omega⟩)) fun x h2 ⟨ex, r', pr', rows', d', st1, st2, st4, k2, gr', or', nw', lt', rr⟩ => ?_
        subst ex
        -- the step, told as one of a node and of the replies
        have n2 := k2.n
        have k2' : Keep h1 h2 (fun x => 5 ≤ ow1 x) := k2.mono fun x hh => by
          rcases hh with hh | hh | hh
          · have := w1.ond i hlt x hh; omega
          · subst hh; omega
          · have := (tpr x hh).2; omega
        have e1 : allN (nseal room ep) (rch reach) (i + 1) nd = updN (allN (nseal room ep) (rch reach) i nd) i (nseal room ep (nd i)).1 := by rw [hsucc, if_pos hri]; rfl
        have w2 := w1.stepG hlt d' k2 (fun x hh p hp hpi => by
          rcases hh with hh | hh | hh
          · have := w1.ond i hlt x hh; omega
          · subst hh; omega
          · have := (tpr x hh).2; omega) st4 (ow2 := ow3 ow1 h1.n (NP r') (i + 5) (isId pr') (n + 5)) (fun x hx => ow3_lt hx) (fun x hx hp => ow3_one hx hp) (ow3_old n2 d'.lt fun x hx => (lt' x hx).2)
        rw [← e1] at w2
        have s2 : Same h h2 n rs (updN rs1 i r') ow (ow3 ow1 h1.n (NP r') (i + 5) (isId pr') (n + 5)) := s1.trans ⟨k2', fun q hq => by
            by_cases e : q = i
            · subst e; rw [updN_same]; exact st1
            · rw [updN_ne e], fun q hq => by
            by_cases e : q = i
            · subst e; rw [updN_same]; exact st2
            · rw [updN_ne e], fun x hx => ow3_lt hx⟩
        have tpr2 : ∀ y, idOf pr' = some y → h.n ≤ y ∧ ow3 ow1 h1.n (NP r') (i + 5) (isId pr') (n + 5) y = n + 5 := fun y hy => by
          rcases nw' with e | e
          · rw [e] at hy
            obtain ⟨a1, a2⟩ := tpr y hy
            exact ⟨a1, by rw [ow3_lt (orow.lt y hy)]; exact a2⟩
          · obtain ⟨a1, a2⟩ := e y hy
            exact ⟨by omega, ow3_two a1 a2 hy⟩
        have gc2 : h2.get h.n = .cells [.int .i64 (cntN (fineN (nseal room ep) (rch reach) nd) i : Nat)] 198 none := (k2'.get h.n n1 (by rw [o1]; omega)).trans gc
        have o2 : ow3 ow1 h1.n (NP r') (i + 5) (isId pr') (n + 5) h.n = 0 := by rw [ow3_lt n1]; exact o1
        rcases rr with ⟨hz, rfl⟩ | ⟨hz, out, rfl, op_⟩
        · have hf : fineN (nseal room ep) (rch reach) nd i = false := by unfold fineN; simp [hz]
          have e2 : cntN (fineN (nseal room ep) (rch reach) nd) (i + 1) = cntN (fineN (nseal room ep) (rch reach) nd) i := by
            show _ + _ = _
            rw [if_neg (by rw [hf]; decide)]
            rfl
          have z1 : ((nseal room ep (nd i)).2 == 0) = false := by simp [hz]
          simp only [bW, Nat.reduceEqDiff, f15, z1, hw]
          exact hid_mk ⟨(i + 1, updN rs1 i r', ow3 ow1 h1.n (NP r') (i + 5) (isId pr') (n + 5), pr', rows'), ⟨f0, f1, f2, f7, f13, f14, rfl, hlt, w2, s2, by rw [e2]; exact gc2, o2, by omega, gr', or', tpr2, rp.skip hf⟩, by simp only; omega⟩
        · have hf : fineN (nseal room ep) (rch reach) nd i = true := by unfold fineN; rw [hri, hz]; rfl
          have e2 : cntN (fineN (nseal room ep) (rch reach) nd) (i + 1) = cntN (fineN (nseal room ep) (rch reach) nd) i + 1 := by
            show _ + _ = _
            rw [if_pos hf]
          have cle := cntN_le (fineN (nseal room ep) (rch reach) nd) i
          have hcw : IntKind.i64.wrap (((cntN (fineN (nseal room ep) (rch reach) nd) i : Nat) : Int) + 1) = ((cntN (fineN (nseal room ep) (rch reach) nd) (i + 1) : Nat) : Int) := by
            rw [e2, Go.IntWalk.i64_in _ (by omega)]; rfl
          have z1 : ((0 : Int) == 0) = true := rfl
          rw [hz]
          simp only [bW, Nat.reduceEqDiff, f7]
          refine callI_of cal118 (tAdd h2 h.n _ 1 gc2) fun x h3 ⟨ex, eh⟩ => ?_
          subst ex; subst eh
          rw [hcw]
          have kS : ∀ o, Keep h2 (h2.set h.n o) (· = h.n) := fun o => Keep.set _ _ _
          have rp2 := rp.more hf (atOf_cells d0.ok op_) (cells_len d0 op_) (cells_small d0.ok op_)
          have hc6 := l6.1
          simp only [bW, Nat.reduceEqDiff, f15, hw]
          exact hid_mk ⟨(i + 1, updN rs1 i r', ow3 ow1 h1.n (NP r') (i + 5) (isId pr') (n + 5), pr', rows ++ [out]), ⟨f0, f1, f2, f7, f13, f14, rfl, hlt, w2.on (kS _) (fun x hx => by subst hx; rw [o2]; omega), s2.on (kS _) (fun x hx hh => by omega), get_set_same, o2, by simp only [set_n]; omega, (get_set_ne (by omega)).trans gr', or'.keep (kS _) (fun x hx hh => by have := tpr2 x hx; subst hh; omega), tpr2, rp2⟩, by simp only; omega⟩
    · have c2' : decide ((i : Int) < ((reach.length : Nat) : Int)) = false := decide_eq_false (by omega)
      obtain ⟨e1, e2, e3⟩ := skip (rch_ge (l := reach) (q := i) (by omega))
      simp only [bW, Nat.reduceEqDiff, lt_34, f1, f13, f14, f15, c1', rlen, c2', x1, x3, hw]
      exact hid_mk ⟨(i + 1, rs1, ow1, pr, rows), ⟨f0, f1, f2, f7, f13, f14, rfl, hlt, by rw [e1]; exact w1, s1, by rw [e2]; exact gc, o1, n1, gr, orow, tpr, e3⟩, by simp only; omega⟩
  · have c1' : decide ((i : Int) < ((n : Nat) : Int)) = false := decide_eq_false (by omega)
    have hin : i = n := by omega
    subst hin
    have len1 := hlen nk1
    have fin : decide (((i : Nat) : Int) / 2 + 1 ≤ ((cntN (fineN (nseal room ep) (rch reach) nd) i : Nat) : Int)) = decide (i / 2 + 1 ≤ cntN (fineN (nseal room ep) (rch reach) nd) i) := by
      rw [Bool.eq_iff_iff, decide_eq_true_iff, decide_eq_true_iff]
      omega
    simp only [bW, f14, f15, c1']
    refine SWp.drawnS none_ [] (.c 0 (.q 1 (.q 2 (.q 3 (.q 4 (.q 5 (.c 6 (.q 7 (.q 8 .done))))))))) (by kernel_rfl) (by kernel_rfl) (by kernel_rfl) ?_
    refine siI_c (v := .int .i64 (cntN (fineN (nseal room ep) (rch reach) nd) i : Nat)) rfl rfl rfl (fun h' hk => ?_) ?_
    · show Ab.Pure Tryz.prog 119 [f 7] h' _
      rw [f7]
      refine tLoad64 h' h.n _ ?_
      rcases hk with hk | hk
      · exact (hk.get h.n n1 (fun hh => hh)).trans gc
      · rw [hk]; exact gc
    simp only [bW, bS, Nat.reduceEqDiff, reduceCtorEq, ft_129_1, lt_127, f0, gL1, d1', len1]
    refine siI_c rfl rfl rfl (fun h' _ => pNeed (i : Int) (by omega) (by omega) h') ?_
    simp only [bW, bS, Nat.reduceEqDiff, fin, retA_ret, Tryz.results97, resultsA_1]
    exact hid_mk ⟨rfl, rs1, ow1, pr, rows, w1, s1, gr, orow, tpr, rp⟩
end Go.Proofs.YtilgpaibolollaaGreat.Pk
namespace Go.Proofs.YtilgpaibolollaaGreat.Pk
open Go Go.Proofs Go.Proofs.YtilgpaibolollaaGreat.Ab
set_option maxRecDepth 10000
set_option linter.unusedVariables false
set_option linter.unusedSimpArgs false
theorem NodesS.zero {h : AHeap} {room : Int} {n : Nat} {rs : Nat → NR} {nd : Nds} {ow : Nat → Nat} (w : NodesS h room n rs nd ow) {x : Nat} (hx : h.n ≤ x) : ow x = 0 := by
  cases hq : ow x with
  | zero => rfl
  | succ k => have := w.old x (by omega); omega
set_option maxRecDepth 20000 in
theorem logWrite {h : AHeap} {room : Int} {n : Nat} {rs : Nat → NR} {nd : Nds} {ow : Nat → Nat} (w : NodesS h room n rs nd ow) {L : Nat} {dv nv pv op : V} {ep : Int} (at_ : Int) {b : List Nat} (hb : ∀ n ∈ b, n < 256) (hbl : b.length ≤ 2 ^ 40)
    (gL : h.get L = .cells [dv, nv, op, .int .i64 ep, pv] 129 none) (lL : L < h.n ∧ ow L < 5) (nk : Own h 34 1 nv (ptrs (fun q => (rs q).a) n)) (onv : ∀ x, idOf nv = some x → ow x < 5) (hn : n ≤ 2 ^ 10) (reach : List Bool) {rv : V} (rvl : RVal h ow rv reach) (hr : reach.length ≤ 2 ^ 47) :
    SCalls Tryz.prog 63 [.ptr L 0, .int .i64 at_, .imm b.length (bytesV b), rv] h (fun x h' => x = .bool (wrL room n ep at_ b (rch reach) nd).2 ∧
      ∃ rs' ow', NodesS h' room n rs' (wrL room n ep at_ b (rch reach) nd).1 ow' ∧ Same h h' n rs rs' ow ow') := by
  have kP : Keep h (((h.push (.cells [.ptr L 0] 69 none)).push (.cells [.int .i64 at_] 3 none)).push (.cells [.imm b.length (bytesV b)] 29 none)) none_ := ((Keep.push _ _ _).then_push _).then_push _
  have z0 := w.zero (Nat.le_refl _)
  have z1 : ow (h.n + 1) = 0 := w.zero (Nat.le_succ h.n)
  have z2 : ow (h.n + 2) = 0 := w.zero (by omega)
  have q1 : (((h.push (.cells [.ptr L 0] 69 none)).push (.cells [.int .i64 at_] 3 none)).push (.cells [.imm b.length (bytesV b)] 29 none)).get h.n = .cells [.ptr L 0] 69 none := (get_push_lt (by simp only [push_n]; omega)).trans ((get_push_lt (by simp only [push_n]; omega)).trans get_push_new)
  have q2 : (((h.push (.cells [.ptr L 0] 69 none)).push (.cells [.int .i64 at_] 3 none)).push (.cells [.imm b.length (bytesV b)] 29 none)).get (h.n + 1) = .cells [.int .i64 at_] 3 none := (get_push_lt (by simp only [push_n]; omega)).trans get_push_new
  have q3 : (((h.push (.cells [.ptr L 0] 69 none)).push (.cells [.int .i64 at_] 3 none)).push (.cells [.imm b.length (bytesV b)] 29 none)).get (h.n + 2) = .cells [.imm b.length (bytesV b)] 29 none := get_push_new
  have hN : (((h.push (.cells [.ptr L 0] 69 none)).push (.cells [.int .i64 at_] 3 none)).push (.cells [.imm b.length (bytesV b)] 29 none)).n = h.n + 3 := rfl
  refine SCalls.enterI (c := _) Tryz.func63 rfl (by kernel_rfl) (by simp) ?_
  simp only [bW, Nat.reduceEqDiff, lt_69, q1]
  generalize ((h.push (.cells [.ptr L 0] 69 none)).push (.cells [.int .i64 at_] 3 none)).push (.cells [.imm b.length (bytesV b)] 29 none) = H at kP q1 q2 q3 hN ⊢
  refine callI_of cal97 (quorumW (w.on kP fun x hx => hx.elim) hb hbl ((kP.get L lL.1 fun hh => hh).trans gL) q1 q2 q3 ⟨by omega, lL.2⟩ ⟨by omega, by omega⟩ ⟨by omega, by omega⟩ ⟨by omega, by omega⟩ (nk.keepN kP) onv (by omega) reach (rvl.on kP (fun _ _ _ hh => hh) (fun _ _ h0 => h0)) hr) fun x h' ⟨e, rs', ow', w', s'⟩ => ?_
  subst e
  simp only [bW, Nat.reduceEqDiff, retA_ret, Tryz.results63, resultsA_1]
  exact hid_mk ⟨rfl, rs', ow', w', ⟨kP.up.trans s'.keep fun _ _ hh => hh, s'.a, s'.i, fun x hx => s'.ow x (by omega)⟩⟩
set_option maxRecDepth 20000 in
theorem logSeal {h : AHeap} {room : Int} {n : Nat} {rs : Nat → NR} {nd : Nds} {ow : Nat → Nat} (w : NodesS h room n rs nd ow) {L : Nat} {dv nv pv op : V} {ep : Int}
    (gL : h.get L = .cells [dv, nv, op, .int .i64 ep, pv] 129 none) (lL : L < h.n ∧ ow L < 5) (nk : Own h 34 1 nv (ptrs (fun q => (rs q).a) n)) (onv : ∀ x, idOf nv = some x → ow x < 5 ∧ x < h.n) (hn : n ≤ 2 ^ 10) (reach : List Bool) {rv : V} (rvl : RVal h ow rv reach) (hr : reach.length ≤ 2 ^ 47) :
    SCalls Tryz.prog 66 [.ptr L 0, rv] h (fun x h' => ∃ rows : List (List Cel), x = .tuple [.imm rows.length (rows.flatMap rowE), .bool (decide (n / 2 + 1 ≤ cntN (fineN (nseal room ep) (rch reach) nd) n))] ∧
      ∃ rs' ow', NodesS h' room n rs' (allN (nseal room ep) (rch reach) n nd) ow' ∧ Same h h' n rs rs' ow ow' ∧ Rep (fineN (nseal room ep) (rch reach) nd) nd n rows) := by
  refine SCalls.cast ?_
  have kP : Keep h ((h.push (.cells [.ptr L 0] 69 none)).push (.cells [.snil] 134 none)) none_ := (Keep.push _ _ _).then_push _
  have z0 := w.zero (Nat.le_refl _)
  have q1 : ((h.push (.cells [.ptr L 0] 69 none)).push (.cells [.snil] 134 none)).get h.n = .cells [.ptr L 0] 69 none := (get_push_lt (by simp only [push_n]; omega)).trans get_push_new
  have q2 : ((h.push (.cells [.ptr L 0] 69 none)).push (.cells [.snil] 134 none)).get (h.n + 1) = .cells [.snil] 134 none := get_push_new
  have hN : ((h.push (.cells [.ptr L 0] 69 none)).push (.cells [.snil] 134 none)).n = h.n + 2 := rfl
  refine SCalls.enterI (c := _) Tryz.func66 rfl (by kernel_rfl) (by simp) ?_
  simp only [bW, Nat.reduceEqDiff, lt_69, zc_134, q1]
  generalize (h.push (.cells [.ptr L 0] 69 none)).push (.cells [.snil] 134 none) = H at kP q1 q2 hN ⊢
  have wP := w.on kP fun x hx => hx.elim
  have w2 : NodesS H room n rs nd (updN ow (h.n + 1) (n + 5)) := ⟨wP.nd, fun q hq x hx => by
      have h1 := w.ond q hq x hx
      rw [updN_ne fun e => by subst e; rw [w.zero (Nat.le_succ _)] at h1; omega]
      exact h1, fun x hx => by
      by_cases e : x = h.n + 1
      · omega
      · rw [updN_ne e] at hx; have := w.old x hx; omega⟩
  have hL := lL.1
  refine callI_of cal97 (quorumS w2 ((kP.get L lL.1 fun hh => hh).trans gL) q1 q2 ⟨by omega, by rw [updN_ne (by omega)]; exact lL.2⟩ ⟨by omega, by rw [updN_ne (by omega)]; omega⟩ ⟨by omega, updN_same⟩ (nk.keepN kP) (fun x hx => by rw [updN_ne fun e => by have := (onv x hx).2; omega]; exact (onv x hx).1) hn reach (rvl.on kP (fun _ _ _ hh => hh) (fun x hx h0 => by rw [updN_ne (by omega)]; exact h0)) hr) fun x h' ⟨e, rs', ow', pr, rows, w', s', g6, o6, t6, rp⟩ => ?_
  subst e
  have kh := s'.keep.n
  simp only [bW, Nat.reduceEqDiff, lt_134, g6, retA_ret, Tryz.results66, resultsA_2]
  obtain ⟨h2, c, k2⟩ := Cast.own o6 (n := rows.length) (rows_len rowE_len _) (by decide)
  refine hid_mk ⟨_, h2, Cast.tuple (CastL.cons c (CastL.refl _ _)), rows, rfl, rs', ow', ⟨fun q hq => (w'.nd q hq).keep k2 fun x hx hh => by have := w'.ond q hq x hx; have := (t6 x hh).2; omega, w'.ond, fun x hx => Nat.lt_of_lt_of_le (w'.old x hx) k2.n⟩, ⟨?_, s'.a, s'.i, fun x hx => ?_⟩, rp⟩
  · exact ((kP.up (o := fun x => 5 ≤ ow x)).trans s'.keep fun x hx hh => by
      rw [updN_ne (by omega)] at hh
      exact hh).trans k2 fun x hx hh => by have := (t6 x hh).1; omega
  · rw [s'.ow x (by omega), updN_ne (by omega)]
end Go.Proofs.YtilgpaibolollaaGreat.Pk
namespace Go.Proofs.YtilgpaibolollaaGreat.Pk
open Go Go.Proofs Go.Proofs.YtilgpaibolollaaGreat.Ab
set_option maxRecDepth 10000
set_option linter.unusedVariables false
set_option linter.unusedSimpArgs false
/-! ### The row of merged cells -/
def seqC (m : List Cel) (k : Nat) : Option Cel := m.find? fun c => c.at_ == (k : Int)
def seqLen (m : List Cel) : Nat := match m.getLast? with
  | some c => (c.at_ + 1).toNat
  | none => 0
def seqR (m : List Cel) (n : Nat) : List (List Nat) := (List.range n).map fun k => match seqC m k with
  | some c => c.bytes
  | none => []
def seqV (m : List Cel) (n : Nat) : List V := (List.range n).map fun k => match seqC m k with
  | some c => .imm c.bytes.length (bytesV c.bytes)
  | none => .snil
theorem seqV_len (m : List Cel) (n : Nat) : (seqV m n).length = n := by simp [seqV]
theorem seqR_len (m : List Cel) (n : Nat) : (seqR m n).length = n := by simp [seqR]
theorem seqV_nil (n : Nat) : seqV [] n = List.replicate n .snil := by
  unfold seqV seqC
  refine List.ext_getElem (by simp) fun i h1 h2 => ?_
  simp
theorem seqV_snoc {m : List Cel} {c : Cel} {n a : Nat} (ha : c.at_ = (a : Int)) (hn : ∀ d ∈ m, d.at_ ≠ c.at_) : seqV (m ++ [c]) n = (seqV m n).set a (.imm c.bytes.length (bytesV c.bytes)) := by
  refine List.ext_getElem (by simp [seqV]) fun i h1 h2 => ?_
  rw [List.getElem_set]
  unfold seqV seqC
  simp only [List.getElem_map, List.getElem_range, List.find?_append]
  by_cases e : a = i
  · subst e
    rw [if_pos rfl]
    have : m.find? (fun c => c.at_ == (a : Int)) = none := List.find?_eq_none.2 fun d hd => by have := hn d hd; simp; omega
    rw [this]
    simp [ha]
  · rw [if_neg e]
    have : [c].find? (fun c => c.at_ == (i : Int)) = none := List.find?_eq_none.2 fun d hd => by simp at hd; subst hd; simp; omega
    rw [this, Option.or_none]
theorem seq_cast (m : List Cel) (h : AHeap) : ∀ l : List Nat, CastL (l.map fun k => match seqC m k with | some c => .imm c.bytes.length (bytesV c.bytes) | none => .snil) h (rowV (l.map fun k => match seqC m k with | some c => c.bytes | none => [])) h
  | [] => CastL.refl _ _
  | k :: l => by
    have ih := seq_cast m h l
    unfold rowV at ih ⊢
    rw [List.map_cons, List.map_cons, List.map_cons]
    refine CastL.cons ?_ ih
    cases seqC m k with
    | some c => exact Cast.refl _ _
    | none => exact Cast.snil0 h
theorem pairwise_at {m : List Cel} (up : m.Pairwise fun a b => a.at_ < b.at_) {i : Nat} (hi : i < m.length) : ∀ d ∈ m.take i, d.at_ ≠ m[i].at_ := fun d hd => by
  obtain ⟨j, hj, rfl⟩ := List.getElem_of_mem hd
  rw [List.length_take] at hj
  rw [List.getElem_take]
  have := (List.pairwise_iff_getElem.1 up) j i (by omega) hi (by omega)
  omega
theorem at_lt {m : List Cel} (up : m.Pairwise fun a b => a.at_ < b.at_) {i : Nat} (hi : i < m.length) : m[i].at_ ≤ m[m.length - 1].at_ := by
  by_cases e : i = m.length - 1
  · subst e; exact Int.le_refl _
  · have := (List.pairwise_iff_getElem.1 up) i (m.length - 1) hi (by omega) (by omega)
    omega
theorem cel_ix' {l : List Cel} {k : Nat} (hk : k < l.length) : aIndexAddr Tryz.prog 55 (.imm l.length (l.flatMap celE)) (.int .i64 (k : Int)) = some (.at (celE l[k] ++ (l.drop (k + 1)).flatMap celE)) := rows_ix celE_len hk ss_55
set_option maxHeartbeats 1000000 in
set_option maxRecDepth 20000 in
theorem pSeq (m : List Cel) (up : m.Pairwise fun a b => a.at_ < b.at_) (hr : ∀ c ∈ m, 0 ≤ c.at_ ∧ c.at_ < 4096) (h : AHeap) :
    SCalls Tryz.prog 67 [.imm m.length (m.flatMap celE)] h (fun r h' => Acc h h' 29 1 r (rowV (seqR m (seqLen m)))) := by
  refine SCalls.cast ?_
  refine SCalls.enterI (c := _) Tryz.func67 rfl (by kernel_rfl) (by simp) ?_
  by_cases h0 : m = []
  · subst h0
    have c1 : ((((0 : Nat) : Int)) == 0) = true := rfl
    simp only [bW, Nat.reduceEqDiff, reduceCtorEq, kt_55, c1, retA_ret, Tryz.results67, resultsA_1]
    exact hid_mk ⟨.snil, h, Cast.refl _ _, Acc.nil (Keep.refl _ _)⟩
  have hp : 0 < m.length := List.length_pos_iff.2 h0
  have hml : m.length ≤ 4096 := by
    have h1 : (m.map fun c => c.at_.toNat).Nodup := by
      refine List.pairwise_map.2 (up.imp_of_mem fun {a b} ha hb hab => ?_)
      have := hr a ha; have := hr b hb
      omega
    have h2 := h1.length_le_of_subset (l₂ := List.range 4096) fun x hx => by
      obtain ⟨c, hc, rfl⟩ := List.mem_map.1 hx
      have := hr c hc
      rw [List.mem_range]; omega
    rw [List.length_map, List.length_range] at h2
    exact h2
  have c1 : (((m.length : Nat) : Int) == 0) = false := by rw [beq_eq_false_iff_ne]; omega
  have w1 : IntKind.i64.wrap (((m.length : Nat) : Int) - 1) = ((m.length - 1 : Nat) : Int) := by rw [Go.IntWalk.i64_in _ (by omega)]; omega
  have x1 := cel_ix' (l := m) (k := m.length - 1) (by omega)
  have ld := cel_ld0
  obtain ⟨top, htop⟩ : ∃ t : Nat, m[m.length - 1].at_ = (t : Int) := ⟨m[m.length - 1].at_.toNat, by have := hr _ (List.getElem_mem (h := show m.length - 1 < m.length by omega)); omega⟩
  have htl : top < 4096 := by have := hr _ (List.getElem_mem (h := show m.length - 1 < m.length by omega)); omega
  have w2 : IntKind.i64.wrap (((top : Nat) : Int) + 1) = ((top + 1 : Nat) : Int) := by rw [Go.IntWalk.i64_in _ (by omega)]; rfl
  have hsl : seqLen m = top + 1 := by
    unfold seqLen
    rw [List.getLast?_eq_getElem?, List.getElem?_eq_getElem (by omega)]
    simp only [htop]
    omega
  have hmk : aMake Tryz.prog 73 (.int .i64 ((top + 1 : Nat) : Int)) (.int .i64 ((top + 1 : Nat) : Int)) h = some (.sl h.n 0 (top + 1) (top + 1), h.push (.cells (List.replicate (top + 1) .snil) 29 none)) := by
    rw [make_go sl_73 (Nat.le_refl _) (by simp only; omega) (by omega), made_one]
  have cc : ∀ c, (V.agg (celE c)).cells = some (celE c) := fun _ => rfl
  have st := cel_store
  have ldl := cel_ld
  simp only [bW, Nat.reduceEqDiff, reduceCtorEq, ft_48_0, kt_55, lt_3, c1, w1, x1, ld, htop, w2, hmk]
  refine SWp.loopG (α := Nat) (fun i f h' => f 3 = .sl h.n 0 (top + 1) (top + 1) ∧ f 18 = .imm m.length (m.flatMap celE) ∧ f 19 = .int .i64 (m.length : Nat) ∧ f 20 = .int .i64 (i : Nat) ∧ i ≤ m.length ∧ Keep h h' none_ ∧ h.n < h'.n ∧ h'.get h.n = .cells (seqV (m.take i) (top + 1)) 29 none) (fun i => m.length - i) 0
    ⟨rfl, rfl, rfl, rfl, Nat.zero_le _, Keep.push _ _ _, Nat.lt_succ_self _, (by rw [List.take_zero, seqV_nil]; exact get_push_new)⟩ ?_
  rintro i f h1 ⟨f3, f18, f19, f20, hi, k1, n1, g1⟩
  refine wpI_sound (by kernel_rfl) ?_
  by_cases hlt : i < m.length
  · have d1 : decide ((i : Int) < ((m.length : Nat) : Int)) = true := decide_eq_true (by omega)
    have hw : IntKind.i64.wrap ((i : Int) + 1) = ((i + 1 : Nat) : Int) := by rw [Go.IntWalk.i64_in _ (by omega)]; rfl
    have y1 := cel_ix' hlt
    have hne := pairwise_at up hlt
    have hle := at_lt up hlt
    have hrg := hr _ (List.getElem_mem hlt)
    have htk := List.take_succ_eq_append_getElem hlt
    generalize m[i] = c at y1 hne hle hrg htk
    obtain ⟨a, ha⟩ : ∃ a : Nat, c.at_ = (a : Int) := ⟨c.at_.toNat, by omega⟩
    have hal : a < top + 1 := by omega
    have kP := k1.then_push (.cells (celE c) 48 none)
    have gP : (h1.push (.cells (celE c) 48 none)).get h1.n = .cells (celE c) 48 none := get_push_new
    have g1P := (get_push_lt (o := .cells (celE c) 48 none) n1).trans g1
    have nP : (h1.push (.cells (celE c) 48 none)).n = h1.n + 1 := rfl
    have f2 := cel_fd2 c
    have l0 := cel_ld0' c
    have dr2 : dropC (AObj.cells (celE c) 48 none) 2 = some [.imm c.bytes.length (bytesV c.bytes)] := rfl
    have dr0 : dropC (AObj.cells (celE c) 48 none) 0 = some (celE c) := rfl
    have x2 : aIndexAddr Tryz.prog 73 (.sl h.n 0 (top + 1) (top + 1)) (.int .i64 c.at_) = some (.ptr h.n a) := by
      rw [aIndexAddr_eq, ss_73, ixGo_sl, ha, if_pos ⟨by omega, by omega⟩]
      simp
    simp only [bW, Nat.reduceEqDiff, ft_48_0, lt_3, lt_48, zc_48, zt_48, f3, f18, f19, f20, d1, y1, ldl, cc, st]
    generalize h1.push (.cells (celE c) 48 none) = hP at kP gP g1P nP ⊢
    have s2 : setC (some 1) (AObj.cells (seqV (m.take i) (top + 1)) 29 none) a [.imm c.bytes.length (bytesV c.bytes)] = some (.cells (seqV (m.take (i + 1)) (top + 1)) 29 none) := by
      rw [setC_one rfl, if_pos (by rw [seqV_len]; exact hal), htk, seqV_snoc ha hne]
    simp only [bW, Nat.reduceEqDiff, ft_48_2, lt_29, zt_29, f20, gP, dr2, l0, x2, g1P, s2, hw]
    exact hid_mk ⟨i + 1, ⟨f3, f18, f19, rfl, hlt, kP.setNew (Nat.le_refl _) _, (show h.n < hP.n by omega), get_set_same⟩, by omega⟩
  · have d1 : decide ((i : Int) < ((m.length : Nat) : Int)) = false := decide_eq_false (by omega)
    rw [List.take_of_length_le (by omega)] at g1
    simp only [bW, Nat.reduceEqDiff, f3, f19, f20, d1, retA_ret, Tryz.results67, resultsA_1]
    refine hid_mk ⟨_, _, Cast.cellC (h1 := h1) g1 (seq_cast m h1 (List.range (top + 1))) g1 (by unfold rowV seqV; simp) _, ?_⟩
    rw [hsl]
    refine ⟨.inr ⟨h.n, top + 1, top + 1, _, none, rfl, n1, get_set_same, by unfold rowV seqR; simp, by unfold rowV; rw [List.take_of_length_le (by simp)]; rfl, .inl ⟨by simp only [unk]; omega, by unfold rowV; simp, Nat.le_refl _⟩⟩, k1.setNew (Nat.le_refl _) _, fun k hk => by simp only [idOf, Option.some.injEq] at hk; omega⟩
end Go.Proofs.YtilgpaibolollaaGreat.Pk
namespace Go.Proofs.YtilgpaibolollaaGreat.Pk
open Go Go.Proofs Go.Proofs.YtilgpaibolollaaGreat.Ab
set_option maxRecDepth 10000
set_option linter.unusedVariables false
set_option linter.unusedSimpArgs false
/-! ### Rows written, step by step -/
theorem wRow_cons {room : Int} {n : Nat} {ep : Int} {rc : Nat → Bool} (b : List Nat) (r : List (List Nat)) (at_ : Nat) (nd : Nds) : wRow room n ep rc (b :: r) at_ nd = if (wrL room n ep (at_ : Int) b rc nd).2 = true then wRow room n ep rc r (at_ + 1) (wrL room n ep (at_ : Int) b rc nd).1 else ((wrL room n ep (at_ : Int) b rc nd).1, false) := rfl
theorem wRow_stop {room : Int} {n : Nat} {ep : Int} {rc : Nat → Bool} : ∀ (a b : List (List Nat)) (at_ : Nat) (nd : Nds), (wRow room n ep rc a at_ nd).2 = false → wRow room n ep rc (a ++ b) at_ nd = wRow room n ep rc a at_ nd
  | [], b, at_, nd, h => by cases h
  | x :: a, b, at_, nd, h => by
    rw [wRow_cons] at h
    rw [List.cons_append, wRow_cons, wRow_cons]
    split
    · rename_i h1
      rw [if_pos h1] at h
      exact wRow_stop a b (at_ + 1) _ h
    · rfl
theorem wRow_snoc {room : Int} {n : Nat} {ep : Int} {rc : Nat → Bool} : ∀ (a : List (List Nat)) (b : List Nat) (at_ : Nat) (nd : Nds), (wRow room n ep rc a at_ nd).2 = true → wRow room n ep rc (a ++ [b]) at_ nd = wrL room n ep ((at_ + a.length : Nat) : Int) b rc (wRow room n ep rc a at_ nd).1
  | [], b, at_, nd, h => by
    rw [List.nil_append, wRow_cons]
    simp only [List.length_nil, Nat.add_zero]
    show _ = wrL room n ep (at_ : Int) b rc nd
    split
    · rename_i h1
      show ((wrL room n ep (at_ : Int) b rc nd).1, true) = _
      rw [← h1]
    · rename_i h1
      have : (wrL room n ep (at_ : Int) b rc nd).2 = false := by simpa using h1
      rw [← this]
  | x :: a, b, at_, nd, h => by
    rw [wRow_cons] at h
    split at h
    · rename_i h1
      have ih := wRow_snoc a b (at_ + 1) (wrL room n ep (at_ : Int) x rc nd).1 h
      rw [List.cons_append, wRow_cons, if_pos h1, ih, wRow_cons, if_pos h1, List.length_cons]
      have e : at_ + 1 + a.length = at_ + (a.length + 1) := by omega
      rw [e]
    · cases h
theorem seqR_get {m : List Cel} {n k : Nat} (h : k < (seqR m n).length) : (seqR m n)[k] = match seqC m k with | some c => c.bytes | none => [] := by
  simp only [seqR, List.getElem_map, List.getElem_range]
  all_goals (cases seqC m k <;> rfl)
/-! ### What merged cells tell -/
theorem seqC_some {m : List Cel} (up : m.Pairwise fun a b => a.at_ < b.at_) {c : Cel} (hc : c ∈ m) {k : Nat} (hk : c.at_ = (k : Int)) : seqC m k = some c := by
  unfold seqC
  cases hf : m.find? (fun c => c.at_ == (k : Int)) with
  | none =>
    have := List.find?_eq_none.1 hf c hc
    simp [hk] at this
  | some d =>
    have h1 := List.find?_some hf
    have h2 := List.mem_of_find?_eq_some hf
    simp only [beq_iff_eq] at h1
    obtain ⟨i, hi, rfl⟩ := List.getElem_of_mem hc
    obtain ⟨j, hj, rfl⟩ := List.getElem_of_mem h2
    by_cases e : i = j
    · subst e; rfl
    · rcases Nat.lt_or_ge i j with h3 | h3
      · have := (List.pairwise_iff_getElem.1 up) i j hi hj h3; omega
      · have := (List.pairwise_iff_getElem.1 up) j i hj hi (by omega); omega
theorem rowIs_of {rows : List (List Cel)} {vt : Int → List Cel} (hv : ∀ k, atOf rows.flatten k = vt k) {out : List Cel} (w : IsMerge rows.flatten out) (hr : ∀ c ∈ out, 0 ≤ c.at_ ∧ c.at_ < 4096) : RowIs vt (seqR out (seqLen out)) := by
  have hmem : ∀ c, c ∈ out ↔ bestOf (vt c.at_) = some c := fun c => by rw [w.mem, hv]
  have hat : ∀ k c, bestOf (vt k) = some c → c ∈ out ∧ c.at_ = k := fun k c h => by
    have h1 := bestOf_mem h
    rw [← hv] at h1
    have h2 := (atOf_mem.1 h1).2
    exact ⟨(hmem c).2 (by rw [h2]; exact h), h2⟩
  have hlast : ∀ c ∈ out, c.at_ < (seqLen out : Int) := fun c hc => by
    obtain ⟨i, hi, rfl⟩ := List.getElem_of_mem hc
    have := at_lt w.up hi
    have h2 := hr _ (List.getElem_mem (h := show out.length - 1 < out.length by omega))
    unfold seqLen
    rw [List.getLast?_eq_getElem?, List.getElem?_eq_getElem (by omega)]
    simp only
    omega
  refine ⟨fun k hk => ?_, fun k hk => ?_, ?_⟩
  · rw [seqR_get]
    cases hb : bestOf (vt (k : Int)) with
    | some c =>
      obtain ⟨h1, h2⟩ := hat _ _ hb
      rw [seqC_some w.up h1 h2]
    | none =>
      have : seqC out k = none := List.find?_eq_none.2 fun c hc => by
        intro he
        have he' : c.at_ = (k : Int) := by simpa using he
        have := (hmem c).1 hc
        rw [he', hb] at this
        cases this
      rw [this]
  · rw [seqR_len] at hk
    cases hz : vt (k : Int) with
    | nil => rfl
    | cons d l =>
      obtain ⟨c, hc⟩ := bestOf_ne (show vt (k : Int) ≠ [] by rw [hz]; simp)
      obtain ⟨h1, h2⟩ := hat _ _ hc
      have := hlast c h1
      omega
  · rw [seqR_len]
    by_cases ho : out = []
    · left; subst ho; rfl
    · right
      have hp : 0 < out.length := List.length_pos_iff.2 ho
      have hm := List.getElem_mem (h := show out.length - 1 < out.length by omega)
      have h2 := hr _ hm
      have hs : seqLen out = (out[out.length - 1].at_ + 1).toNat := by
        unfold seqLen
        rw [List.getLast?_eq_getElem?, List.getElem?_eq_getElem (by omega)]
      have h3 : ((seqLen out - 1 : Nat) : Int) = out[out.length - 1].at_ := by omega
      rw [h3]
      intro h4
      have := (hmem _).1 hm
      rw [h4] at this
      cases this
theorem seqR_ok {out : List Cel} (hr : ∀ c ∈ out, c.bytes.length ≤ 2048 ∧ ∀ x ∈ c.bytes, x < 256) (n : Nat) : ∀ b ∈ seqR out n, b.length ≤ 2048 ∧ ∀ x ∈ b, x < 256 := fun b hb => by
  unfold seqR at hb
  obtain ⟨k, _, rfl⟩ := List.mem_map.1 hb
  cases hs : seqC out k with
  | none => simp
  | some c => exact hr c (List.mem_of_find?_eq_some hs)
theorem seqLen_le {out : List Cel} (hr : ∀ c ∈ out, 0 ≤ c.at_ ∧ c.at_ < 4096) : seqLen out ≤ 4096 := by
  unfold seqLen
  cases hl : out.getLast? with
  | none => simp
  | some c => have := hr c (List.mem_of_getLast? hl); simp only; omega
/-! ### A log -/
open Classical in
noncomputable def owT (ow : Nat → Nat) (P : Nat → Prop) (t : Nat) : Nat → Nat := fun x => if P x then t else ow x
theorem owT_yes {ow : Nat → Nat} {P : Nat → Prop} {t x : Nat} (h : P x) : owT ow P t x = t := by unfold owT; rw [if_pos h]
theorem owT_no {ow : Nat → Nat} {P : Nat → Prop} {t x : Nat} (h : ¬ P x) : owT ow P t x = ow x := by unfold owT; rw [if_neg h]
theorem NodesS.tag {h : AHeap} {room : Int} {n : Nat} {rs : Nat → NR} {nd : Nds} {ow : Nat → Nat} (w : NodesS h room n rs nd ow) {P : Nat → Prop} {t : Nat} (hp : ∀ x, P x → ow x < 5 ∧ x < h.n) : NodesS h room n rs nd (owT ow P t) :=
  ⟨w.nd, fun q hq x hx => by
    have h1 := w.ond q hq x hx
    rw [owT_no fun hh => by have := (hp x hh).1; omega]
    exact h1, fun x hx => by
    by_cases e : P x
    · exact (hp x e).2
    · rw [owT_no e] at hx; exact w.old x hx⟩
structure LogS (h0 h : AHeap) (L : Nat) (room : Int) (n : Nat) (rs : Nat → NR) (dv nv pv : V) (ow : Nat → Nat) (s : LS) : Prop where
  keep : Keep h0 h none_
  new : ∀ x, ow x ≠ 0 → h0.n ≤ x
  owL : ow L = 1
  get : h.get L = .cells [dv, nv, .bool s.op, .int .i64 s.ep, pv] 129 none
  dk : Own h 25 1 dv (ptrs (fun q => (rs q).i) n)
  nk : Own h 34 1 nv (ptrs (fun q => (rs q).a) n)
  pk : Own h 29 1 pv (rowV s.row)
  owd : ∀ x, idOf dv = some x → ow x = 2
  own_ : ∀ x, idOf nv = some x → ow x = 3
  owp : ∀ x, idOf pv = some x → ow x = 4
  ns : NodesS h room n rs s.nd ow
  rok : ∀ b ∈ s.row, b.length ≤ 2048 ∧ ∀ x ∈ b, x < 256
  rl : s.row.length ≤ 4096
theorem LogS.lt {h0 h : AHeap} {L : Nat} {room : Int} {n : Nat} {rs : Nat → NR} {dv nv pv : V} {ow : Nat → Nat} {s : LS} (w : LogS h0 h L room n rs dv nv pv ow s) : L < h.n := w.ns.old L (by rw [w.owL]; decide)
theorem LogS.on {h0 h h' : AHeap} {L : Nat} {room : Int} {n : Nat} {rs : Nat → NR} {dv nv pv : V} {ow : Nat → Nat} {s : LS} (w : LogS h0 h L room n rs dv nv pv ow s) (k : Keep h h' none_) : LogS h0 h' L room n rs dv nv pv ow s :=
  ⟨w.keep.trans' k, w.new, w.owL, (k.get L w.lt fun hh => hh).trans w.get, w.dk.keepN k, w.nk.keepN k, w.pk.keepN k, w.owd, w.own_, w.owp, w.ns.on k fun x hx => hx.elim, w.rok, w.rl⟩
/-- Behind a step of the nodes. -/
theorem LogS.after {h0 h h' : AHeap} {L : Nat} {room : Int} {n : Nat} {rs rs' : Nat → NR} {dv nv pv : V} {ow ow' : Nat → Nat} {s : LS} {nd' : Nds} (w : LogS h0 h L room n rs dv nv pv ow s) (sm : Same h h' n rs rs' ow ow') (ns : NodesS h' room n rs' nd' ow') : LogS h0 h' L room n rs' dv nv pv ow' { s with nd := nd' } := by
  have k := sm.keep
  have kn := w.keep.n
  have old : ∀ x, ow x ≠ 0 → ow x < 5 → ow' x = ow x ∧ ¬ 5 ≤ ow x := fun x h1 h2 => ⟨sm.ow x (w.ns.old x h1), by omega⟩
  refine ⟨w.keep.trans k fun x hx hh => by have hh' : 5 ≤ ow x := hh; have := w.new x (by omega); omega, fun x hx => ?_, (old L (by rw [w.owL]; decide) (by rw [w.owL]; decide)).1.trans w.owL, (k.get L w.lt (by rw [w.owL]; decide)).trans w.get, ?_, ?_, w.pk.keep k fun x hx => by rw [w.owp x hx]; decide, fun x hx => ?_, fun x hx => ?_, fun x hx => ?_, ns, w.rok, w.rl⟩
  · by_cases hl : x < h.n
    · rw [sm.ow x hl] at hx; exact w.new x hx
    · omega
  · rw [ptrs_congr (g := fun q => (rs q).i) fun q hq => sm.i q hq]
    exact w.dk.keep k fun x hx => by rw [w.owd x hx]; decide
  · rw [ptrs_congr (g := fun q => (rs q).a) fun q hq => sm.a q hq]
    exact w.nk.keep k fun x hx => by rw [w.own_ x hx]; decide
  · have := w.owd x hx; rw [(old x (by omega) (by omega)).1]; exact this
  · have := w.own_ x hx; rw [(old x (by omega) (by omega)).1]; exact this
  · have := w.owp x hx; rw [(old x (by omega) (by omega)).1]; exact this
/-- The log's own block, laid down anew. -/
theorem LogS.setL {h0 h : AHeap} {L : Nat} {room : Int} {n : Nat} {rs : Nat → NR} {dv nv pv : V} {ow : Nat → Nat} {s : LS} (w : LogS h0 h L room n rs dv nv pv ow s) (op : Bool) (ep : Int) :
    LogS h0 (h.set L (.cells [dv, nv, .bool op, .int .i64 ep, pv] 129 none)) L room n rs dv nv pv ow { s with op := op, ep := ep } := by
  have k : ∀ o, Keep h (h.set L o) (· = L) := fun o => Keep.set _ _ _
  have hL := w.new L (by rw [w.owL]; decide)
  refine ⟨w.keep.trans (k _) fun x hx hh => by omega, w.new, w.owL, get_set_same, w.dk.keep (k _) fun x hx hh => ?_, w.nk.keep (k _) fun x hx hh => ?_, w.pk.keep (k _) fun x hx hh => ?_, w.owd, w.own_, w.owp, w.ns.on (k _) fun x hx => by rw [hx, w.owL]; decide, w.rok, w.rl⟩
  · have := w.owd x hx; rw [hh, w.owL] at this; cases this
  · have := w.own_ x hx; rw [hh, w.owL] at this; cases this
  · have := w.owp x hx; rw [hh, w.owL] at this; cases this
/-- Another row of payloads. -/
theorem LogS.setRow {h0 h h1 : AHeap} {L : Nat} {room : Int} {n : Nat} {rs : Nat → NR} {dv nv pv pv' : V} {ow : Nat → Nat} {s : LS} (w : LogS h0 h L room n rs dv nv pv ow s) (k1 : Keep h h1 (isId pv)) {row : List (List Nat)} (o : Own h1 29 1 pv' (rowV row)) (hp : ∀ x, idOf pv' = some x → h0.n ≤ x ∧ (ow x = 0 ∨ ow x = 4)) (rok : ∀ b ∈ row, b.length ≤ 2048 ∧ ∀ x ∈ b, x < 256) (rl : row.length ≤ 4096) :
    LogS h0 (h1.set L (.cells [dv, nv, .bool s.op, .int .i64 s.ep, pv'] 129 none)) L room n rs dv nv pv' (owT ow (isId pv') 4) { s with row := row } := by
  have k : ∀ o, Keep h1 (h1.set L o) (· = L) := fun o => Keep.set _ _ _
  have hL := w.new L (by rw [w.owL]; decide)
  have nn : ∀ x, ow x ≠ 0 → ow x ≠ 4 → ¬ isId pv' x := fun x h1 h2 hh => by have := (hp x hh).2; omega
  have ne : ∀ x, isId pv' x → x ≠ L := fun x hx e => by have := (hp x hx).2; rw [e, w.owL] at this; omega
  have t4 : ∀ x, isId pv x → ow x = 4 := fun x hx => w.owp x hx
  refine ⟨(w.keep.trans k1 fun x hx hh => by have := t4 x hh; have := w.new x (by omega); omega).trans (k _) fun x hx hh => by omega, fun x hx => ?_, (owT_no (nn L (by rw [w.owL]; decide) (by rw [w.owL]; decide))).trans w.owL, get_set_same, (w.dk.keep k1 fun x hx hh => ?_).keep (k _) fun x hx hh => ?_, (w.nk.keep k1 fun x hx hh => ?_).keep (k _) fun x hx hh => ?_, o.keep (k _) fun x hx hh => ne x hx hh, fun x hx => ?_, fun x hx => ?_, fun x hx => owT_yes hx, ((w.ns.on k1 fun x hx => by rw [t4 x hx]; decide).tag (P := isId pv') fun x hx => ⟨by have := (hp x hx).2; omega, o.lt x hx⟩).on (k _) fun x hx => ?_, rok, rl⟩
  · by_cases e : isId pv' x
    · exact (hp x e).1
    · rw [owT_no e] at hx; exact w.new x hx
  · have := w.owd x hx; rw [t4 x hh] at this; cases this
  · have := w.owd x hx; rw [hh, w.owL] at this; cases this
  · have := w.own_ x hx; rw [t4 x hh] at this; cases this
  · have := w.own_ x hx; rw [hh, w.owL] at this; cases this
  · have := w.owd x hx; rw [owT_no (nn x (by omega) (by omega))]; exact this
  · have := w.own_ x hx; rw [owT_no (nn x (by omega) (by omega))]; exact this
  · show owT ow (isId pv') 4 x < 5
    rw [show x = L from hx, owT_no (nn L (by rw [w.owL]; decide) (by rw [w.owL]; decide)), w.owL]; decide
/-- What a log's call leaves as it is: all that belongs to no log. -/
structure LFr (h h' : AHeap) (ow ow' : Nat → Nat) : Prop where
  keep : Keep h h' (fun x => ow x ≠ 0)
  z : ∀ x, x < h.n → ow x = 0 → ow' x = 0
theorem LFr.refl (h : AHeap) (ow : Nat → Nat) : LFr h h ow ow := ⟨Keep.refl _ _, fun _ _ h0 => h0⟩
theorem LFr.trans {h h1 h2 : AHeap} {ow ow1 ow2 : Nat → Nat} (a : LFr h h1 ow ow1) (b : LFr h1 h2 ow1 ow2) : LFr h h2 ow ow2 :=
  ⟨a.keep.trans b.keep fun x hx hh h0 => hh (a.z x hx h0), fun x hx h0 => b.z x (Nat.lt_of_lt_of_le hx a.keep.n) (a.z x hx h0)⟩
theorem LFr.none {h h' : AHeap} (ow : Nat → Nat) (k : Keep h h' none_) : LFr h h' ow ow := ⟨k.up, fun _ _ h0 => h0⟩
theorem LFr.same {h h' : AHeap} {n : Nat} {rs rs' : Nat → NR} {ow ow' : Nat → Nat} (s : Same h h' n rs rs' ow ow') : LFr h h' ow ow' :=
  ⟨s.keep.mono fun x hx h0 => by have : 5 ≤ ow x := hx; omega, fun x hx h0 => (s.ow x hx).trans h0⟩
theorem LFr.set {h : AHeap} {ow : Nat → Nat} {L : Nat} (hL : ow L ≠ 0) (o : AObj) : LFr h (h.set L o) ow ow := ⟨(Keep.set h L o).mono fun x hx => by rw [show x = L from hx]; exact hL, fun _ _ h0 => h0⟩
theorem LFr.tag {h h' : AHeap} {ow ow' : Nat → Nat} (a : LFr h h' ow ow') {P : Nat → Prop} {t : Nat} (hp : ∀ x, x < h.n → ow x = 0 → ¬ P x) : LFr h h' ow (owT ow' P t) :=
  ⟨a.keep, fun x hx h0 => by rw [owT_no (hp x hx h0)]; exact a.z x hx h0⟩
theorem RVal.fr {h h' : AHeap} {ow ow' : Nat → Nat} {rv : V} {l : List Bool} (r : RVal h ow rv l) (f : LFr h h' ow ow') : RVal h' ow' rv l := r.on f.keep (fun _ _ h0 hh => hh h0) f.z
end Go.Proofs.YtilgpaibolollaaGreat.Pk
namespace Go.Proofs.YtilgpaibolollaaGreat.Pk
open Go Go.Proofs Go.Proofs.YtilgpaibolollaaGreat.Ab
set_option maxRecDepth 10000
set_option linter.unusedVariables false
set_option linter.unusedSimpArgs false
theorem rowV_get {l : List (List Nat)} {i : Nat} (h : i < (rowV l).length) : (rowV l)[i] = .imm (l[i]'(by rw [rowV_len] at h; exact h)).length (bytesV (l[i]'(by rw [rowV_len] at h; exact h))) := by
  simp only [rowV, List.getElem_map]
set_option maxHeartbeats 4000000 in
set_option maxRecDepth 20000 in
theorem logOpen {h0 h : AHeap} {L : Nat} {room : Int} {n : Nat} {rs : Nat → NR} {dv nv pv : V} {ow : Nat → Nat} {s : LS} (w : LogS h0 h L room n rs dv nv pv ow s) (he : 0 ≤ s.ep ∧ s.ep < 2 ^ 40) (hn : n ≤ 2 ^ 10) (reach : List Bool) {rv : V} (rvl : RVal h ow rv reach) (hr : reach.length ≤ 2 ^ 47) :
    SCalls Tryz.prog 30 [.ptr L 0, rv] h (fun x h' => ∃ s' e rs' pv' ow', OpenR room n (rch reach) s s' e ∧ x = .int .i64 e ∧ LogS h0 h' L room n rs' dv nv pv' ow' s' ∧ s'.ep = s.ep + 1 ∧ LFr h h' ow ow') := by
  have hw : IntKind.i64.wrap (s.ep + 1) = s.ep + 1 := Go.IntWalk.i64_in _ (by omega)
  have gL := w.get
  have d3 : ∀ (a b c d e : V), dropC (AObj.cells [a, b, c, d, e] 129 none) 3 = some [d, e] := fun _ _ _ _ _ => rfl
  have s3 : ∀ (a b c d e x : V), x.one = true → setC (some 1) (AObj.cells [a, b, c, d, e] 129 none) 3 [x] = some (.cells [a, b, c, x, e] 129 none) := fun a b c d e x hx => by rw [setC_one hx]; rfl
  have s2 : ∀ (a b c d e x : V), x.one = true → setC (some 1) (AObj.cells [a, b, c, d, e] 129 none) 2 [x] = some (.cells [a, b, x, d, e] 129 none) := fun a b c d e x hx => by rw [setC_one hx]; rfl
  have s4 : ∀ (a b c d e x : V), x.one = true → setC (some 1) (AObj.cells [a, b, c, d, e] 129 none) 4 [x] = some (.cells [a, b, c, d, x] 129 none) := fun a b c d e x hx => by rw [setC_one hx]; rfl
  have t3 := s3 dv nv (.bool s.op) (.int .i64 s.ep) pv (.int .i64 (s.ep + 1)) rfl
  have t2 := s2 dv nv (.bool s.op) (.int .i64 (s.ep + 1)) pv (.bool false) rfl
  have w1 := w.setL false (s.ep + 1)
  have fr1 := LFr.set (h := h) (ow := ow) (L := L) (by rw [w.owL]; decide) (.cells [dv, nv, .bool false, .int .i64 (s.ep + 1), pv] 129 none)
  refine SCalls.enterI (c := _) Tryz.func30 rfl (by kernel_rfl) (by simp) ?_
  simp only [bW, Nat.reduceEqDiff, reduceCtorEq, ft_129_2, ft_129_3, kt_69, lt_3, zt_3, zt_4, gL, d3, t3, t2, hw]
  generalize h.set L (.cells [dv, nv, .bool false, .int .i64 (s.ep + 1), pv] 129 none) = h1 at w1 fr1 ⊢
  refine callI_of cal66 (logSeal w1.ns w1.get ⟨w1.lt, by rw [w1.owL]; decide⟩ w1.nk (fun x hx => ⟨by rw [w1.own_ x hx]; decide, w1.nk.lt x hx⟩) hn reach (rvl.fr fr1) hr) fun x h2 ⟨rows, ex, rs2, ow2, ns2, sm2, rp⟩ => ?_
  subst ex
  have w2 := w1.after sm2 ns2
  have fr2 := fr1.trans (LFr.same sm2)
  simp only at w2
  by_cases hq : n / 2 + 1 ≤ cntN (fineN (nseal room (s.ep + 1)) (rch reach) s.nd) n
  case neg =>
    have c1 : decide (n / 2 + 1 ≤ cntN (fineN (nseal room (s.ep + 1)) (rch reach) s.nd) n) = false := decide_eq_false hq
    simp only [bW, Nat.reduceEqDiff, c1, retA_ret, Tryz.results30, resultsA_1]
    exact hid_mk ⟨_, 8, rs2, pv, ow2, by unfold OpenR; rw [if_neg hq]; exact ⟨rfl, rfl⟩, rfl, w2, rfl, fr2⟩
  have c1 : decide (n / 2 + 1 ≤ cntN (fineN (nseal room (s.ep + 1)) (rch reach) s.nd) n) = true := decide_eq_true hq
  have hsm : smallC rows.flatten := ⟨by
      have h1 := rp.len
      have h2 : n * mostC ≤ 2 ^ 10 * mostC := Nat.mul_le_mul_right _ hn
      exact Nat.le_trans h1 (Nat.le_trans h2 (by unfold mostC; decide)), fun c hc => by have := (rp.sm c hc).1.1; omega⟩
  simp only [bW, Nat.reduceEqDiff, c1]
  refine callI_of cal68 (mergeI rows hsm (by have := rp.rl; omega) h2) fun x h3 ⟨out, io, k3, ex⟩ => ?_
  subst ex
  have osm : ∀ c ∈ out, (c.bytes.length ≤ 2048 ∧ ∀ x ∈ c.bytes, x < 256) ∧ 0 ≤ c.at_ ∧ c.at_ < 4096 := fun c hc => rp.sm c (io.sub c hc)
  have w3 := w2.on k3
  simp only [bW, Nat.reduceEqDiff]
  refine callI_of cal67 (pSeq out io.up (fun c hc => (osm c hc).2) h3) fun prv h4 acc => ?_
  have w4 := w3.on acc.keep
  have fr4 := (fr2.trans (LFr.none ow2 k3)).trans (LFr.none ow2 acc.keep)
  have newp : ∀ y, idOf prv = some y → h.n ≤ y := fun y hy => by have := acc.new y hy; have := k3.n; have := fr2.keep.n; omega
  have hri := rowIs_of rp.at_ io (fun c hc => (osm c hc).2)
  have hrok := seqR_ok (fun c hc => (osm c hc).1) (seqLen out)
  have hrl := seqLen_le (fun c hc => (osm c hc).2)
  have hrll := seqR_len out (seqLen out)
  generalize seqR out (seqLen out) = row at acc hri hrok hrll
  have hrl' : row.length ≤ 4096 := by omega
  have hlen : ∀ {hh : AHeap}, Own hh 29 1 prv (rowV row) → aLen Tryz.prog 73 prv hh = some (.int .i64 (row.length : Nat)) := fun {hh} o => by
    have := o.length (by decide) Tryz.prog (t := 73) kt_73
    rw [Nat.div_one] at this
    unfold rowV at this
    rw [List.length_map] at this
    exact this
  have len4 := hlen acc.own
  have kn23 := w2.keep.n
  simp only [bW, Nat.reduceEqDiff, len4]
  have kn0 := w4.keep.n
  refine SWp.loopG (α := Nat × (Nat → NR) × (Nat → Nat) × Nds) (fun x f h' => f 0 = .ptr L 0 ∧ f 1 = rv ∧ f 7 = prv ∧ f 33 = prv ∧ f 34 = .int .i64 (row.length : Nat) ∧ f 35 = .int .i64 (x.1 : Nat) ∧ x.1 ≤ row.length ∧
      wRow room n (s.ep + 1) (rch reach) (row.take x.1) 0 (allN (nseal room (s.ep + 1)) (rch reach) n s.nd) = (x.2.2.2, true) ∧ LogS h0 h' L room n x.2.1 dv nv pv x.2.2.1 ⟨x.2.2.2, false, s.ep + 1, s.row⟩ ∧ Own h' 29 1 prv (rowV row) ∧ (∀ y, idOf prv = some y → h0.n ≤ y ∧ x.2.2.1 y = 0) ∧ LFr h h' ow x.2.2.1) (fun x => row.length - x.1) (0, rs2, ow2, allN (nseal room (s.ep + 1)) (rch reach) n s.nd)
    ⟨rfl, rfl, rfl, rfl, rfl, rfl, Nat.zero_le _, rfl, w4, acc.own, fun y hy => ⟨by have := acc.new y hy; have := w3.keep.n; omega, w3.ns.zero (acc.new y hy)⟩, fr4⟩ ?_
  rintro ⟨i, rs5, ow5, nd5⟩ f h5 ⟨f0, f1, f7, f33, f34, f35, hi, hwr, w5, o5, t5, fr5⟩
  simp only at f35 hi hwr w5 t5 fr5
  refine wpI_sound (by kernel_rfl) ?_
  by_cases hlt : i < row.length
  · have e1 : decide ((i : Int) < ((row.length : Nat) : Int)) = true := decide_eq_true (by omega)
    have hwi : IntKind.i64.wrap ((i : Int) + 1) = ((i + 1 : Nat) : Int) := by rw [Go.IntWalk.i64_in _ (by omega)]; rfl
    have hk' : i < (rowV row).length := by unfold rowV; rw [List.length_map]; exact hlt
    obtain ⟨j, x1, x2, ⟨rr, x3⟩, _⟩ := own_elem (P := Tryz.prog) (t := 73) (kk := .i64) ss_73 o5 (k := i) hk'
    have hel : (rowV row)[i] = .imm row[i].length (bytesV row[i]) := rowV_get hk'
    rw [hel] at x3
    have hbi := hrok _ (List.getElem_mem hlt)
    have htk := List.take_succ_eq_append_getElem hlt
    generalize row[i] = b at x3 hbi htk
    have hsn := wRow_snoc (room := room) (n := n) (ep := s.ep + 1) (rc := rch reach) (row.take i) b 0 (allN (nseal room (s.ep + 1)) (rch reach) n s.nd) (by rw [hwr])
    rw [hwr, ← htk, List.length_take, Nat.zero_add, Nat.min_eq_left hi] at hsn
    simp only at hsn
    have hgo := @w5.get
    simp only at hgo
    simp only [bW, Nat.reduceEqDiff, reduceCtorEq, lt_29, f0, f1, f33, f34, f35, e1, x1, x3]
    refine callI_of cal63 (logWrite w5.ns (i : Int) hbi.2 (by omega) w5.get ⟨w5.lt, by rw [w5.owL]; decide⟩ w5.nk (fun x hx => by rw [w5.own_ x hx]; decide) hn reach (rvl.fr fr5) hr) fun x h6 ⟨ex, rs6, ow6, ns6, sm6⟩ => ?_
    subst ex
    have w6 := w5.after sm6 ns6
    simp only at w6
    cases hok : (wrL room n (s.ep + 1) (i : Int) b (rch reach) nd5).2 with
    | true =>
      simp only [bW, Nat.reduceEqDiff, f35, hwi]
      refine hid_mk ⟨(i + 1, rs6, ow6, (wrL room n (s.ep + 1) (i : Int) b (rch reach) nd5).1), ⟨f0, f1, f7, f33, f34, rfl, hlt, ?_, w6, o5.keep sm6.keep fun y hy => by have := (t5 y hy).2; omega, fun y hy => ⟨(t5 y hy).1, (sm6.ow y (o5.lt y hy)).trans (t5 y hy).2⟩, fr5.trans (LFr.same sm6)⟩, by simp only; omega⟩
      show wRow room n (s.ep + 1) (rch reach) (row.take (i + 1)) 0 _ = _
      rw [hsn, ← hok]
    | false =>
      simp only [bW, Nat.reduceEqDiff, retA_ret, Tryz.results30, resultsA_1]
      have hst := wRow_stop (room := room) (n := n) (ep := s.ep + 1) (rc := rch reach) (row.take (i + 1)) (row.drop (i + 1)) 0 (allN (nseal room (s.ep + 1)) (rch reach) n s.nd) (by rw [hsn]; exact hok)
      rw [List.take_append_drop, hsn] at hst
      refine hid_mk ⟨_, 8, rs6, pv, ow6, ?_, rfl, w6, rfl, fr5.trans (LFr.same sm6)⟩
      unfold OpenR
      rw [if_pos hq]
      refine ⟨row, hri, ?_⟩
      rw [hst, if_neg (by rw [hok]; decide)]
      exact ⟨rfl, rfl⟩
  · have e1 : decide ((i : Int) < ((row.length : Nat) : Int)) = false := decide_eq_false (by omega)
    have hin : i = row.length := by omega
    subst hin
    rw [List.take_length] at hwr
    have g5 := w5.get
    simp only at g5
    have w6 := w5.setRow (Keep.refl _ _) o5 (fun x hx => ⟨(t5 x hx).1, .inl (t5 x hx).2⟩) hrok hrl'
    simp only at w6
    have w7 := w6.setL true (s.ep + 1)
    simp only at w7
    obtain ⟨vc, v1⟩ := one_of_own o5
    have u4 := s4 dv nv (.bool false) (.int .i64 (s.ep + 1)) pv prv v1
    have u2 := s2 dv nv (.bool false) (.int .i64 (s.ep + 1)) prv (.bool true) rfl
    rw [set_set] at w7
    simp only [bW, Nat.reduceEqDiff, reduceCtorEq, ft_129_2, ft_129_4, zt_4, zt_73, f0, f7, f34, f35, e1, g5, vc, u4, u2, retA_ret, Tryz.results30, resultsA_1]
    refine hid_mk ⟨_, 0, rs5, prv, owT ow5 (isId prv) 4, ?_, rfl, w7, rfl, (fr5.trans (LFr.set (by rw [w5.owL]; decide) _)).tag fun x hx _ hh => by have := newp x hh; omega⟩
    unfold OpenR
    rw [if_pos hq]
    refine ⟨row, hri, ?_⟩
    rw [hwr, if_pos rfl]
    exact ⟨rfl, rfl⟩
end Go.Proofs.YtilgpaibolollaaGreat.Pk
namespace Go.Proofs.YtilgpaibolollaaGreat.Pk
open Go Go.Proofs Go.Proofs.YtilgpaibolollaaGreat.Ab
set_option maxRecDepth 10000
set_option linter.unusedVariables false
set_option linter.unusedSimpArgs false
theorem logLen {h0 h : AHeap} {L : Nat} {room : Int} {n : Nat} {rs : Nat → NR} {dv nv pv : V} {ow : Nat → Nat} {s : LS} (w : LogS h0 h L room n rs dv nv pv ow s) : Pure Tryz.prog 62 [.ptr L 0] h (.int .i64 (s.row.length : Nat)) := by
  have gL := w.get
  have d4 : ∀ (a b c d e : V), dropC (AObj.cells [a, b, c, d, e] 129 none) 4 = some [e] := fun _ _ _ _ _ => rfl
  have hl := w.pk.length (by decide) Tryz.prog (t := 73) kt_73
  rw [Nat.div_one, rowV_len] at hl
  refine SCalls.enterI (c := _) Tryz.func62 rfl (by kernel_rfl) (by simp) ?_
  simp only [bW, Nat.reduceEqDiff, reduceCtorEq, ft_129_4, kt_69, lt_73, gL, d4, hl, retA_ret, Tryz.results62, resultsA_1]
  exact hid_mk ⟨rfl, rfl⟩
theorem logEpoch {h0 h : AHeap} {L : Nat} {room : Int} {n : Nat} {rs : Nat → NR} {dv nv pv : V} {ow : Nat → Nat} {s : LS} (w : LogS h0 h L room n rs dv nv pv ow s) : Pure Tryz.prog 38 [.ptr L 0] h (.int .i64 s.ep) := by
  have gL := w.get
  have d3 : ∀ (a b c d e : V), dropC (AObj.cells [a, b, c, d, e] 129 none) 3 = some [d, e] := fun _ _ _ _ _ => rfl
  refine SCalls.enterI (c := _) Tryz.func38 rfl (by kernel_rfl) (by simp) ?_
  simp only [bW, Nat.reduceEqDiff, reduceCtorEq, ft_129_3, kt_69, lt_3, gL, d3, retA_ret, Tryz.results38, resultsA_1]
  exact hid_mk ⟨rfl, rfl⟩
theorem row_at {h : AHeap} {v : V} {l : List (List Nat)} (o : Own h 29 1 v (rowV l)) {i : Nat} (hi : i < l.length) : ∃ j rr, aIndexAddr Tryz.prog 73 v (.int .i64 (i : Int)) = some (.ptr j i) ∧ dropC (h.get j) i = some (.imm l[i].length (bytesV l[i]) :: rr) := by
  have hk' : i < (rowV l).length := by rw [rowV_len]; exact hi
  obtain ⟨j, x1, x2, ⟨rr, x3⟩, _⟩ := own_elem (P := Tryz.prog) (t := 73) (kk := .i64) ss_73 o (k := i) hk'
  rw [rowV_get hk'] at x3
  exact ⟨j, rr, x1, x3⟩
theorem row_len {h : AHeap} {v : V} {l : List (List Nat)} (o : Own h 29 1 v (rowV l)) : aLen Tryz.prog 73 v h = some (.int .i64 (l.length : Nat)) := by
  have hl := o.length (by decide) Tryz.prog (t := 73) kt_73
  rw [Nat.div_one, rowV_len] at hl
  exact hl
set_option maxRecDepth 10000 in
theorem logGet {h0 h : AHeap} {L : Nat} {room : Int} {n : Nat} {rs : Nat → NR} {dv nv pv : V} {ow : Nat → Nat} {s : LS} (w : LogS h0 h L room n rs dv nv pv ow s) {i : Nat} (hi : i < s.row.length) : Pure Tryz.prog 79 [.ptr L 0, .int .i64 (i : Int)] h (.tuple [.imm s.row[i].length (bytesV s.row[i]), .int .i64 0]) := by
  have gL := w.get
  have d4 : ∀ (a b c d e : V), dropC (AObj.cells [a, b, c, d, e] 129 none) 4 = some [e] := fun _ _ _ _ _ => rfl
  have c1 : decide ((i : Int) < 0) = false := decide_eq_false (by omega)
  have c2 : decide (((s.row.length : Nat) : Int) ≤ (i : Int)) = false := decide_eq_false (by omega)
  obtain ⟨j, rr, x1, x3⟩ := row_at w.pk hi
  have hb := (w.rok _ (List.getElem_mem hi)).1
  refine SCalls.enterI (c := _) Tryz.func79 rfl (by kernel_rfl) (by simp) ?_
  simp only [bW, Nat.reduceEqDiff, reduceCtorEq, c1]
  refine callI_pure cal62 (logLen w) ?_
  simp only [bW, Nat.reduceEqDiff, reduceCtorEq, ft_129_4, lt_29, lt_73, c2, gL, d4, x1, x3]
  refine callI_pure cal64 (pCloneB _ (by omega) h) ?_
  simp only [bW, Nat.reduceEqDiff, retA_ret, Tryz.results79, resultsA_2]
  exact hid_mk ⟨rfl, rfl⟩
set_option maxHeartbeats 1000000 in
set_option maxRecDepth 20000 in
theorem logAppend {h0 h : AHeap} {L : Nat} {room : Int} {n : Nat} {rs : Nat → NR} {dv nv pv : V} {ow : Nat → Nat} {s : LS} (w : LogS h0 h L room n rs dv nv pv ow s) (hn : n ≤ 2 ^ 10) (b : List Nat) (hb : ∀ x ∈ b, x < 256) (reach : List Bool) {rv : V} (rvl : RVal h ow rv reach) (hr : reach.length ≤ 2 ^ 47) :
    SCalls Tryz.prog 28 [.ptr L 0, .imm b.length (bytesV b), rv] h (fun x h' => x = .tuple [.int .i64 ((appL room n (rch reach) b s).2.1 : Nat), .int .i64 (appL room n (rch reach) b s).2.2] ∧ ∃ rs' pv' ow', LogS h0 h' L room n rs' dv nv pv' ow' (appL room n (rch reach) b s).1 ∧ LFr h h' ow ow') := by
  have gL := w.get
  have d2 : ∀ (a b c d e : V), dropC (AObj.cells [a, b, c, d, e] 129 none) 2 = some [c, d, e] := fun _ _ _ _ _ => rfl
  have d4 : ∀ (a b c d e : V), dropC (AObj.cells [a, b, c, d, e] 129 none) 4 = some [e] := fun _ _ _ _ _ => rfl
  have s2 : ∀ (a b c d e x : V), x.one = true → setC (some 1) (AObj.cells [a, b, c, d, e] 129 none) 2 [x] = some (.cells [a, b, x, d, e] 129 none) := fun a b c d e x hx => by rw [setC_one hx]; rfl
  have s4 : ∀ (a b c d e x : V), x.one = true → setC (some 1) (AObj.cells [a, b, c, d, e] 129 none) 4 [x] = some (.cells [a, b, c, d, x] 129 none) := fun a b c d e x hx => by rw [setC_one hx]; rfl
  refine SCalls.enterI (c := _) Tryz.func28 rfl (by kernel_rfl) (by simp) ?_
  cases hop : s.op with
  | false =>
    have ha : appL room n (rch reach) b s = (s, 0, 8) := app_shut hop
    rw [hop] at gL
    simp only [bW, Nat.reduceEqDiff, reduceCtorEq, ft_129_2, kt_69, lt_4, gL, d2, retA_ret, Tryz.results28, resultsA_2]
    rw [ha]
    exact hid_mk ⟨rfl, rs, pv, ow, w, LFr.refl _ _⟩
  | true =>
  rw [hop] at gL
  by_cases hz : b.length = 0
  · have ha : appL room n (rch reach) b s = (s, 0, 2) := app_range hop (.inl hz)
    have c1 : (((b.length : Nat) : Int) == 0) = true := by rw [hz]; rfl
    simp only [bW, Nat.reduceEqDiff, reduceCtorEq, ft_129_2, kt_29, kt_69, lt_4, gL, d2, c1, retA_ret, Tryz.results28, resultsA_2]
    rw [ha]
    exact hid_mk ⟨rfl, rs, pv, ow, w, LFr.refl _ _⟩
  have c1 : (((b.length : Nat) : Int) == 0) = false := by rw [beq_eq_false_iff_ne]; omega
  by_cases hg : 2048 < b.length
  · have ha : appL room n (rch reach) b s = (s, 0, 2) := app_range hop (.inr hg)
    have c2 : decide ((2048 : Int) < ((b.length : Nat) : Int)) = true := decide_eq_true (by omega)
    simp only [bW, Nat.reduceEqDiff, reduceCtorEq, ft_129_2, kt_29, kt_69, lt_4, gL, d2, c1, c2, retA_ret, Tryz.results28, resultsA_2]
    rw [ha]
    exact hid_mk ⟨rfl, rs, pv, ow, w, LFr.refl _ _⟩
  have c2 : decide ((2048 : Int) < ((b.length : Nat) : Int)) = false := decide_eq_false (by omega)
  have len0 := row_len w.pk
  by_cases hf : 4096 ≤ s.row.length
  · have ha : appL room n (rch reach) b s = (s, 0, 3) := by unfold appL; rw [if_neg (by rw [hop]; decide), if_neg (by omega), if_pos hf]
    have c3 : decide ((4096 : Int) ≤ ((s.row.length : Nat) : Int)) = true := decide_eq_true (by omega)
    simp only [bW, Nat.reduceEqDiff, reduceCtorEq, ft_129_2, ft_129_4, kt_29, kt_69, lt_4, lt_73, gL, d2, d4, c1, c2, len0, c3, retA_ret, Tryz.results28, resultsA_2]
    rw [ha]
    exact hid_mk ⟨rfl, rs, pv, ow, w, LFr.refl _ _⟩
  have c3 : decide ((4096 : Int) ≤ ((s.row.length : Nat) : Int)) = false := decide_eq_false (by omega)
  simp only [bW, Nat.reduceEqDiff, reduceCtorEq, ft_129_2, ft_129_4, kt_29, kt_69, lt_4, lt_73, gL, d2, d4, c1, c2, len0, c3]
  refine callI_of cal63 (logWrite w.ns (s.row.length : Nat) hb (by omega) w.get ⟨w.lt, by rw [w.owL]; decide⟩ w.nk (fun x hx => by rw [w.own_ x hx]; decide) hn reach rvl hr) fun x h1 ⟨ex, rs1, ow1, ns1, sm1⟩ => ?_
  subst ex
  have w1 := w.after sm1 ns1
  have g1 := w1.get
  simp only [hop] at g1
  have hA : appL room n (rch reach) b s = if (wrL room n s.ep (s.row.length : Nat) b (rch reach) s.nd).2 = true then (⟨(wrL room n s.ep (s.row.length : Nat) b (rch reach) s.nd).1, true, s.ep, s.row ++ [b]⟩, s.row.length, 0)
      else (⟨(wrL room n s.ep (s.row.length : Nat) b (rch reach) s.nd).1, false, s.ep, s.row⟩, 0, 8) := by
    unfold appL; rw [if_neg (by rw [hop]; decide), if_neg (by omega), if_neg hf]
  cases hok : (wrL room n s.ep (s.row.length : Nat) b (rch reach) s.nd).2 with
  | false =>
    rw [if_neg (by rw [hok]; decide)] at hA
    rw [hA]
    have u2 := s2 dv nv (.bool true) (.int .i64 s.ep) pv (.bool false) rfl
    simp only [bW, Nat.reduceEqDiff, reduceCtorEq, ft_129_2, zt_4, g1, u2, retA_ret, Tryz.results28, resultsA_2]
    exact hid_mk ⟨rfl, rs1, pv, ow1, w1.setL false s.ep, (LFr.same sm1).trans (LFr.set (by rw [w1.owL]; decide) _)⟩
  | true =>
    rw [if_pos hok] at hA
    rw [hA]
    have hrl := rowV_len s.row
    obtain ⟨v, h2, ea, o2, k2, nw2⟩ := append_elemM (P := Tryz.prog) sl_73 (by decide) w1.pk (xs := [.imm b.length (bytesV b)]) rfl rfl (fun m hm => by
      change m * 1 = (rowV s.row).length + 1 at hm
      rw [hrl] at hm
      exact ⟨by simp only [lim]; omega, by simp only [lim]; omega⟩)
    have lit : aBuildSlice Tryz.prog 73 1 [(0, .imm b.length (bytesV b))] h1 = some (.sl h1.n 0 1 1, h1.push (.cells [.imm b.length (bytesV b)] 29 none)) := by rw [buildSlice_go sl_73]; rfl
    have m1 : ¬ idOf pv = some L := fun e => by have := w1.owp L e; rw [w1.owL] at this; cases this
    have m2 : ¬ idOf pv = some h1.n := fun e => by have := w1.pk.lt _ e; omega
    obtain ⟨vc, v1⟩ := one_of_own o2
    have g2 : h2.get L = .cells [dv, nv, .bool true, .int .i64 s.ep, pv] 129 none := (k2.get L w1.lt m1).trans g1
    have u4 := s4 dv nv (.bool true) (.int .i64 s.ep) pv v v1
    have w2 := w1.setRow k2 (row := s.row ++ [b]) (by
      show Own h2 29 1 v (rowV (s.row ++ [b]))
      have : rowV (s.row ++ [b]) = rowV s.row ++ [.imm b.length (bytesV b)] := by unfold rowV; rw [List.map_append]; rfl
      rw [this]; exact o2) (fun x hx => by
      rcases nw2 with e | e
      · rw [e] at hx
        have := w1.owp x hx
        exact ⟨w1.new x (by omega), .inr this⟩
      · have h3 := e x hx
        have := w1.keep.n
        exact ⟨by omega, .inl (w1.ns.zero h3)⟩) (fun c hc => by
      rcases List.mem_append.1 hc with h3 | h3
      · exact w.rok c h3
      · simp at h3; subst h3; exact ⟨by omega, hb⟩) (by rw [List.length_append]; simp; omega)
    simp only [hop] at w2
    simp only [bW, Nat.reduceEqDiff]
    refine SWp.drawnS (fun x => idOf pv = some x) [7, 8, 11] (.q 0 (.q 1 (.q 2 (.q 3 (.q 4 (.q 5 (.c 6 (.e 7 (.e 8 (.q 9 (.q 10 (.a 11 .done))) .stop) .stop)))))))) (by kernel_rfl) (by kernel_rfl) (by kernel_rfl) ?_
    simp only [bW, bS, bM, Nat.reduceEqDiff, reduceCtorEq, ft_129_4, lt_73, g1, d4, m1]
    refine siI_c rfl rfl rfl (fun h' _ => pCloneB b (by omega) h') ?_
    simp only [bW, bS, bM, Nat.reduceEqDiff, ft_129_4, zt_73, lit, ea]
    simp only [bW, bS, bM, Nat.reduceEqDiff, g2, vc, u4, retA_ret, Tryz.results28, resultsA_2]
    have fr2 : LFr h1 h2 ow1 ow1 := ⟨k2.mono fun x hx => by rw [w1.owp x hx]; decide, fun _ _ h0 => h0⟩
    exact ⟨k2, hid_mk ⟨rfl, rs1, v, _, w2, (((LFr.same sm1).trans fr2).trans (LFr.set (by rw [w1.owL]; decide) _)).tag fun x hx h0 hh => by
      rcases nw2 with e | e
      · have h3 := w1.owp x (by rw [← e]; exact hh)
        have h4 := sm1.ow x hx
        omega
      · have h3 := e x hh
        have := sm1.keep.n
        omega⟩⟩
end Go.Proofs.YtilgpaibolollaaGreat.Pk
