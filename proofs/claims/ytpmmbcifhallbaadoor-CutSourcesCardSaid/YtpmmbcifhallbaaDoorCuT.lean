/-
  What functions of the program do, told of abstract states. Conditions: as each theorem says.
-/
import Derived.Test.YtpmmbcifhallbaaDoorCuF
import Derived.Test.YtpmmbcifhallbaaDoorCuL
namespace Go.Proofs.YtpmmbcifhallbaaDoor.Pk
open Go Go.Proofs Go.Proofs.YtpmmbcifhallbaaDoor.Ab
set_option linter.unusedVariables false
set_option linter.unusedSimpArgs false

theorem CastL.pre {xs xs2 : List V} {h h1 : AHeap} (c : CastL xs h xs2 h1) : ∀ cs : List V, CastL (cs ++ xs) h (cs ++ xs2) h1
  | [] => c
  | v :: r => CastL.cons (Cast.refl v h) (CastL.pre c r)
/-- An own slice whose last elements are told otherwise, where they lie. -/
theorem Own.recast {h h1 : AHeap} {e : TypeId} {sz : Nat} {v : V} {cs xs xs2 : List V} {own1 : Nat → Prop} (hne : cs ++ xs ≠ []) (ho : Own h e sz v (cs ++ xs)) (hcl : ∀ z, CastL (xs ++ z) h (xs2 ++ z) h1) (hk : Keep h h1 own1) (hno : ∀ k, idOf v = some k → ¬ own1 k) (hle : xs2.length = xs.length) (r : V) :
    ∃ h2, Cast r h r h2 ∧ Own h2 e sz v (cs ++ xs2) ∧ Keep h1 h2 (isId v) := by
  rcases ho with ⟨_, q⟩ | ⟨i, len, cap, c, ex, rfl, hi, hg, hlen, htake, hcap⟩
  · exact absurd q hne
  have hg1 : h1.get i = .cells c e ex := (hk.get i hi (hno i rfl)).trans hg
  have hc : c = cs ++ (xs ++ c.drop (len * sz)) := by rw [← List.append_assoc, ← htake, List.take_append_drop]
  have hl : (cs ++ xs2).length = len * sz := by rw [← hlen]; simp [hle]
  have hc2 : (cs ++ (xs2 ++ c.drop (len * sz))).length = c.length := by
    conv => rhs; rw [hc]
    simp [hle]
  have hcl2 := CastL.pre (hcl (c.drop (len * sz))) cs
  rw [← hc] at hcl2
  have ct := Cast.cellC hg hcl2 hg1 hc2 r
  refine ⟨_, ct, .inr ⟨i, len, cap, _, ex, rfl, ?_, get_set_same, hl, ?_, ?_⟩, ?_⟩
  · have := hk.n; exact Nat.lt_of_lt_of_le hi this
  · rw [← hl, ← List.append_assoc, List.take_left]
  · rw [hc2]; exact hcap
  · have := Keep.set h1 i (.cells (cs ++ (xs2 ++ c.drop (len * sz))) e ex)
    exact this.mono fun q hq => by simp [isId, idOf, hq]

/-! ### A topology that is built -/
structure Pd where
  k : Int
  x : Int
  id : Nat
  op : Int
def rowP (q : Pd) : List V := [.int .i64 q.k, .sl q.id 0 1 1, .int .i64 q.op, .int .i64 0, .snil, .int .i64 0]
def vxP (q : Pd) : Vx := ⟨q.k, [q.x], .mk q.op 0 [], 0⟩
def rowX (q : Pd) : List V := [.int .i64 q.k, .imm 1 [.int .i64 q.x], .int .i64 q.op, .int .i64 0, .imm 0 [], .int .i64 0]
theorem rowX_eq (q : Pd) : encX (vxP q) = rowX q := by simp [encX, vxP, rowX, encE_eq, i64V]
theorem castP : ∀ (pend : List Pd) (h : AHeap), (∀ q ∈ pend, q.id < h.n ∧ h.get q.id = .cells [.int .i64 q.x] 3 none) → (pend.Pairwise fun a b => a.id ≠ b.id) →
    ∃ h1, (∀ z, CastL (pend.flatMap rowP ++ z) h (pend.flatMap rowX ++ z) h1) ∧ Keep h h1 (fun k => ∃ q ∈ pend, q.id = k)
  | [], h, _, _ => ⟨h, fun z => CastL.refl _ _, Keep.refl _ _⟩
  | q :: r, h, hg, hp => by
    obtain ⟨a1, a2⟩ := hg q (by simp)
    obtain ⟨p1, p2⟩ := List.pairwise_cons.1 hp
    obtain ⟨h2, c2, k2⟩ := Cast.own (ownL (e := 3) (sz := 1) (n := 1) a1 a2 rfl (by simp [unk])) (n := 1) rfl (by decide)
    obtain ⟨h3, c3, k3⟩ := castP r h2 (fun q' hq' => by
      obtain ⟨b1, b2⟩ := hg q' (by simp [hq'])
      have hne := p1 q' hq'
      refine ⟨Nat.lt_of_lt_of_le b1 k2.n, (k2.get q'.id b1 ?_).trans b2⟩
      simp [isId, idOf]
      omega) p2
    refine ⟨h3, fun z => ?_, (k2.mono fun k hk => ?_).trans k3 fun k _ hk => ?_⟩
    · show CastL ([.int .i64 q.k, .sl q.id 0 1 1, .int .i64 q.op, .int .i64 0, .snil, .int .i64 0] ++ r.flatMap rowP ++ z) h ([.int .i64 q.k, .imm 1 [.int .i64 q.x], .int .i64 q.op, .int .i64 0, .imm 0 [], .int .i64 0] ++ r.flatMap rowX ++ z) h3
      exact CastL.cons (Cast.refl _ _) (CastL.cons c2 (CastL.cons (Cast.refl _ _) (CastL.cons (Cast.refl _ _) (CastL.cons (Cast.snil0 _) (CastL.cons (Cast.refl _ _) (c3 z))))))
    · simp [isId, idOf] at hk
      exact ⟨q, by simp, hk⟩
    · obtain ⟨q', a, b⟩ := hk
      exact ⟨q', by simp [a], b⟩
def row0 : List V := [.int .i64 1, .snil, .int .i64 0, .int .i64 0, .snil, .int .i64 0]
def row0X : List V := [.int .i64 1, .imm 0 [], .int .i64 0, .int .i64 0, .imm 0 [], .int .i64 0]
structure Bt (h0 h : AHeap) (E T : Nat) (pend : List Pd) (u : V) : Prop where
  ge : h.get E = .cells [.int .i64 3, .int .i64 0, .snil] 45 none
  gt : h.get T = .cells [u, .int .i64 1] 24 none
  own : Own h 47 6 u (row0 ++ pend.flatMap rowP)
  keep : Keep h0 h none_
  ids : h0.n ≤ E ∧ h0.n ≤ T ∧ E < h.n ∧ T < h.n ∧ E ≠ T
  new : ∀ k, idOf u = some k → h0.n ≤ k ∧ k ≠ E ∧ k ≠ T
  pn : ∀ q ∈ pend, h0.n ≤ q.id ∧ q.id < h.n ∧ h.get q.id = .cells [.int .i64 q.x] 3 none ∧ idOf u ≠ some q.id ∧ q.id ≠ E ∧ q.id ≠ T
  pw : pend.Pairwise fun a b => a.id ≠ b.id
theorem rowsP_len : ∀ pend : List Pd, (pend.flatMap rowP).length = pend.length * 6
  | [] => rfl
  | q :: r => by rw [List.flatMap_cons, List.length_append, rowsP_len r]; simp [rowP]; omega
theorem rowsX_len : ∀ pend : List Pd, (pend.flatMap rowX).length = pend.length * 6
  | [] => rfl
  | q :: r => by rw [List.flatMap_cons, List.length_append, rowsX_len r]; simp [rowX]; omega
theorem Bt.push {h0 h : AHeap} {E T : Nat} {pend : List Pd} {u : V} (b : Bt h0 h E T pend u) (hl : pend.length ≤ 20) (k x op : Int) :
    ∃ v h3, aAppend Tryd.prog 22 22 u (.sl (h.n + 1) 0 1 1) ((h.push (.cells [.int .i64 x] 3 none)).push (.cells [.int .i64 k, .sl h.n 0 1 1, .int .i64 op, .int .i64 0, .snil, .int .i64 0] 47 none)) = some (v, h3) ∧
      h3.get T = .cells [u, .int .i64 1] 24 none ∧ Bt h0 (h3.set T (.cells [v, .int .i64 1] 24 none)) E T (pend ++ [⟨k, x, h.n, op⟩]) v := by
  obtain ⟨i1, i2, i3, i4, i5⟩ := b.ids
  have kp : Keep h (h.push (.cells [.int .i64 x] 3 none)) none_ := Keep.push _ _ _
  have gx : (h.push (.cells [.int .i64 x] 3 none)).get h.n = .cells [.int .i64 x] 3 none := get_push_new
  obtain ⟨v, h3, q1, q2, q3, q4⟩ := append_elemM (P := Tryd.prog) sl_22 (by decide) (b.own.keepN kp) (xs := [.int .i64 k, .sl h.n 0 1 1, .int .i64 op, .int .i64 0, .snil, .int .i64 0]) rfl rfl (fun m hm => by
    rw [List.length_append, rowsP_len] at hm
    simp [row0] at hm
    have : m ≤ 30 := by omega
    refine ⟨?_, by simp [lim]; omega⟩
    simp only [lim]
    omega)
  have hn0 := b.keep.n
  have nu : ∀ j, isId u j → j ≠ E ∧ j ≠ T := fun j hj => (b.new j hj).2
  have k3 : Keep h h3 (isId u) := kp.up.trans' q3
  have gT := (k3.get T i4 fun hj => (nu T hj).2 rfl).trans b.gt
  have gE := (k3.get E i3 fun hj => (nu E hj).1 rfl).trans b.ge
  have n3 := q3.n
  have n31 : h.n + 1 ≤ h3.n := n3
  have kS : Keep h3 (h3.set T (.cells [v, .int .i64 1] 24 none)) (· = T) := Keep.set _ _ _
  have hv : ∀ j, idOf v = some j → h0.n ≤ j ∧ j ≠ E ∧ j ≠ T ∧ (idOf u = some j ∨ h.n + 1 ≤ j) := fun j hj => by
    rcases q4 with e | e
    · have hu : idOf u = some j := by rw [← e]; exact hj
      obtain ⟨c1, c2, c3⟩ := b.new j hu
      exact ⟨c1, c2, c3, .inl hu⟩
    · have := e j hj
      have h1 : h.n + 1 ≤ j := this
      exact ⟨by omega, by omega, by omega, .inr h1⟩
  have gN : h3.get h.n = .cells [.int .i64 x] 3 none := (q3.get h.n (by show h.n < h.n + 1; omega) fun hj => by
    obtain ⟨c1, c2, c3⟩ := b.new h.n hj
    rcases b.own with ⟨e | e, _⟩ | ⟨i, len, cap, c, ex, e, hi, _⟩
    · subst e; simp [isId, idOf] at hj
    · subst e; simp [isId, idOf] at hj
    · subst e
      simp [isId, idOf] at hj
      omega).trans gx
  refine ⟨v, h3, q1, gT, ?_⟩
  refine ⟨(kS.get E (by omega) i5).trans gE, get_set_same, ?_, ?_, ⟨i1, i2, by show E < h3.n; omega, by show T < h3.n; omega, i5⟩, fun j hj => ⟨(hv j hj).1, (hv j hj).2.1, (hv j hj).2.2.1⟩, ?_, ?_⟩
  · rw [List.flatMap_append, ← List.append_assoc]
    exact q2.keep kS fun j hj e => (hv j hj).2.2.1 e
  · refine (b.keep.trans k3 fun j hj hi => ?_).trans kS fun j hj e => ?_
    · have := (b.new j hi).1; omega
    · omega
  · intro q hq
    rcases List.mem_append.1 hq with hq | hq
    · obtain ⟨c1, c2, c3, c4, c5, c6⟩ := b.pn q hq
      refine ⟨c1, by show q.id < h3.n; omega, ((kS.get q.id (by omega) c6).trans (k3.get q.id c2 fun hj => c4 hj)).trans c3, fun e => ?_, c5, c6⟩
      rcases (hv _ e).2.2.2 with e | e
      · exact c4 e
      · omega
    · simp only [List.mem_singleton] at hq
      subst hq
      refine ⟨hn0, by show h.n < h3.n; omega, (kS.get h.n (by omega) (by omega)).trans gN, fun e => ?_, by show h.n ≠ E; omega, by show h.n ≠ T; omega⟩
      rcases (hv _ e).2.2.2 with e | e
      · rcases b.own with ⟨e' | e', _⟩ | ⟨i, len, cap, c, ex, e', hi, _⟩
        · subst e'; simp [idOf] at e
        · subst e'; simp [idOf] at e
        · subst e'
          simp [idOf] at e
          omega
      · show False
        simp only at e
        omega
  · rw [List.pairwise_append]
    refine ⟨b.pw, by simp, fun a ha c hc => ?_⟩
    simp only [List.mem_singleton] at hc
    subst hc
    have := (b.pn a ha).2.1
    simp only
    omega
theorem Bt.fin {h0 h : AHeap} {E T : Nat} {pend : List Pd} {u : V} (b : Bt h0 h E T pend u) {vs : List Vx} (hvs : vs.flatMap encX = row0X ++ pend.flatMap rowX) (hlen : vs.length = pend.length + 1) :
    ∃ h', Cast (.agg [u, .int .i64 1]) h (.agg (topE vs 1)) h' ∧ h'.get T = .cells [.imm vs.length (vs.flatMap encX), .int .i64 1] 24 none ∧ Keep h0 h' none_ ∧ T < h'.n := by
  obtain ⟨i1, i2, i3, i4, i5⟩ := b.ids
  obtain ⟨h1, c1, k1⟩ := castP pend h (fun q hq => ⟨(b.pn q hq).2.1, (b.pn q hq).2.2.1⟩) b.pw
  have hno : ∀ k, idOf u = some k → ¬ ∃ q ∈ pend, q.id = k := fun k hk ⟨q, hq, e⟩ => (b.pn q hq).2.2.2.1 (by rw [e]; exact hk)
  have hne : ([] : List V) ++ (row0 ++ pend.flatMap rowP) ≠ [] := by simp [row0]
  obtain ⟨h2, ct, o2, k2⟩ := Own.recast (cs := []) (xs := row0 ++ pend.flatMap rowP) (xs2 := row0X ++ pend.flatMap rowX) (h1 := h1) (own1 := fun k => ∃ q ∈ pend, q.id = k) hne b.own (fun z => by
    show CastL ([.int .i64 1, .snil, .int .i64 0, .int .i64 0, .snil, .int .i64 0] ++ pend.flatMap rowP ++ z) h ([.int .i64 1, .imm 0 [], .int .i64 0, .int .i64 0, .imm 0 [], .int .i64 0] ++ pend.flatMap rowX ++ z) h1
    exact CastL.cons (Cast.refl _ _) (CastL.cons (Cast.snil0 _) (CastL.cons (Cast.refl _ _) (CastL.cons (Cast.refl _ _) (CastL.cons (Cast.snil0 _) (CastL.cons (Cast.refl _ _) (c1 z))))))) k1 hno (by rw [List.length_append, List.length_append, rowsP_len, rowsX_len]; rfl) (.agg [u, .int .i64 1])
  have hTp : ¬ ∃ q ∈ pend, q.id = T := fun ⟨q, hq, e⟩ => (b.pn q hq).2.2.2.2.2 e
  have hTu : ¬ isId u T := fun hj => (b.new T hj).2.2 rfl
  have gT1 := (k1.get T i4 hTp).trans b.gt
  have n1 := k1.n
  have gT2 := (k2.get T (by omega) hTu).trans gT1
  have kA : Keep h0 h2 none_ := by
    refine ((b.keep.trans k1 fun j hj ⟨q, hq, e⟩ => ?_).trans k2 fun j hj e => ?_)
    · have := (b.pn q hq).1; omega
    · have := (b.new j e).1; omega
  rw [List.nil_append] at o2
  rcases o2 with ⟨_, e⟩ | ⟨i, len, cap, c, ex, e, hi, hg, hl, htk, _⟩
  · simp [row0X] at e
  subst e
  rw [← hvs] at hl htk
  rw [rows_len encX_len] at hl
  have hlv : len = vs.length := by omega
  subst hlv
  have hcz : c = vs.flatMap encX ++ c.drop (vs.length * 6) := by rw [← htk, List.take_append_drop]
  have hg' : h2.get i = .cells (vs.flatMap encX ++ c.drop (vs.length * 6)) 47 ex := by rw [← hcz]; exact hg
  have ca := CastA.own (n := vs.length) (cap := cap) (sz := 6) hg' (rows_len encX_len vs)
  have hTi : T ≠ i := fun e => hTu (by simp [isId, idOf, e])
  have kD : Keep h2 (h2.set i .dead) (· = i) := Keep.set _ _ _
  have gT3 := (kD.get T (by have := k2.n; omega) hTi).trans gT2
  have cb := (CastA.cell ca gT2 gT3).agg (l := [.int .i64 1])
  refine ⟨_, ct.trans cb.cast, get_set_same, ?_, by show T < h2.n; have := k2.n; omega⟩
  have hi0 := (b.new i rfl).1
  exact (kA.trans kD fun j hj e => by omega).trans (Keep.set _ _ _) fun j hj e => by omega
end Go.Proofs.YtpmmbcifhallbaaDoor.Pk
