/-
  What functions of the program do, told of abstract states. Conditions: as each theorem says.
-/
import Derived.Test.YthnleejpeocaeaaDoorFlR
namespace Go.Proofs.YthnleejpeocaeaaDoor.Pk
open Go Go.Proofs Go.Proofs.YthnleejpeocaeaaDoor.Ab
set_option linter.unusedVariables false
set_option linter.unusedSimpArgs false
/-- An own slice whose elements are told otherwise first. -/
theorem Cast.row {h h1 : AHeap} {e : TypeId} {sz i len cap : Nat} {cs es : List V} {own1 : Nat → Prop} (ho : Own h e sz (.sl i 0 len cap) cs) (hcl : CastL cs h es h1) (hk1 : Keep h h1 own1) (hne : ¬ own1 i) (hle : es.length = cs.length) :
    ∃ h2, Cast (.sl i 0 len cap) h (.imm len es) h2 ∧ Keep h1 h2 (· = i) := by
  rcases ho with ⟨q | q, _⟩ | ⟨i', len', cap', c, ex, q, hi, hg, hlen, htake, hcap⟩
  · cases q
  · cases q
  simp only [V.sl.injEq] at q
  obtain ⟨rfl, _, rfl, rfl⟩ := q
  have hg1 : h1.get i = .cells c e ex := (hk1.get i hi hne).trans hg
  have hcc : len * sz ≤ c.length := by
    have := congrArg List.length htake
    rw [List.length_take, hlen] at this
    omega
  refine ⟨h1.set i .dead, fun ρ B w0 w r' hw hv => ?_, Keep.set h1 i .dead⟩
  obtain ⟨ρ0, _, hw0, b, cp, arr, hr, hf, hc, hl⟩ := hw.freeze hg
  have L0 : LRel ρ cs (arr.toList.take (len * sz)) := by
    have hal := hl.1
    refine ⟨by rw [← htake]; simp only [List.length_take] at hal ⊢; omega, fun k v v' h1 h2 => ?_⟩
    have hk : k < len * sz := by rw [← hlen]; exact (List.getElem?_eq_some_iff.1 h1).1
    rw [← htake, List.getElem?_take, if_pos hk] at h1
    rw [List.getElem?_take, if_pos hk] at h2
    refine hl.2 k v v' h1 ?_
    rw [List.getElem?_take, if_pos (by omega)]
    exact h2
  obtain ⟨ρ1, le1, hw1, hl1⟩ := hcl ρ B w0 w _ hw L0
  obtain ⟨ρ2, le2, hw2, b', cp', arr', hr', hf', hc', hl'⟩ := hw1.freeze hg1
  have hr1 := le1.ren _ _ hr
  rw [hr1] at hr'
  simp only [Option.some.injEq, Prod.mk.injEq] at hr'
  obtain ⟨rfl, rfl⟩ := hr'
  obtain ⟨b2, cp2, hi2, hl2, rfl⟩ := hv.sl_inv
  rw [hr] at hi2
  simp only [Option.some.injEq, Prod.mk.injEq] at hi2
  obtain ⟨rfl, rfl⟩ := hi2
  have harr : arr' = arr := by
    obtain ⟨e1, f1, q1⟩ := hw0.heap.frz _ _ hf
    obtain ⟨e2, f2, q2⟩ := hw2.heap.frz _ _ hf'
    rw [q1] at q2
    simp only [Option.some.injEq, Obj.cells.injEq] at q2
    exact q2.1.symm
  subst harr
  refine ⟨ρ2, le1.trans le2, hw2, .imm 0 len _ hf' hl2 (by rw [hle, hlen]; omega) fun k v v' h1 h2 => ?_⟩
  have hk : k < len * sz := by rw [← hlen, ← hle]; exact (List.getElem?_eq_some_iff.1 h1).1
  refine (hl1.2 k v v' h1 ?_).mono le2
  rw [List.getElem?_take, if_pos hk, Array.getElem?_toList]
  simpa using h2
/-- What a block holds is told otherwise, where it lies. -/
theorem Cast.cell {h h1 : AHeap} {X : Nat} {c c2 : List V} {e : TypeId} {ex : Option Nat} (hg : h.get X = .cells c e ex) (hcl : CastL c h c2 h1) (hg1 : h1.get X = .cells c e ex) (hle : c2.length = c.length) (r : V) :
    Cast r h r (h1.set X (.cells c2 e ex)) := fun ρ B w0 w r' hw hv => by
  have ho := hw.heap.obj X
  rw [hg] at ho
  obtain ⟨b, cp, arr, hr, hf, hB, hW, hc, hl, hx⟩ := ho
  obtain ⟨ρ1, le1, hw1, hl1⟩ := hcl ρ B w0 w _ hw hl
  have ho1 := hw1.heap.obj X
  rw [hg1] at ho1
  obtain ⟨b1, cp1, arr1, hr1, hf1, hB1, hW1, hc1, hl2, hx1⟩ := ho1
  have e1 := le1.ren _ _ hr
  rw [hr1] at e1
  simp only [Option.some.injEq, Prod.mk.injEq] at e1
  obtain ⟨rfl, rfl⟩ := e1
  rw [hW1] at hW
  simp only [Option.some.injEq, Obj.cells.injEq] at hW
  obtain ⟨rfl, -, -⟩ := hW
  have sg : ∀ j, j ≠ X → (h1.set X (.cells c2 e ex)).get j = h1.get j := fun j hj => by simp [AHeap.set, hj]
  have sx : (h1.set X (.cells c2 e ex)).get X = .cells c2 e ex := by simp [AHeap.set]
  have live : ∀ j, (h1.set X (.cells c2 e ex)).get j ≠ .dead → h1.get j ≠ .dead := fun j hj => by
    by_cases hjX : j = X
    · subst hjX; rw [hg1]; intro q; cases q
    · rwa [sg j hjX] at hj
  refine ⟨ρ1, le1, ⟨⟨hw1.heap.dom, fun i j b c c' hi hj h2 h3 => hw1.heap.inj i j b c c' (live i hi) (live j hj) h2 h3, fun j => ?_, hw1.heap.frz, hw1.heap.glob, hw1.heap.base⟩, hw1.below⟩, hv.mono le1⟩
  by_cases hj : j = X
  · subst hj
    rw [sx]
    rw [← hle] at hl1
    exact ⟨_, _, _, hr1, hf1, hB1, hW1, by rw [hle]; exact hc1, hl1, by rw [hle]; exact hx1⟩
  · rw [sg j hj]; exact hw1.heap.obj j
/-- After a call, what a block holds is told otherwise. -/
theorem Pure.cell {P : Program} {f : FuncId} {args : List V} {h h1 : AHeap} {v : V} (hp : Pure P f args h v) {X : Nat} {c c2 : List V} {e : TypeId} {ex : Option Nat} (hg : h.get X = .cells c e ex) (hcl : CastL c h c2 h1) (hg1 : h1.get X = .cells c e ex) (hle : c2.length = c.length) :
    SCalls P f args h (fun r h' => r = v ∧ h' = h1.set X (.cells c2 e ex)) :=
  SCalls.cast (hp.mono fun r h' ⟨e1, e2⟩ => ⟨v, _, by subst e1; subst e2; exact Cast.cell hg hcl hg1 hle _, rfl, rfl⟩)
/-- A vertex with kids of its own, as its maker lays it. -/
def vxO (kind op : Int) (k : Nat) : List V := [.int .i64 kind, .snil, .int .i64 op, .int .i64 0, .sl k 0 2 2, .int .i64 0]
theorem castVx (kind op : Int) (ks : List Ex) (h2 : ks.length = 2) {cs : List V} (hw : WkL cs (ks.flatMap encE)) (hcl : cs.length = 6) {h : AHeap} {k : Nat} (hk : k < h.n) (hg : h.get k = .cells cs 40 none) :
    CastL (vxO kind op k) h (encX ⟨kind, [], .mk op 0 ks, 0⟩) (h.set k .dead) := by
  have ho : Own h 40 3 (.sl k 0 2 2) cs := .inr ⟨k, 2, 2, cs, none, rfl, hk, hg, by omega, List.take_of_length_le (by omega), .inl ⟨by decide, by omega, by omega⟩⟩
  have hx : encX ⟨kind, [], .mk op 0 ks, 0⟩ = [.int .i64 kind, .imm 0 [], .int .i64 op, .int .i64 0, .imm ks.length (ks.flatMap encE), .int .i64 0] := by simp [encX, encE_eq, i64V]
  have c : Cast (.sl k 0 2 2) h (.imm ks.length cs) (h.set k .dead) := by
    rw [h2]
    exact fun ρ B w0 w r' hw hv => by
      obtain ⟨ρ', hle, hw', b, cp, arr, hr, hf, hc, hl⟩ := hw.freeze hg
      obtain ⟨b2, cp2, hi2, hl2, rfl⟩ := hv.sl_inv
      rw [hr] at hi2
      simp only [Option.some.injEq, Prod.mk.injEq] at hi2
      obtain ⟨rfl, rfl⟩ := hi2
      refine ⟨ρ', hle, hw', .imm 0 2 _ hf hl2 (by omega) fun k v v' h1 h2 => ?_⟩
      have hk : k < cs.length := (List.getElem?_eq_some_iff.1 h1).1
      refine (hl.2 k v v' h1 ?_).mono hle
      rw [List.getElem?_take, if_pos (by omega), Array.getElem?_toList]
      simpa using h2
  rw [hx]
  exact CastL.cons (Cast.refl _ _) (CastL.cons (Cast.nil0 _) (CastL.cons (Cast.refl _ _) (CastL.cons (Cast.refl _ _) (CastL.cons (c.trans ((WkV.imm hw (by rw [hcl, rows_len encE_len, h2])).cast _)) (CastL.refl _ _)))))
end Go.Proofs.YthnleejpeocaeaaDoor.Pk
