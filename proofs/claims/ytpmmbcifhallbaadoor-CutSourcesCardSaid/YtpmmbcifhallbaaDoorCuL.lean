/-
  What functions of the program do, told of abstract states. Conditions: as each theorem says.
-/
import Derived.Test.YtpmmbcifhallbaaDoorCuD
namespace Go.Proofs.YtpmmbcifhallbaaDoor.Pk
open Go Go.Proofs Go.Proofs.YtpmmbcifhallbaaDoor.Ab
set_option linter.unusedVariables false

/-! ### What mgX means -/
def Ed (l : List Vx) (a b : Nat) : Prop := ∃ x, l[b]? = some x ∧ (a : Int) ∈ x.frm ∧ kindAt l (a : Int) ≠ 5
inductive Cn (l : List Vx) : Nat → Nat → Prop
  | refl (a : Nat) : Cn l a a
  | step {a b c : Nat} : Cn l a b → (Ed l b c ∨ Ed l c b) → Cn l a c
theorem Cn.trans {l : List Vx} {a b c : Nat} (h : Cn l a b) (g : Cn l b c) : Cn l a c := by
  induction g with
  | refl => exact h
  | step _ e ih => exact .step ih e
theorem Cn.symm {l : List Vx} {a b : Nat} (h : Cn l a b) : Cn l b a := by
  induction h with
  | refl => exact .refl _
  | step _ e ih => exact (Cn.step (.refl _) e.symm).trans ih
/-- All edges go up. -/
def Up (l : List Vx) : Prop := ∀ (v : Nat) (x : Vx), l[v]? = some x → ∀ f ∈ x.frm, 0 ≤ f ∧ f < (v : Int)
theorem mgF_none {l : List Vx} {L : List Nat} {v : Nat} : ∀ {r : List Int}, mgF l L v r = none → ∀ f ∈ r, kindAt l f ≠ 5 → L.getD v 0 = L.getD f.toNat 0
  | [], _, f, hf, _ => by simp at hf
  | g :: r, h, f, hf, hk => by
    unfold mgF at h
    split at h
    · cases h
    · rename_i hc
      rcases List.mem_cons.1 hf with rfl | hf
      · exact Classical.byContradiction fun e => hc ⟨hk, e⟩
      · exact mgF_none h f hf hk
theorem mgV_none {l : List Vx} {L : List Nat} : ∀ {r : List Vx} {v : Nat}, mgV l L v r = none → ∀ (k : Nat) (x : Vx), r[k]? = some x → mgF l L (v + k) x.frm = none
  | [], _, _, k, x, hx => by simp at hx
  | y :: r, v, h, k, x, hx => by
    unfold mgV at h
    split at h
    · cases h
    · rename_i q
      cases k with
      | zero => simp at hx; subst hx; exact q
      | succ k => rw [show v + (k + 1) = v + 1 + k by omega]; exact mgV_none h k x (by simpa using hx)
theorem mgF_edge {l : List Vx} {L : List Nat} {v : Nat} : ∀ {r : List Int} {L' : List Nat}, mgF l L v r = some L' → ∃ f ∈ r, kindAt l f ≠ 5 ∧ L.getD v 0 ≠ L.getD f.toNat 0 ∧ L' = (L.set v (min (L.getD v 0) (L.getD f.toNat 0))).set f.toNat (min (L.getD v 0) (L.getD f.toNat 0))
  | [], _, h => by cases h
  | f :: r, L', h => by
    unfold mgF at h
    split at h
    · rename_i hc
      exact ⟨f, by simp, hc.1, hc.2, (Option.some.inj h).symm⟩
    · obtain ⟨g, hg, h1, h2⟩ := mgF_edge h
      exact ⟨g, List.mem_cons_of_mem _ hg, h1, h2⟩
/-- What a step does: two ends of an edge have the lesser one. -/
theorem mgV_step {l : List Vx} (hu : Up l) {L L' : List Nat} (h : mgV l L 0 l = some L') : ∃ v f, f < v ∧ v < l.length ∧ Ed l f v ∧ L.getD v 0 ≠ L.getD f 0 ∧ L' = (L.set v (min (L.getD v 0) (L.getD f 0))).set f (min (L.getD v 0) (L.getD f 0)) := by
  obtain ⟨k, x, h1, h2⟩ := mgV_at h
  obtain ⟨f, hf, hk, hne, e⟩ := mgF_edge h2
  obtain ⟨a, b⟩ := hu k x h1 f hf
  rw [Nat.zero_add] at hne e
  refine ⟨k, f.toNat, by omega, (List.getElem?_eq_some_iff.1 h1).1, ⟨x, h1, ?_, ?_⟩, hne, e⟩
  · rw [Int.toNat_of_nonneg a]; exact hf
  · rw [Int.toNat_of_nonneg a]; exact hk
theorem mgN_fix {l : List Vx} (hu : Up l) : ∀ (k : Nat) (L : List Nat), L.length = l.length → L.sum < k → mgV l (mgN l k L) 0 l = none ∧ (mgN l k L).length = l.length
  | 0, L, _, h => by omega
  | k + 1, L, hL, h => by
    unfold mgN
    cases hq : mgV l L 0 l with
    | none => exact ⟨hq, hL⟩
    | some L' =>
      obtain ⟨v, f, a, b, _, c, e⟩ := mgV_step hu hq
      have := sum_low (L := L) (v := v) (f := f) (by omega) (by omega) (by omega) c
      rw [← e] at this
      exact mgN_fix hu k L' (by rw [e]; simp [hL]) (by omega)
theorem mgN_cn {l : List Vx} (hu : Up l) : ∀ (k : Nat) (L : List Nat), L.length = l.length → (∀ j, j < l.length → Cn l (L.getD j 0) j) → ∀ j, j < l.length → Cn l ((mgN l k L).getD j 0) j
  | 0, L, _, h => h
  | k + 1, L, hL, h => by
    unfold mgN
    cases hq : mgV l L 0 l with
    | none => exact h
    | some L' =>
      obtain ⟨v, f, a, b, ed, c, e⟩ := mgV_step hu hq
      refine mgN_cn hu k L' (by rw [e]; simp [hL]) fun j hj => ?_
      have hv := h v b
      have hf := h f (by omega)
      have hm : Cn l (min (L.getD v 0) (L.getD f 0)) v ∧ Cn l (min (L.getD v 0) (L.getD f 0)) f := by
        rcases Nat.le_total (L.getD v 0) (L.getD f 0) with hle | hle
        · rw [Nat.min_eq_left hle]; exact ⟨hv, hv.step (.inr ed)⟩
        · rw [Nat.min_eq_right hle]; exact ⟨hf.step (.inl ed), hf⟩
      rw [e, getD_set, getD_set]
      split
      · rename_i hh; rw [← hh.1]; exact hm.2
      · split
        · rename_i hh; rw [← hh.1]; exact hm.1
        · exact h j hj
/-- The least one of each: the same along edges, hung together with it, no greater. -/
structure Lst (l : List Vx) (R : List Nat) : Prop where
  len : R.length = l.length
  le : ∀ j, R.getD j 0 ≤ j
  cn : ∀ j, j < l.length → Cn l (R.getD j 0) j
  ed : ∀ a b, Ed l a b → R.getD a 0 = R.getD b 0
theorem Lst.same {l : List Vx} {R : List Nat} (h : Lst l R) {a b : Nat} (c : Cn l a b) : R.getD a 0 = R.getD b 0 := by
  induction c with
  | refl => rfl
  | step _ e ih => rcases e with e | e
                   · rw [ih]; exact h.ed _ _ e
                   · rw [ih]; exact (h.ed _ _ e).symm
theorem Lst.iff {l : List Vx} {R : List Nat} (h : Lst l R) {a b : Nat} (ha : a < l.length) (hb : b < l.length) : Cn l a b ↔ R.getD a 0 = R.getD b 0 :=
  ⟨h.same, fun e => (h.cn a ha).symm.trans (e ▸ h.cn b hb)⟩
theorem Lst.root {l : List Vx} {R : List Nat} (h : Lst l R) {a : Nat} (ha : a < l.length) : R.getD (R.getD a 0) 0 = R.getD a 0 := h.same (h.cn a ha)
theorem mgX_lst {l : List Vx} (hu : Up l) (h24 : l.length ≤ 24) : Lst l (mgX l) := by
  have hs : (List.range l.length).sum < 600 := by
    have : ∀ n : Nat, n ≤ 24 → (List.range n).sum < 600 := by decide
    exact this _ h24
  obtain ⟨f1, f2⟩ := mgN_fix hu 600 (List.range l.length) (by simp) hs
  refine ⟨f2, mgX_le l, mgN_cn hu _ _ (by simp) fun j hj => ?_, fun a b ⟨x, h1, h2, h3⟩ => ?_⟩
  · rw [List.getD, List.getElem?_range hj]; exact .refl _
  · have := mgF_none (mgV_none f1 b x h1) (a : Int) h2 h3
    rw [Nat.zero_add, Int.toNat_natCast] at this
    exact this.symm

/-! ### The parts' numbers -/
def cntR (R : List Nat) (i : Nat) : Nat := (ptN R i).2
theorem cnt_succ (R : List Nat) (i : Nat) : cntR R (i + 1) = if R.getD i 0 = i then cntR R i + 1 else cntR R i := by
  unfold cntR
  show (if R.getD i 0 = i then _ else _ : List Int × Nat).2 = _
  split <;> rfl
theorem cnt_mono (R : List Nat) {i : Nat} : ∀ {j : Nat}, i ≤ j → cntR R i ≤ cntR R j
  | 0, h => by rw [Nat.le_zero.1 h]; exact Nat.le_refl _
  | j + 1, h => by
    rcases Nat.lt_or_ge j i with hl | hl
    · rw [show i = j + 1 by omega]; exact Nat.le_refl _
    · have := cnt_mono R (i := i) hl
      rw [cnt_succ]
      split <;> omega
theorem cnt_lt {R : List Nat} {r j : Nat} (hr : R.getD r 0 = r) (h : r < j) : cntR R r < cntR R j := by
  have := cnt_mono R (i := r + 1) (j := j) h
  rw [cnt_succ, if_pos hr] at this
  omega
theorem pt_get {l : List Vx} {R : List Nat} (hR : Lst l R) : ∀ {i : Nat}, i ≤ l.length → ∀ v, v < i → (ptN R i).1.getD v 0 = ((cntR R (R.getD v 0) : Nat) : Int)
  | 0, _, v, h => by omega
  | i + 1, hi, v, h => by
    have ih := pt_get hR (i := i) (by omega)
    have hl := ptN_len R i
    unfold ptN
    rcases Nat.lt_or_ge v i with hv | hv
    · split
      · rw [← ih v hv]
        simp only [List.getD]
        rw [List.getElem?_append_left (by omega)]
      · rw [← ih v hv]
        simp only [List.getD]
        rw [List.getElem?_append_left (by omega)]
    · have he : v = i := by omega
      subst he
      split
      · rename_i hr
        rw [hr]
        simp only [List.getD]
        rw [List.getElem?_append_right (by omega), hl, Nat.sub_self]
        rfl
      · rename_i hr
        have hlt : R.getD v 0 < v := by have := hR.le v; omega
        have hq := ih _ hlt
        rw [hR.root (by omega)] at hq
        show ((ptN R v).1 ++ [(ptN R v).1.getD (R.getD v 0) 0]).getD v 0 = _
        rw [hq]
        simp only [List.getD]
        rw [List.getElem?_append_right (by omega), hl, Nat.sub_self]
        rfl
theorem pt_mx (R : List Nat) {l : List Vx} (hR : Lst l R) : ∀ i, i < l.length → mx ((ptN R (i + 1)).1.headD 0) (ptN R (i + 1)).1.tail = ((cntR R (i + 1) : Nat) : Int) - 1
  | 0, h => by
    have h0 : R.getD 0 0 = 0 := by have := hR.le 0; omega
    have : ptN R 1 = ([0], 1) := by unfold ptN; rw [if_pos h0]; rfl
    rw [show (0 + 1 : Nat) = 1 from rfl, cntR, this]
    rfl
  | i + 1, h => by
    have ih := pt_mx R hR i (by omega)
    have hl := ptN_len R (i + 1)
    obtain ⟨x, hx, hx2⟩ : ∃ x, (ptN R (i + 1 + 1)).1 = (ptN R (i + 1)).1 ++ [x] ∧ max (((cntR R (i + 1) : Nat) : Int) - 1) x = ((cntR R (i + 2) : Nat) : Int) - 1 := by
      have hg := pt_get hR (i := i + 1 + 1) (by omega) (i + 1) (by omega)
      have hc := cnt_succ R (i + 1)
      by_cases hr : R.getD (i + 1) 0 = i + 1
      · refine ⟨((cntR R (i + 1) : Nat) : Int), by rw [show ptN R (i + 1 + 1) = _ from rfl]; unfold ptN; rw [if_pos hr]; rfl, ?_⟩
        rw [if_pos hr] at hc
        rw [show i + 2 = i + 1 + 1 from rfl, hc]
        omega
      · have hlt : R.getD (i + 1) 0 < i + 1 := by have := hR.le (i + 1); omega
        refine ⟨((cntR R (R.getD (i + 1) 0) : Nat) : Int), ?_, ?_⟩
        · have h2 : (ptN R (i + 1 + 1)).1 = (ptN R (i + 1)).1 ++ [(ptN R (i + 1)).1.getD (R.getD (i + 1) 0) 0] := by
            show (if R.getD (i + 1) 0 = i + 1 then _ else _ : List Int × Nat).1 = _
            rw [if_neg hr]
          rw [h2, pt_get hR (i := i + 1) (by omega) _ hlt, hR.root (by omega)]
        · rw [if_neg hr] at hc
          rw [show i + 2 = i + 1 + 1 from rfl, hc]
          have := cnt_lt (hR.root (a := i + 1) (by omega)) hlt
          omega
    rw [hx]
    cases hp : (ptN R (i + 1)).1 with
    | nil => rw [hp] at hl; simp at hl
    | cons a r =>
      rw [hp] at ih
      simp only [List.headD_cons, List.tail_cons] at ih
      simp only [List.cons_append, List.headD_cons, List.tail_cons]
      rw [mx_snoc, ih, hx2]
theorem up_of {p : Int} {l : List Vx} (h0 : (chkT p l).2 = 0) : Up l := by
  obtain ⟨_, _, _, _, _, hall⟩ := chk_ok h0
  exact fun v x hx f hf => (chkV_zero (hall v x hx)).2.1 f hf
theorem cntR_le (R : List Nat) (i : Nat) : cntR R i ≤ i := ptN_le R i
theorem tasks_eq {p : Int} {l : List Vx} (h0 : (chkT p l).2 = 0) : tasksX p l = ((cntR (mgX l) l.length : Nat) : Int) * p := by
  obtain ⟨_, hp, l1, l24, _, _⟩ := chk_ok h0
  have hR := mgX_lst (up_of h0) l24
  have hm := pt_mx (mgX l) hR (l.length - 1) (by omega)
  rw [show l.length - 1 + 1 = l.length by omega] at hm
  have hc := cntR_le (mgX l) l.length
  generalize cntR (mgX l) l.length = c at hm hc ⊢
  have hX : partsX p l = (ptN (mgX l) l.length).1 := if_pos h0
  rw [tasksX, if_pos h0, hX, hm]
  have e1 : IntKind.i64.wrap ((c : Int) - 1 + 1) = c := by rw [Go.IntWalk.i64_in _ (by omega)]; omega
  rw [e1]
  have hP : p = 1 ∨ p = 2 ∨ p = 3 ∨ p = 4 ∨ p = 5 ∨ p = 6 ∨ p = 7 ∨ p = 8 := by omega
  refine Go.IntWalk.i64_in _ ?_
  rcases hP with rfl | rfl | rfl | rfl | rfl | rfl | rfl | rfl <;> omega
theorem parts_get {p : Int} {l : List Vx} (h0 : (chkT p l).2 = 0) {v : Nat} (hv : v < l.length) : (partsX p l).getD v 0 = ((cntR (mgX l) ((mgX l).getD v 0) : Nat) : Int) := by
  obtain ⟨_, hp, l1, l24, _, _⟩ := chk_ok h0
  rw [partsX, if_pos h0]
  exact pt_get (mgX_lst (up_of h0) l24) (Nat.le_refl _) v hv
theorem cnt_inj {l : List Vx} {R : List Nat} (hR : Lst l R) {a b : Nat} (ha : a < l.length) (hb : b < l.length) (h : cntR R (R.getD a 0) = cntR R (R.getD b 0)) : R.getD a 0 = R.getD b 0 := by
  rcases Nat.lt_trichotomy (R.getD a 0) (R.getD b 0) with hl | he | hl
  · have := cnt_lt (hR.root ha) hl; omega
  · exact he
  · have := cnt_lt (hR.root hb) hl; omega
end Go.Proofs.YtpmmbcifhallbaaDoor.Pk
