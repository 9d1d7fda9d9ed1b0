/-
  What functions of the program do, told of abstract states. Conditions: as each theorem says.
-/
import Derived.Test.YthnleejpeocaeaaDoorFlU
namespace Go.Proofs.YthnleejpeocaeaaDoor.Pk
open Go Go.Proofs Go.Proofs.YthnleejpeocaeaaDoor.Ab
set_option linter.unusedVariables false
set_option linter.unusedSimpArgs false
def vFlat (n : Int) : Vx := ⟨4, [], .mk 1 n [], 0⟩
theorem applyFlat (n : Int) (r : Rec) : applyX (vFlat n) r = (copR r (min n 4).toNat, 0) := by
  have m : mayX (vFlat n).e = true := by simp [vFlat, mayX, cnt, cntL, fitsX, kidsN, Ex.ks]
  have v : valF r.k r.v r.t 0 16 (vFlat n).e = some n := by simp [vFlat, valF]
  simp only [applyX, m, v, if_true]
  simp [vFlat, resX]
theorem addT_same (t : List Int) (i m : Nat) (hi : i < t.length) : (addT t i m).getD i 0 = w64 (t.getD i 0 + m) := by
  simp [addT, List.getD_eq_getElem?_getD, hi]
theorem addT_other (t : List Int) (i m q : Nat) (hq : q ≠ i) : (addT t i m).getD q 0 = t.getD q 0 := by
  simp only [addT, List.getD_eq_getElem?_getD]
  rw [List.getElem?_set_ne (by omega)]
def Good (k : Nat) (s : PS) : Prop := s.2.length = k ∧ ∀ q, 0 ≤ s.2.getD q 0 ∧ s.2.getD q 0 ≤ 10000
def Res (c k i j m : Nat) (v : Int) (s : PS) (p : (Int × Int) × PS) : Prop :=
  (p.1.2 = 0 → p.1 = (-1, 0) ∧ Good k p.2 ∧ (∃ l, p.2.1 = s.1 ++ l ∧ l.length = m * c ^ j ∧ (1 ≤ c → ∀ x, l.head? = some x → x.v = v)) ∧ ∀ q, q < j → p.2.2.getD (i + q) 0 = s.2.getD (i + q) 0 + ((m * c ^ (q + 1) : Nat) : Int)) ∧ (p.1.2 = 0 → ∀ q, q < i → p.2.2.getD q 0 = s.2.getD q 0) ∧
  (p.1.2 ≠ 0 → p.1.2 = 3 ∧ 0 ≤ p.1.1 ∧ ∃ q, q < j ∧ 10000 < s.2.getD (i + q) 0 + ((m * c ^ (q + 1) : Nat) : Int))
theorem passL_flat {f : Rec → PS → (Int × Int) × PS} {c k i j : Nat} (H : ∀ r s, inR r.v → Good k s → Res c k i j 1 r.v s (f r s)) : ∀ (R : List Rec) (s : PS) (v : Int), (∀ x ∈ R, inR x.v) → (∀ x, R.head? = some x → x.v = v) → Good k s → Res c k i j R.length v s (passL f R s)
  | [], s, v, _, _, g => by
    refine ⟨fun _ => ⟨rfl, g, ⟨[], by simp [passL], by simp, fun _ x hx => by simp at hx⟩, fun q hq => by simp [passL]⟩, fun _ q hq => rfl, fun h => absurd rfl h⟩
  | x :: R, s, v, hr, hv, g => by
    obtain ⟨o1, b1, e1⟩ := H x s (hr x (List.mem_cons_self ..)) g
    have hxv : x.v = v := hv x rfl
    unfold passL
    by_cases he : (f x s).1.2 = 0
    · rw [if_neg (by simp [he])]
      obtain ⟨p1, g1, ⟨l1, q1, q2, q3⟩, t1⟩ := o1 he
      obtain ⟨o2, b2, e2⟩ := passL_flat H R (f x s).2 ((R.head?.map (·.v)).getD 0) (fun y hy => hr y (List.mem_cons_of_mem _ hy)) (fun y hy => by simp [hy]) g1
      refine ⟨fun h => ?_, fun h q hq => (b2 h q hq).trans (b1 he q hq), fun h => ?_⟩
      · obtain ⟨p2, g2, ⟨l2, q4, q5, q6⟩, t2⟩ := o2 h
        refine ⟨p2, g2, ⟨l1 ++ l2, by rw [q4, q1, List.append_assoc], by rw [List.length_append, q2, q5, List.length_cons, Nat.add_mul]; omega, fun hc y hy => ?_⟩, fun q hq => ?_⟩
        · have hl1 : l1 ≠ [] := fun hh => by
            rw [hh] at q2
            have : 0 < c ^ j := Nat.pow_pos hc
            simp at q2
            omega
          cases l1 with
          | nil => exact absurd rfl hl1
          | cons z l1 => exact (q3 hc y hy).trans hxv
        · rw [t2 q hq, t1 q hq, List.length_cons, Nat.add_mul]; omega
      · obtain ⟨a1, a2, q, hq, a3⟩ := e2 h
        refine ⟨a1, a2, q, hq, ?_⟩
        rw [t1 q hq] at a3
        rw [List.length_cons, Nat.add_mul]; omega
    · rw [if_pos he]
      refine ⟨fun h => absurd h he, fun h => absurd h he, fun h => ?_⟩
      obtain ⟨a1, a2, q, hq, a3⟩ := e1 h
      refine ⟨a1, a2, q, hq, ?_⟩
      rw [List.length_cons, Nat.add_mul]; omega
theorem copR_in (r : Rec) : ∀ m, ∀ x ∈ copR r m, inR x.v
  | 0, x, h => by simp [copR] at h
  | m + 1, x, h => by
    simp only [copR, List.mem_append, List.mem_singleton] at h
    rcases h with h | h
    · exact copR_in r m x h
    · subst h; exact w64_inR _
theorem copR_head (r : Rec) (hr : inR r.v) : ∀ m, ∀ x, (copR r m).head? = some x → x.v = r.v
  | 0, x, h => by simp [copR] at h
  | m + 1, x, h => by
    simp only [copR] at h
    cases hm : copR r m with
    | nil =>
      have : m = 0 := by have := copR_len r m; rw [hm] at this; simpa using this.symm
      subst this
      rw [hm] at h
      simp only [List.nil_append, List.head?_cons, Option.some.injEq] at h
      subst h
      show w64 (r.v + ((0 : Nat) : Int)) = r.v
      unfold inR at hr
      unfold w64
      rw [Go.IntWalk.i64_in _ (by omega)]; omega
    | cons y l =>
      rw [hm] at h
      refine copR_head r hr m x ?_
      rw [hm]; simpa using h
theorem passX_flat (n : Int) (k : Nat) : ∀ (j i : Nat) (r : Rec) (s : PS), i + j = k → inR r.v → Good k s → Res (min n 4).toNat k i j 1 r.v s (passX (List.replicate j (vFlat n)) i r s)
  | 0, i, r, s, hij, hr, g => by
    refine ⟨fun _ => ⟨rfl, g, ⟨[r], rfl, by simp, fun _ x hx => by simp at hx; rw [← hx]⟩, fun q hq => by omega⟩, fun _ q hq => rfl, fun h => absurd rfl h⟩
  | j + 1, i, r, s, hij, hr, g => by
    obtain ⟨c, hc⟩ : ∃ c, c = (min n 4).toNat := ⟨_, rfl⟩
    have hc4 : c ≤ 4 := by omega
    rw [← hc]
    have hil : i < s.2.length := by have := g.1; omega
    have hgi := g.2 i
    rw [List.replicate_succ]
    unfold passX
    rw [applyFlat, ← hc]
    simp only [copR_len]
    rw [if_neg (by simp)]
    have ht : (addT s.2 i c).getD i 0 = s.2.getD i 0 + (c : Int) := by
      rw [addT_same _ _ _ hil]
      unfold w64
      rw [Go.IntWalk.i64_in _ (by omega)]
    by_cases hov : 10000 < (addT s.2 i c).getD i 0
    · rw [if_pos hov]
      refine ⟨fun h => by simp at h, fun h => by simp at h, fun _ => ⟨rfl, by simp, 0, by omega, ?_⟩⟩
      rw [ht] at hov
      simp only [Nat.add_zero, Nat.zero_add, Nat.pow_one, Nat.one_mul]
      exact hov
    · rw [if_neg hov]
      have g1 : Good k (s.1, addT s.2 i c) := ⟨by rw [addT_len]; exact g.1, fun q => by
        by_cases hq : q = i
        · subst hq; simp only; omega
        · simp only; rw [addT_other _ _ _ _ hq]; exact g.2 q⟩
      obtain ⟨o, b, e⟩ := passL_flat (c := c) (k := k) (i := i + 1) (j := j) (fun r s hr g => by rw [hc]; exact passX_flat n k j (i + 1) r s (by omega) hr g) (copR r c) (s.1, addT s.2 i c) r.v (copR_in r c) (copR_head r hr c) g1
      rw [copR_len] at o e
      refine ⟨fun h => ?_, fun h q hq => by
        have := b h q (by omega)
        simp only at this
        rwa [addT_other _ _ _ _ (by omega)] at this, fun h => ?_⟩
      · obtain ⟨p, g2, ⟨l, q1, q2, q3⟩, t⟩ := o h
        refine ⟨p, g2, ⟨l, q1, by rw [q2, Nat.pow_succ, Nat.one_mul, Nat.mul_comm], q3⟩, fun q hq => ?_⟩
        cases q with
        | zero =>
          have := b h i (by omega)
          simp only at this
          exact this.trans (ht.trans (by simp))
        | succ q =>
          have := t q (by omega)
          simp only at this
          rw [addT_other _ _ _ _ (by omega)] at this
          rw [show i + (q + 1) = i + 1 + q by omega, this, Nat.pow_succ c (q + 1), Nat.one_mul, Nat.mul_comm c]
      · obtain ⟨a1, a2, q, hq, a3⟩ := e h
        refine ⟨a1, a2, q + 1, by omega, ?_⟩
        simp only at a3
        rw [addT_other _ _ _ _ (by omega)] at a3
        rw [show i + (q + 1) = i + 1 + q by omega, Nat.pow_succ, Nat.one_mul, Nat.mul_comm]
        exact a3
theorem chainFlats (n : Int) (k : Nat) (hk : k ≤ 7) (val : Int) (hv : inR val) :
    (10000 < (min n 4).toNat ^ k → ∃ at_, 0 ≤ at_ ∧ chainX (List.replicate k (vFlat n)) ⟨0, val, 0⟩ = ([], at_, 3)) ∧
    ((min n 4).toNat ^ k ≤ 10000 → ∃ l, chainX (List.replicate k (vFlat n)) ⟨0, val, 0⟩ = (l, -1, 0) ∧ l.length = (min n 4).toNat ^ k ∧ (1 ≤ (min n 4).toNat → ∀ x, l.head? = some x → x.v = val)) := by
  have z : ∀ q : Nat, (List.replicate k (0 : Int)).getD q 0 = 0 := fun q => by
    simp only [List.getD_eq_getElem?_getD, List.getElem?_replicate]
    split <;> rfl
  have g : Good k (([] : List Rec), List.replicate k (0 : Int)) := ⟨by simp, fun q => by simp only; rw [z]; omega⟩
  obtain ⟨o, b, e⟩ := passX_flat n k k 0 ⟨0, val, 0⟩ ([], List.replicate k 0) (by omega) hv g
  obtain ⟨c, hc⟩ : ∃ c, c = (min n 4).toNat := ⟨_, rfl⟩
  have hc4 : c ≤ 4 := by omega
  rw [← hc] at o e ⊢
  unfold chainX
  rw [List.length_replicate]
  obtain ⟨p, hp⟩ : ∃ p, p = passX (List.replicate k (vFlat n)) 0 ⟨0, val, 0⟩ ([], List.replicate k 0) := ⟨_, rfl⟩
  rw [← hp] at o e ⊢
  by_cases he : p.1.2 = 0
  · obtain ⟨p1, g1, ⟨l, q1, q2, q3⟩, t⟩ := o he
    refine ⟨fun hh => ?_, fun hh => ⟨l, ?_, by rw [q2, Nat.one_mul], q3⟩⟩
    · exfalso
      cases k with
      | zero => simp at hh
      | succ k =>
        have t1 := t k (by omega)
        have g2 := (g1.2 (0 + k)).2
        rw [t1, z, Nat.one_mul] at g2
        omega
    · rw [if_neg (by simp [he])]
      rw [q1, p1]; rfl
  · obtain ⟨a1, a2, q, hq, a3⟩ := e he
    rw [z, Nat.one_mul] at a3
    have hle : c ^ (q + 1) ≤ c ^ k := by
      by_cases h0 : c = 0
      · subst h0
        rw [Nat.zero_pow (by omega)] at a3
        omega
      · exact Nat.pow_le_pow_right (by omega) (by omega)
    refine ⟨fun hh => ⟨p.1.1, a2, ?_⟩, fun hh => by omega⟩
    rw [if_pos he, ← a1]
end Go.Proofs.YthnleejpeocaeaaDoor.Pk
