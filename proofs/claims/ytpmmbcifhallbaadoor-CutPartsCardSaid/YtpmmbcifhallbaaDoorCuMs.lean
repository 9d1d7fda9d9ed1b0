/-
  What functions of the program do, told of abstract states. Conditions: as each theorem says.
-/
import Derived.Test.YtpmmbcifhallbaaDoorCuI
import Derived.Test.YtpmmbcifhallbaaDoorCuL
import Derived.Test.YtpmmbcifhallbaaDoorAbD
namespace Go.Proofs.YtpmmbcifhallbaaDoor.Pk
open Go Go.Proofs Go.Proofs.YtpmmbcifhallbaaDoor.Ab
set_option linter.unusedVariables false
set_option linter.unusedSimpArgs false

/-! ### What CutApart asks of the parts -/
theorem inN_mem {l : List Vx} {P : List Int} {part : Int} {m : Int} : ∀ {i : Nat}, m ∈ inN l P part i ↔ ∃ k : Nat, m = (k : Int) ∧ k < i ∧ isIn l P part k = true
  | 0 => by simp [inN]
  | i + 1 => by
    unfold inN
    rw [List.mem_append, inN_mem (i := i)]
    constructor
    · rintro (⟨k, a, b, c⟩ | h)
      · exact ⟨k, a, by omega, c⟩
      · split at h
        · rename_i hc
          exact ⟨i, by simpa using h, by omega, hc⟩
        · simp at h
    · rintro ⟨k, a, b, c⟩
      rcases Nat.lt_or_ge k i with hk | hk
      · exact .inl ⟨k, a, hk, c⟩
      · obtain rfl : k = i := by omega
        exact .inr (by rw [if_pos c, a]; simp)
theorem us_lt {l : List Vx} {v u : Int} (h : u ∈ usF v 0 l) : ∃ (m : Nat) (x : Vx), u = (m : Int) ∧ m < l.length ∧ l[m]? = some x ∧ v ∈ x.frm := by
  obtain ⟨m, x, a, b, c⟩ := usF_mem.1 h
  exact ⟨m, x, by omega, (List.getElem?_eq_some_iff.1 b).1, b, c⟩
theorem root_of {l : List Vx} {R : List Nat} (hR : Lst l R) : ∀ {i : Nat} {n : Nat}, i ≤ l.length → n < cntR R i → ∃ r, r < i ∧ R.getD r 0 = r ∧ cntR R r = n
  | 0, n, _, h => by simp [cntR, ptN] at h
  | i + 1, n, hi, h => by
    rw [cnt_succ] at h
    by_cases hr : R.getD i 0 = i
    · rw [if_pos hr] at h
      rcases Nat.lt_or_ge n (cntR R i) with hn | hn
      · obtain ⟨r, a, b, c⟩ := root_of hR (i := i) (by omega) hn
        exact ⟨r, by omega, b, c⟩
      · exact ⟨i, by omega, hr, by omega⟩
    · rw [if_neg hr] at h
      obtain ⟨r, a, b, c⟩ := root_of hR (i := i) (by omega) h
      exact ⟨r, by omega, b, c⟩
structure Apart (l : List Vx) (p : Int) (P : List Int) (R : List Nat) : Prop where
  len : P.length = l.length
  edge : ∀ (i : Nat) (x : Vx), l[i]? = some x → ∀ f ∈ x.frm, ∃ g : Nat, f = (g : Int) ∧ g < i ∧ (kindAt l f ≠ 5 → P.getD g 0 = P.getD i 0)
  step : ∀ i, i < l.length → 0 ≤ P.getD i 0 ∧ P.getD i 0 ≤ ((cntR R i : Nat) : Int) ∧ ((cntR R (i + 1) : Nat) : Int) = (if P.getD i 0 = ((cntR R i : Nat) : Int) then ((cntR R i : Nat) : Int) + 1 else ((cntR R i : Nat) : Int))
  has : ∀ n : Nat, n < cntR R l.length → inN l P (n : Int) l.length ≠ []
  none : inN l P ((cntR R l.length : Nat) : Int) l.length = []
theorem apart_of {p : Int} {l : List Vx} (h0 : (chkT p l).2 = 0) : Apart l p (partsX p l) (mgX l) := by
  obtain ⟨_, hp, l1, l24, _, hall⟩ := chk_ok h0
  have hu := up_of h0
  have hR := mgX_lst hu l24
  have hP : ∀ v, v < l.length → (partsX p l).getD v 0 = ((cntR (mgX l) ((mgX l).getD v 0) : Nat) : Int) := fun v hv => parts_get h0 hv
  have hlt : ∀ v, v < l.length → (mgX l).getD v 0 < l.length := fun v hv => by have := hR.le v; omega
  have hlen := partsX_len h0
  generalize partsX p l = P at hP hlen
  generalize mgX l = R at *
  refine ⟨hlen, fun i x hx f hf => ?_, fun i hi => ?_, fun n hn => ?_, ?_⟩
  · obtain ⟨a, b⟩ := hu i x hx f hf
    have hi := (List.getElem?_eq_some_iff.1 hx).1
    obtain ⟨g, rfl⟩ : ∃ g : Nat, f = (g : Int) := ⟨f.toNat, by omega⟩
    refine ⟨g, rfl, by omega, fun hk => ?_⟩
    rw [hP g (by omega), hP i hi, hR.ed g i ⟨x, hx, hf, hk⟩]
  · have hr := hR.root hi
    have hl := hR.le i
    rw [hP i hi, cnt_succ]
    rcases Nat.lt_or_ge (R.getD i 0) i with h | h
    · have := cnt_lt hr h
      refine ⟨by omega, by omega, ?_⟩
      rw [if_neg (by omega), if_neg (by omega)]
    · have he : R.getD i 0 = i := by omega
      rw [he]
      refine ⟨by omega, by omega, ?_⟩
      rw [if_pos rfl, if_pos rfl]
      omega
  · obtain ⟨r, r1, r2, r3⟩ := root_of hR (Nat.le_refl _) hn
    have hPr : P.getD r 0 = (n : Int) := by rw [hP r r1, r2, r3]
    have hx := List.getElem?_eq_getElem r1
    obtain ⟨vk, vf, vh, _, _⟩ := chkV_zero (hall r _ hx)
    have hfr := has_frm vk.1 vk.2 vh
    have hkr : kindAt l (r : Int) = l[r].kind := (kind_ix r1).2.2
    suffices ∃ k : Nat, k < l.length ∧ isIn l P (n : Int) k = true by
      obtain ⟨k, a, b⟩ := this
      intro h
      have := (inN_mem (m := (k : Int)) (i := l.length)).2 ⟨k, rfl, a, b⟩
      rw [h] at this
      simp at this
    by_cases h1 : l[r].kind = 1
    · refine ⟨r, r1, ?_⟩
      unfold isIn
      rw [hkr, h1, hPr]
      simp
    · have hne : l[r].frm ≠ [] := fun he => by
        rw [he] at hfr
        simp at hfr
        exact h1 hfr
      obtain ⟨f, fs, hfe⟩ := List.exists_cons_of_ne_nil hne
      have hf : f ∈ l[r].frm := by rw [hfe]; simp
      obtain ⟨a, b⟩ := vf f hf
      obtain ⟨g, rfl⟩ : ∃ g : Nat, f = (g : Int) := ⟨f.toNat, by omega⟩
      have hk5 : kindAt l (g : Int) = 5 := Classical.byContradiction fun hk => by
        have := hR.ed g r ⟨_, hx, hf, hk⟩
        have := hR.le g
        omega
      refine ⟨g, by omega, ?_⟩
      unfold isIn
      rw [hk5]
      have : ((usF (g : Int) 0 l).any fun u => P.getD u.toNat 0 == (n : Int)) = true := by
        rw [List.any_eq_true]
        exact ⟨(r : Int), usF_mem.2 ⟨r, _, by omega, hx, hf⟩, by rw [Int.toNat_natCast, hPr]; simp⟩
      rw [this]
      simp
  · have hno : ∀ v, v < l.length → (P.getD v 0 == ((cntR R l.length : Nat) : Int)) = false := fun v hv => by
      have := cnt_lt (hR.root hv) (hlt v hv)
      rw [hP v hv]
      simp only [beq_eq_false_iff_ne, ne_eq]
      omega
    refine List.eq_nil_iff_forall_not_mem.2 fun m hm => ?_
    obtain ⟨k, e, hk, hin⟩ := inN_mem.1 hm
    unfold isIn at hin
    rw [hno k hk] at hin
    simp only [Bool.and_false, Bool.false_or, Bool.and_eq_true, List.any_eq_true] at hin
    obtain ⟨_, u, hu1, hu2⟩ := hin
    obtain ⟨q, x, rfl, hq, _, _⟩ := us_lt hu1
    rw [Int.toNat_natCast, hno q hq] at hu2
    cases hu2
theorem row_f (X : Vx) (r : List V) : (if 1 ≤ (encX X ++ r).length then some (V.at ((encX X ++ r).drop 1)) else none) = some (.at (.imm X.frm.length (i64V X.frm) :: ([.int .i64 X.e.op, .int .i64 X.e.num, .imm X.e.ks.length (X.e.ks.flatMap encE), .int .i64 X.n] ++ r))) := by
  rw [if_pos (by rw [List.length_append, encX_len]; omega), encX_eq]; rfl
end Go.Proofs.YtpmmbcifhallbaaDoor.Pk
