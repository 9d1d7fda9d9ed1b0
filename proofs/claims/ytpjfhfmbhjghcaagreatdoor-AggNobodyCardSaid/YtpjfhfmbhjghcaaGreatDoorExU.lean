/-
  What functions of the program do, told of abstract states. Conditions: as each theorem says.
-/
import Derived.Test.YtpjfhfmbhjghcaaGreatDoorExT
namespace Go.Proofs.YtpjfhfmbhjghcaaGreatDoor.Pk
open Go Go.Proofs Go.Proofs.YtpjfhfmbhjghcaaGreatDoor.Ab
set_option linter.unusedVariables false
set_option linter.unusedSimpArgs false
/-! ### The document's answer: which may be -/
def kidsR (o : Int) : Int := if o ≤ 5 then 0 else if o = 14 then 1 else if o = 13 then 3 else 2
theorem kidsR_eq {o : Int} (h1 : 1 ≤ o) (h2 : o ≤ 16) : kidsN.getD o.toNat 0 = kidsR o := by
  obtain ⟨k, rfl⟩ : ∃ k : Nat, o = k := ⟨o.toNat, by omega⟩
  have hk : k < 17 := by omega
  simp only [Int.toNat_natCast]
  have : ∀ k : Nat, k < 17 → 1 ≤ k → kidsN.getD k 0 = kidsR (k : Int) := by decide
  exact this k hk (by omega)
def deepX : Nat → Ex → Bool
  | 0, _ => false
  | n + 1, e => fitsX e && e.ks.all (deepX n)

/-! The two agree. -/
theorem szE_pos (e : Ex) : 1 ≤ szE e := by cases e; simp [szE]
theorem cnt_eq : ∀ (l room : Nat) (e : Ex), cnt l room e = if deepX l e = true ∧ szE e ≤ room then some (szE e) else none
  | 0, room, e => by simp [cnt, deepX]
  | l + 1, room, .mk o n ks => by
    have hL : ∀ (ks : List Ex) (m : Nat), 1 ≤ m → cntL (cnt l) room m ks = if ks.all (deepX l) = true ∧ m + szL ks ≤ room ∨ ks = [] then some (m + szL ks) else none := by
      intro ks
      induction ks with
      | nil => intro m hm; simp [cntL, szL]
      | cons k r ih =>
        intro m hm
        have hp := szE_pos k
        unfold cntL
        rw [cnt_eq l (room - m) k]
        by_cases hd : deepX l k = true
        · by_cases hs : szE k ≤ room - m
          · rw [if_pos ⟨hd, hs⟩]
            simp only
            rw [ih _ (by omega)]
            cases r with
            | nil => simp [szL, hd]; omega
            | cons a r =>
              simp only [List.all_cons, hd, Bool.true_and, szL, reduceCtorEq, or_false]
              by_cases hq : (deepX l a && r.all (deepX l)) = true ∧ m + szE k + (szE a + szL r) ≤ room
              · rw [if_pos hq, if_pos ⟨hq.1, by omega⟩]; congr 1; omega
              · rw [if_neg hq, if_neg (fun hh => hq ⟨hh.1, by omega⟩)]
          · rw [if_neg (fun hh => hs hh.2)]
            simp only [List.all_cons, szL, reduceCtorEq, or_false]
            rw [if_neg (fun hh => by omega)]
        · rw [if_neg (fun hh => hd hh.1)]
          simp only [List.all_cons, reduceCtorEq, or_false]
          rw [if_neg (fun hh => by simp [hd] at hh)]
    have hdeep : deepX (l + 1) (.mk o n ks) = (fitsX (.mk o n ks) && ks.all (deepX l)) := rfl
    have hsz : szE (.mk o n ks) = szL ks + 1 := by simp [szE]
    have hcnt : cnt (l + 1) room (.mk o n ks) = if room = 0 ∨ fitsX (.mk o n ks) = false then none else cntL (cnt l) room 1 ks := rfl
    rw [hcnt]
    by_cases h0 : room = 0
    · rw [if_pos (.inl h0), if_neg (fun hh => by omega)]
    · cases hf : fitsX (.mk o n ks) with
      | false => rw [if_pos (.inr rfl), if_neg (fun hh => by rw [hdeep, hf] at hh; simp at hh)]
      | true =>
        rw [if_neg (by simp [h0]), hL ks 1 (Nat.le_refl _)]
        rw [hf, Bool.true_and] at hdeep
        cases ks with
        | nil => rw [if_pos (.inr rfl), if_pos ⟨by rw [hdeep]; rfl, by rw [hsz]; simp [szL]; omega⟩, hsz]; rfl
        | cons a r =>
          by_cases hq : (a :: r).all (deepX l) = true ∧ 1 + szL (a :: r) ≤ room
          · rw [if_pos (.inl hq), if_pos ⟨by rw [hdeep]; exact hq.1, by rw [hsz]; omega⟩, hsz]; congr 1; omega
          · rw [if_neg (by simp only [reduceCtorEq, or_false]; exact hq), if_neg (fun hh => hq ⟨by rw [← hdeep]; exact hh.1, by rw [hsz] at hh; omega⟩)]
theorem szE_bound : ∀ (l : Nat) (e : Ex), deepX l e = true → szE e ≤ 4 ^ l
  | 0, e, h => by simp [deepX] at h
  | l + 1, .mk o n ks, h => by
    simp only [deepX, Bool.and_eq_true, Ex.ks] at h
    have h3 := fits_ks h.1
    have hL : ∀ ks : List Ex, ks.all (deepX l) = true → szL ks ≤ ks.length * 4 ^ l := by
      intro ks
      induction ks with
      | nil => intro _; simp [szL]
      | cons k r ih =>
        intro hk
        simp only [List.all_cons, Bool.and_eq_true] at hk
        have := szE_bound l k hk.1
        have := ih hk.2
        simp only [szL, List.length_cons, Nat.add_mul]
        omega
    have h1 := hL ks h.2
    have h2 : ks.length * 4 ^ l ≤ 3 * 4 ^ l := Nat.mul_le_mul_right _ h3
    have hp : 1 ≤ 4 ^ l := Nat.one_le_pow _ _ (by decide)
    simp only [szE, Nat.pow_succ]
    omega
theorem mayX_eq (e : Ex) : mayX e = (deepX 16 e && decide (IntKind.i64.wrap (szE e : Nat) ≤ 64)) := by
  unfold mayX
  rw [cnt_eq]
  cases hd : deepX 16 e with
  | false => simp
  | true =>
    have hb := szE_bound 16 e hd
    have h16 : (4 : Nat) ^ 16 = 4294967296 := by decide
    have hw : IntKind.i64.wrap (szE e : Nat) = (szE e : Nat) := Go.IntWalk.i64_in _ (by omega)
    rw [hw]
    by_cases hs : szE e ≤ 64
    · have : decide ((szE e : Int) ≤ 64) = true := by simp; omega
      simp [hs, this]
    · have : decide ((szE e : Int) ≤ 64) = false := by simp; omega
      simp [hs, this]
theorem useL_snoc {op : Int} : ∀ {l : List Ex} {i : Nat}, (hi : i < l.length) → useL op (l.take (i + 1)) = (useL op (l.take i) || useX op l[i])
  | [], i, hi => by simp at hi
  | a :: r, 0, hi => by simp [useL]
  | a :: r, i + 1, hi => by
    simp only [List.take_succ_cons, useL, List.getElem_cons_succ]
    rw [useL_snoc (by simpa using hi), Bool.or_assoc]
end Go.Proofs.YtpjfhfmbhjghcaaGreatDoor.Pk
