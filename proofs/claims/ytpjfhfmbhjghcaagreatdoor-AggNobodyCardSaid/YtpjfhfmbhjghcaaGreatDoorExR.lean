/-
  What functions of the program do, told of abstract states. Conditions: as each theorem says.
-/
import Derived.Test.YtpjfhfmbhjghcaaGreatDoorExQ
namespace Go.Proofs.YtpjfhfmbhjghcaaGreatDoor.Pk
open Go Go.Proofs Go.Proofs.YtpjfhfmbhjghcaaGreatDoor.Ab
set_option linter.unusedVariables false
set_option linter.unusedSimpArgs false
set_option maxRecDepth 10000
/-! ### Bytes read as an expression -/
abbrev GR := Except Nat (Ex × List Nat × Nat)
def kidsG (f : Nat → List Nat → GR) : Nat → Nat → List Nat → Except Nat (List Ex × List Nat × Nat)
  | 0, left, bs => .ok ([], bs, left)
  | m + 1, left, bs => match f left bs with
    | .error e => .error e
    | .ok (k, bs', left') => match kidsG f m left' bs' with
      | .error e => .error e
      | .ok (ks, r) => .ok (k :: ks, r)
def getX : Nat → Nat → List Nat → GR
  | 0, _, _ => .error 11
  | d + 1, left, bs =>
    if left = 0 then .error 11
    else if (dec bs 0 0).2.2 ≠ 0 then .error (dec bs 0 0).2.2
    else if (dec bs 0 0).1 < 1 ∨ 16 < (dec bs 0 0).1 then .error 5
    else if (dec bs 0 0).1 = 1 then
      if (dec (bs.drop (dec bs 0 0).2.1) 0 0).2.2 ≠ 0 then .error (dec (bs.drop (dec bs 0 0).2.1) 0 0).2.2
      else .ok (.mk 1 (unz (dec (bs.drop (dec bs 0 0).2.1) 0 0).1) [], (bs.drop (dec bs 0 0).2.1).drop (dec (bs.drop (dec bs 0 0).2.1) 0 0).2.1, left - 1)
    else match kidsG (getX d) (kidsR (dec bs 0 0).1).toNat (left - 1) (bs.drop (dec bs 0 0).2.1) with
      | .error e => .error e
      | .ok (ks, r) => .ok (.mk (dec bs 0 0).1 0 ks, r)
theorem zz_unz (n : Nat) (hn : n < 2 ^ 64) : zz (unz n) = n := by
  unfold zz unz
  split <;> split <;> omega
/-- What a number's bytes are. -/
theorem dec_ok {bs : List Nat} (hb : ∀ b ∈ bs, b < 256) (h : (dec bs 0 0).2.2 = 0) : bs = enc (dec bs 0 0).1 ++ bs.drop (dec bs 0 0).2.1 ∧ (dec bs 0 0).1 < 2 ^ 64 := by
  refine ⟨?_, dec_lt bs 0 0 (by omega) (by decide) hb⟩
  obtain ⟨h1, x, h2, h3, _⟩ := dec_enc bs 0 0 (dec bs 0 0).1 (dec bs 0 0).2.1 hb (Prod.ext rfl (Prod.ext rfl h))
  have hx : x = (dec bs 0 0).1 := by rw [h2]; simp
  rw [hx, Nat.sub_zero] at h3
  rw [← h3, List.take_append_drop]
structure Got (d left : Nat) (bs : List Nat) (e : Ex) (bs' : List Nat) (left' : Nat) : Prop where
  by_ : bs = encB e ++ bs'
  sz : left' + szE e = left
  deep : deepX d e = true
  ok : OkE e
theorem kidsG_sound {d : Nat} {f : Nat → List Nat → GR} (hf : ∀ left bs, (∀ b ∈ bs, b < 256) → ∀ e bs' left', f left bs = .ok (e, bs', left') → Got d left bs e bs' left') :
    ∀ (m left : Nat) (bs : List Nat), (∀ b ∈ bs, b < 256) → ∀ ks bs' left', kidsG f m left bs = .ok (ks, bs', left') → ks.length = m ∧ bs = ks.flatMap encB ++ bs' ∧ left' + szL ks = left ∧ (∀ k ∈ ks, deepX d k = true) ∧ ∀ k ∈ ks, OkE k
  | 0, left, bs, hb, ks, bs', left', h => by
    simp only [kidsG, Except.ok.injEq, Prod.mk.injEq] at h
    obtain ⟨rfl, rfl, rfl⟩ := h
    exact ⟨rfl, rfl, by simp [szL], by simp, by simp⟩
  | m + 1, left, bs, hb, ks, bs', left', h => by
    unfold kidsG at h
    split at h
    · cases h
    · rename_i k bs1 l1 hk
      have g := hf left bs hb k bs1 l1 hk
      have hb1 : ∀ b ∈ bs1, b < 256 := fun b hbm => hb b (by rw [g.by_]; simp [hbm])
      split at h
      · cases h
      · rename_i ks2 r hks
        obtain ⟨bs2, l2⟩ := r
        simp only [Except.ok.injEq, Prod.mk.injEq] at h
        obtain ⟨rfl, rfl, rfl⟩ := h
        obtain ⟨h1, h2, h3, h4, h5⟩ := kidsG_sound hf m l1 bs1 hb1 ks2 bs2 l2 hks
        refine ⟨by simp [h1], ?_, ?_, ?_, ?_⟩
        · rw [g.by_, h2]; simp
        · rw [szL]; have := g.sz; omega
        · intro x hx
          rcases List.mem_cons.1 hx with rfl | hx
          · exact g.deep
          · exact h4 x hx
        · intro x hx
          rcases List.mem_cons.1 hx with rfl | hx
          · exact g.ok
          · exact h5 x hx
theorem kidsR_le (o : Int) : 0 ≤ kidsR o ∧ kidsR o ≤ 3 := by unfold kidsR; split <;> (try split) <;> (try split) <;> omega
theorem getX_sound : ∀ (d left : Nat) (bs : List Nat), (∀ b ∈ bs, b < 256) → ∀ e bs' left', getX d left bs = .ok (e, bs', left') → Got d left bs e bs' left'
  | 0, left, bs, hb, e, bs', left', h => by simp [getX] at h
  | d + 1, left, bs, hb, e, bs', left', h => by
    unfold getX at h
    split at h
    · cases h
    rename_i hl
    split at h
    · cases h
    rename_i he
    split at h
    · cases h
    rename_i hr
    obtain ⟨hd, hlt⟩ := dec_ok hb (by simpa using he)
    have hb1 : ∀ b ∈ bs.drop (dec bs 0 0).2.1, b < 256 := fun b hbm => hb b (List.mem_of_mem_drop hbm)
    generalize (dec bs 0 0).1 = o at *
    generalize bs.drop (dec bs 0 0).2.1 = bs1 at *
    split at h
    · rename_i ho
      split at h
      · cases h
      rename_i he2
      obtain ⟨hd2, hlt2⟩ := dec_ok hb1 (by simpa using he2)
      simp only [Except.ok.injEq, Prod.mk.injEq] at h
      obtain ⟨rfl, rfl, rfl⟩ := h
      have hu := unz_range _ hlt2
      refine ⟨?_, by simp only [szE, szL]; omega, ?_, .mk _ _ _ (by simp) (by simp) (by omega) hu⟩
      · rw [encB_eq, if_pos rfl, zz_unz _ hlt2]
        conv => lhs; rw [hd, hd2, ho]
        simp
      · simp [deepX, fitsX, kidsN, Ex.ks]
    · rename_i ho
      split at h
      · cases h
      rename_i ks r hk
      obtain ⟨bs2, l2⟩ := r
      simp only [Except.ok.injEq, Prod.mk.injEq] at h
      obtain ⟨rfl, rfl, rfl⟩ := h
      obtain ⟨h1, h2, h3, h4, h5⟩ := kidsG_sound (getX_sound d) _ _ _ hb1 ks bs2 l2 hk
      have hkr := kidsR_le (o : Int)
      have hke := kidsR_eq (o := (o : Int)) (by omega) (by omega)
      refine ⟨?_, by rw [szE]; omega, ?_, .mk _ _ _ (by omega) h5 (by omega) (by omega)⟩
      · rw [encB_eq, if_neg (by omega)]
        conv => lhs; rw [hd, h2]
        simp
      · have hfit : fitsX (.mk (o : Int) 0 ks) = true := by
          simp only [fitsX, Bool.and_eq_true, Bool.or_eq_true, decide_eq_true_eq]
          exact ⟨⟨by omega, by omega⟩, by rw [hke]; omega, by simp⟩
        rw [deepX, hfit, Bool.true_and, List.all_eq_true]
        exact h4
theorem kidsG_comp {d : Nat} {f : Nat → List Nat → GR} (r : List Nat) : ∀ (ks : List Ex) (left : Nat), (∀ k ∈ ks, ∀ left r, szE k ≤ left → f left (encB k ++ r) = .ok (k, r, left - szE k)) → szL ks ≤ left → kidsG f ks.length left (ks.flatMap encB ++ r) = .ok (ks, r, left - szL ks)
  | [], left, _, _ => by simp [kidsG, szL]
  | k :: ks, left, hf, hl => by
    rw [szL] at hl
    rw [List.length_cons, kidsG, List.flatMap_cons, List.append_assoc, hf k (by simp) left _ (by omega)]
    simp only
    rw [kidsG_comp (d := d) r ks (left - szE k) (fun x hx => hf x (by simp [hx])) (by omega)]
    simp only [szL, Nat.sub_sub]
theorem getX_comp : ∀ (d left : Nat) (e : Ex) (r : List Nat), deepX d e = true → OkE e → szE e ≤ left → getX d left (encB e ++ r) = .ok (e, r, left - szE e)
  | 0, left, e, r, hd, _, _ => by simp [deepX] at hd
  | d + 1, left, e, r, hd, hok, hl => by
    have hkok := hok.kid
    rw [deepX, Bool.and_eq_true, List.all_eq_true] at hd
    obtain ⟨hf, hk⟩ := hd
    obtain ⟨o, n, ks⟩ := e
    obtain ⟨h1, h2, h3⟩ := fits_len hf
    have hn : -2 ^ 63 ≤ n ∧ n < 2 ^ 63 := by cases hok; assumption
    obtain ⟨o, rfl⟩ : ∃ k : Nat, o = k := ⟨o.toNat, by omega⟩
    have hke := kidsR_eq (o := (o : Int)) (by omega) (by omega)
    simp only [Ex.ks] at hk hkok
    rw [szE] at hl ⊢
    have hnn : n = 0 ∨ o = 1 := by
      simp only [fitsX, Bool.and_eq_true, Bool.or_eq_true, decide_eq_true_eq] at hf
      omega
    rw [encB_eq, Int.toNat_natCast]
    unfold getX
    rw [if_neg (by omega)]
    by_cases ho : o = 1
    · subst ho
      have hks : ks = [] := by
        have : kidsN.getD (((1 : Nat) : Int)).toNat 0 = 0 := by decide
        rw [this] at h1
        exact List.eq_nil_of_length_eq_zero (by omega)
      subst hks
      have e1 : enc 1 ++ (if (((1 : Nat) : Int)) = 1 then enc (zz n) else []) ++ ([] : List Ex).flatMap encB ++ r = enc 1 ++ (enc (zz n) ++ r) := by simp
      rw [e1, dec_app 1 (by decide)]
      simp only [List.drop_left, ne_eq, not_true, if_false]
      rw [if_neg (by omega), dec_app (zz n) (zz_lt n hn.1 hn.2)]
      simp [unz_zz, szL]
    · have hn0 : n = 0 := by omega
      subst hn0
      have e1 : enc o ++ (if ((o : Nat) : Int) = 1 then enc (zz 0) else []) ++ ks.flatMap encB ++ r = enc o ++ (ks.flatMap encB ++ r) := by rw [if_neg (by omega)]; simp
      rw [e1, dec_app o (by omega)]
      simp only [List.drop_left, ne_eq, not_true, if_false]
      rw [if_neg (by omega), if_neg ho]
      have hm : (kidsR (o : Int)).toNat = ks.length := by rw [← hke, ← h1]; simp
      rw [hm, kidsG_comp (d := d) r ks (left - 1) (fun k hkm left r hle => getX_comp d left k r (hk k hkm) (hkok k hkm) hle) (by omega)]
      simp only [Nat.sub_sub]
      rw [Nat.add_comm]
end Go.Proofs.YtpjfhfmbhjghcaaGreatDoor.Pk
