/-
  What functions of the program do, told of abstract states. Conditions: as each theorem says.
-/
import Derived.Test.YtpmmbcifhallbaaDoorTpBs
namespace Go.Proofs.YtpmmbcifhallbaaDoor.Pk
open Go Go.Proofs Go.Proofs.YtpmmbcifhallbaaDoor.Ab
set_option linter.unusedVariables false
set_option linter.unusedSimpArgs false
/-! ### There and back -/
theorem goVs_sound : ∀ (m : Nat) (bs : List Nat) (acc : List Vx), (∀ b ∈ bs, b < 256) → ∀ l r, goVs m bs acc = .ok (l, r) → ∃ l', l = acc ++ l' ∧ l'.length = m ∧ (∀ v ∈ l', OkX v) ∧ Sub r bs ∧ ((∀ v ∈ l', v.kind < 1000) → bs = l'.flatMap encV ++ r)
  | 0, bs, acc, hb, l, r, h => by
    unfold goVs at h
    cases h
    exact ⟨[], by simp, rfl, by simp, Sub.rfl' _, fun _ => rfl⟩
  | m + 1, bs, acc, hb, l, r, h => by
    unfold goVs at h
    split at h
    · cases h
    · rename_i v b' hv
      obtain ⟨ok, sb, by_⟩ := rdV_sound hb hv
      obtain ⟨l', q1, q2, q3, q4, q5⟩ := goVs_sound m b' (acc ++ [v]) (sb.lt hb) l r h
      refine ⟨v :: l', by rw [q1]; simp, by simp [q2], fun u hu => ?_, q4.trans sb, fun hk => ?_⟩
      · rcases List.mem_cons.1 hu with rfl | hu
        · exact ok
        · exact q3 u hu
      · rw [by_ (hk v (by simp)), q5 fun u hu => hk u (by simp [hu])]
        simp
theorem goVs_app : ∀ (l : List Vx) (acc : List Vx) (r : List Nat), (∀ v ∈ l, ∀ r, rdV (encV v ++ r) = .ok (v, r)) → goVs l.length (l.flatMap encV ++ r) acc = .ok (acc ++ l, r)
  | [], acc, r, h => by simp [goVs]
  | v :: l, acc, r, h => by
    rw [List.length_cons, List.flatMap_cons, List.append_assoc]
    unfold goVs
    rw [h v (by simp)]
    simp only
    rw [goVs_app l (acc ++ [v]) r fun u hu => h u (by simp [hu])]
    simp
theorem rdT_sound {bs : List Nat} (hb : ∀ b ∈ bs, b < 256) {p : Nat} {l : List Vx} {r : List Nat} (h : rdT bs = .ok (p, l, r)) : OkT l ∧ p ≤ 1000 ∧ (p < 1000 → (∀ v ∈ l, v.kind < 1000) → bs = encT (p : Int) l ++ r) := by
  unfold rdT at h
  split at h
  · cases h
  rename_i e1
  obtain ⟨d1, l1⟩ := dec_ok hb (by omega)
  have s1 := Sub.drop bs (dec bs 0 0).2.1
  generalize (dec bs 0 0).1 = P at *
  generalize bs.drop (dec bs 0 0).2.1 = b1 at *
  unfold rdT1 at h
  split at h
  · cases h
  rename_i e2
  obtain ⟨d2, l2⟩ := dec_ok (s1.lt hb) (by omega)
  have s2 := (Sub.drop b1 (dec b1 0 0).2.1).trans s1
  generalize (dec b1 0 0).1 = N at *
  generalize b1.drop (dec b1 0 0).2.1 = b2 at *
  split at h
  · cases h
  rename_i e3
  unfold rdT2 at h
  split at h
  · cases h
  rename_i l0 r0 hv
  cases h
  obtain ⟨l', q1, q2, q3, q4, q5⟩ := goVs_sound _ b2 [] (s2.lt hb) _ _ hv
  rw [List.nil_append] at q1
  subst q1
  refine ⟨⟨by omega, q3⟩, by omega, fun hp hk => ?_⟩
  have h1 : min P 1000 = P := by omega
  have h2 : l.length = N := by omega
  unfold encT
  rw [h1, h2, Int.toNat_natCast]
  conv => lhs; rw [d1, d2, q5 hk]
  simp only [List.append_assoc]
theorem has_e {v : Vx} (hk : 1 ≤ v.kind ∧ v.kind ≤ 10) (h : hasX v = true) : v.e = .mk 0 0 [] ∨ mayX v.e = true := by
  unfold hasX meetsX at h
  simp only [Bool.and_eq_true] at h
  have h2 := h.2.1
  unfold exprX at h2
  split at h2
  · left
    simp only [Bool.and_eq_true, beq_iff_eq, List.isEmpty_iff] at h2
    obtain ⟨k, fr, ⟨o, n, ks⟩, m⟩ := v
    simp only [Ex.op, Ex.num, Ex.ks] at h2
    obtain ⟨rfl, rfl, rfl⟩ := h2
    rfl
  · right
    simp only [Bool.and_eq_true] at h2
    exact h2.1
theorem rdT_app {P : Nat} {l : List Vx} (hok : OkT l) (h : (chkT (P : Int) l).2 = 0) : rdT (encT (P : Int) l) = .ok (P, l, []) := by
  obtain ⟨hp, hl1, hl2, hall⟩ := chk_all h
  unfold encT
  rw [Int.toNat_natCast, List.append_assoc]
  unfold rdT
  rw [dec_app P (by omega)]
  simp only [List.drop_left]
  rw [if_neg (by simp), Nat.min_eq_left (by omega)]
  unfold rdT1
  rw [dec_app l.length (by omega)]
  simp only [List.drop_left]
  rw [if_neg (by simp), Nat.min_eq_left (by omega), if_neg (by omega)]
  unfold rdT2
  have := goVs_app l [] [] fun v hv r => rdV_app (hok.2 v hv) (hall v hv).1 (hall v hv).2.1 (hall v hv).2.2.1 (has_e (hall v hv).1 (hall v hv).2.2.2) r
  rw [List.append_nil] at this
  rw [this]
  rfl
theorem rdT_err {bs : List Nat} {c : Nat} (h : rdT bs = .error c) : c ≠ 0 := by
  have hgo : ∀ (m : Nat) (b : List Nat) (acc : List Vx) (c : Nat), goVs m b acc = .error c → c ≠ 0 := by
    intro m
    induction m with
    | zero => intro b acc c h; unfold goVs at h; cases h
    | succ m ih =>
      intro b acc c h
      unfold goVs at h
      split at h
      · rename_i hv; cases h; exact rdV_err hv
      · exact ih _ _ _ h
  unfold rdT at h
  split at h
  · injection h with h; omega
  unfold rdT1 at h
  split at h
  · injection h with h; omega
  split at h
  · injection h with h; omega
  unfold rdT2 at h
  split at h
  · rename_i hv; cases h; exact hgo _ _ _ _ hv
  · cases h
def toR (bs : List Nat) : (Int × List Vx) × Int := match rdT bs with
  | .error c => ((0, []), (c : Int))
  | .ok (p, l, r) => if r.length ≠ 0 then ((0, []), 5) else if (chkT (p : Int) l).2 ≠ 0 then ((0, []), (chkT (p : Int) l).2) else (((p : Int), l), 0)
def toV (bs : List Nat) : V := .tuple [.agg (topE (toR bs).1.2 (toR bs).1.1), .int .i64 (toR bs).2]
theorem toV_clo (bs : List Nat) : Clo (toV bs) := Clo.tuple (CloL.cons (Clo.agg (topE_clo _ _)) (CloL.cons (Clo.int _ _) CloL.nil))
theorem okT0 : OkT [] := ⟨by simp, by simp⟩
theorem toR_ok {bs : List Nat} (hb : ∀ b ∈ bs, b < 256) : OkT (toR bs).1.2 := by
  unfold toR
  cases h : rdT bs with
  | error c => exact okT0
  | ok y =>
    obtain ⟨p, l, r⟩ := y
    simp only
    split
    · exact okT0
    · split
      · exact okT0
      · exact (rdT_sound hb h).1
theorem toR_back {bs : List Nat} (hb : ∀ b ∈ bs, b < 256) (h : (toR bs).2 = 0) : (chkT (toR bs).1.1 (toR bs).1.2).2 = 0 ∧ bytT (toR bs).1.1 (toR bs).1.2 = bs := by
  unfold toR at h ⊢
  cases hr : rdT bs with
  | error c =>
    rw [hr] at h
    have := rdT_err hr
    simp only at h
    omega
  | ok y =>
    obtain ⟨p, l, r⟩ := y
    rw [hr] at h
    simp only at h ⊢
    split at h
    · cases h
    rename_i h1
    rw [if_neg h1]
    split at h
    · rename_i h2; exact absurd h h2
    rename_i h2
    rw [if_neg h2]
    have h0 : (chkT (p : Int) l).2 = 0 := by omega
    obtain ⟨hp, _, _, hall⟩ := chk_all h0
    obtain ⟨_, _, hby⟩ := rdT_sound hb hr
    refine ⟨h0, ?_⟩
    unfold bytT
    rw [if_pos h0]
    have hr0 : r = [] := List.eq_nil_of_length_eq_zero (by omega)
    have := hby (by omega) fun v hv => by have := (hall v hv).1; omega
    rw [this, hr0, List.append_nil]
theorem toR_enc {p : Int} {l : List Vx} (hok : OkT l) (h : (chkT p l).2 = 0) : toR (bytT p l) = ((p, l), 0) := by
  obtain ⟨hp, _, _, hall⟩ := chk_all h
  obtain ⟨P, rfl⟩ := Int.eq_ofNat_of_zero_le (show 0 ≤ p by omega)
  unfold bytT
  rw [if_pos h]
  unfold toR
  rw [rdT_app hok h]
  simp only [List.length_nil]
  rw [if_neg (by simp), if_neg (by omega)]
end Go.Proofs.YtpmmbcifhallbaaDoor.Pk
