/-
  What functions of the program do, told of abstract states. Conditions: as each theorem says.
-/
import Derived.Test.YtpmmbcifhallbaaDoorTpBb
namespace Go.Proofs.YtpmmbcifhallbaaDoor.Pk
open Go Go.Proofs Go.Proofs.YtpmmbcifhallbaaDoor.Ab
set_option linter.unusedVariables false
set_option linter.unusedSimpArgs false
def goVs : Nat → List Nat → List Vx → Except Nat (List Vx × List Nat)
  | 0, bs, acc => .ok (acc, bs)
  | m + 1, bs, acc => match rdV bs with
    | .error c => .error c
    | .ok (v, b') => goVs m b' (acc ++ [v])
def rdT2 (p n : Nat) (bs : List Nat) : Except Nat (Nat × List Vx × List Nat) := match goVs n bs [] with
  | .error c => .error c
  | .ok (l, r) => .ok (p, l, r)
def rdT1 (p : Nat) (bs : List Nat) : Except Nat (Nat × List Vx × List Nat) :=
  if (dec bs 0 0).2.2 ≠ 0 then .error (dec bs 0 0).2.2 else if 24 < min (dec bs 0 0).1 1000 then .error 2 else rdT2 p (min (dec bs 0 0).1 1000) (bs.drop (dec bs 0 0).2.1)
def rdT (bs : List Nat) : Except Nat (Nat × List Vx × List Nat) :=
  if (dec bs 0 0).2.2 ≠ 0 then .error (dec bs 0 0).2.2 else rdT1 (min (dec bs 0 0).1 1000) (bs.drop (dec bs 0 0).2.1)
def tV : Except Nat (Nat × List Vx × List Nat) → V
  | .error c => .tuple [.agg (topE [] 0), .int .i64 (c : Nat)]
  | .ok (p, l, _) => .tuple [.agg (topE l (p : Int)), .int .i64 0]
theorem ofX_ne {xs : List Nat} (h : ofC xs ≠ 0 → False) (hx : xs ≠ []) : ∃ e, ofX xs = .ok e ∧ ofE xs = e := by
  unfold ofC at h
  unfold ofE
  cases hq : ofX xs with
  | ok e => exact ⟨e, rfl, rfl⟩
  | error c => rw [hq] at h; exact (h (ofX_err hq)).elim
theorem goInts_sound : ∀ (m : Nat) (r : List Nat) (acc : List Int), (∀ b ∈ r, b < 256) → (goInts m r acc).2.2 = 0 → ∃ l, (goInts m r acc).1 = acc ++ l ∧ l.length = m ∧ r = (l.flatMap fun n => enc (zz n)) ++ (goInts m r acc).2.1 ∧ ∀ n ∈ l, -2147483648 ≤ n ∧ n ≤ 2147483647
  | 0, r, acc, _, _ => ⟨[], by simp [goInts], rfl, by simp [goInts], by simp⟩
  | m + 1, r, acc, hb, h => by
    unfold goInts at h ⊢
    split at h
    · rename_i h1; exact absurd h h1
    · rename_i h1
      rw [if_neg h1]
      split at h
      · cases h
      · rename_i h2
        rw [if_neg h2]
        obtain ⟨h3, h4⟩ := dec_ok hb (by omega)
        obtain ⟨l, q1, q2, q3, q4⟩ := goInts_sound m _ _ (fun b hq => hb b (List.mem_of_mem_drop hq)) h
        refine ⟨unz (dec r 0 0).1 :: l, by rw [q1]; simp, by simp [q2], ?_, ?_⟩
        · rw [List.flatMap_cons, zz_unz _ h4, List.append_assoc, ← q3]; exact h3
        · intro n hn
          rcases List.mem_cons.1 hn with rfl | hn
          · omega
          · exact q4 n hn
theorem getInts_sound {bs : List Nat} (hb : ∀ b ∈ bs, b < 256) (h : (getInts bs 2).2.2 = 0) : bs = encInts (getInts bs 2).1 ++ (getInts bs 2).2.1 ∧ (getInts bs 2).1.length ≤ 2 ∧ ∀ n ∈ (getInts bs 2).1, -2147483648 ≤ n ∧ n ≤ 2147483647 := by
  unfold getInts at h ⊢
  split at h
  · rename_i h1; exact absurd h h1
  rename_i h1
  rw [if_neg h1]
  split at h
  · cases h
  rename_i h2
  rw [if_neg h2]
  split at h
  · rename_i h3; exact absurd h h3
  rename_i h3
  rw [if_neg h3]
  obtain ⟨h4, h5⟩ := dec_ok hb (by omega)
  obtain ⟨l, q1, q2, q3, q4⟩ := goInts_sound _ _ [] (fun b hq => hb b (List.mem_of_mem_drop hq)) h
  rw [List.nil_append] at q1
  rw [q1]
  refine ⟨?_, by omega, q4⟩
  unfold encInts
  rw [q2, List.append_assoc, ← q3]
  exact h4
theorem getBytes_sound {bs : List Nat} (hb : ∀ b ∈ bs, b < 256) (h : (getBytes bs).2.2 = 0) : bs = encBytes (getBytes bs).1 ++ (getBytes bs).2.1 := by
  unfold getBytes at h ⊢
  split at h
  · rename_i h1; exact absurd h h1
  rename_i h1
  rw [if_neg h1]
  split at h
  · cases h
  rename_i h2
  rw [if_neg h2]
  obtain ⟨h4, h5⟩ := dec_ok hb (by omega)
  unfold encBytes
  simp only
  rw [List.length_take, Nat.min_eq_left (by omega), List.append_assoc, List.take_append_drop]
  exact h4
theorem rdV_sound {bs : List Nat} (hb : ∀ b ∈ bs, b < 256) {v : Vx} {b' : List Nat} (h : rdV bs = .ok (v, b')) : OkX v ∧ Sub b' bs ∧ (v.kind < 1000 → bs = encV v ++ b') := by
  unfold rdV at h
  split at h
  · cases h
  rename_i e1
  obtain ⟨d1, l1⟩ := dec_ok hb (by omega)
  have s1 := Sub.drop bs (dec bs 0 0).2.1
  generalize hK : (dec bs 0 0).1 = K at *
  generalize bs.drop (dec bs 0 0).2.1 = b1 at *
  unfold rdV1 at h
  split at h
  · cases h
  rename_i e2
  obtain ⟨d2, l2, r2⟩ := getInts_sound (s1.lt hb) (by omega)
  have s2 := (getInts_sub b1 2).trans s1
  generalize (getInts b1 2).1 = fr at *
  generalize (getInts b1 2).2.1 = b2 at *
  unfold rdV2 at h
  split at h
  · cases h
  rename_i e3
  obtain ⟨d3, l3⟩ := dec_ok (s2.lt hb) (by omega)
  have s3 := (Sub.drop b2 (dec b2 0 0).2.1).trans s2
  have u3 := unz_range _ l3
  have z3 := zz_unz _ l3
  generalize (dec b2 0 0).1 = N at *
  generalize b2.drop (dec b2 0 0).2.1 = b3 at *
  unfold rdV3 at h
  split at h
  · cases h
  rename_i e4
  have d4 := getBytes_sound (s3.lt hb) (by omega)
  have s4 := (getBytes_sub b3).1.trans s3
  have s5 := (getBytes_sub b3).2.trans s3
  generalize (getBytes b3).1 = xs at *
  generalize (getBytes b3).2.1 = b4 at *
  have hfr : ∀ f ∈ fr, inR f := fun f hf => by have := r2 f hf; unfold inR; omega
  split at h
  · rename_i h0
    injection h with h
    injection h with h1 h2
    subst h1
    subst h2
    have hx0 : xs = [] := List.eq_nil_of_length_eq_zero h0
    refine ⟨⟨okE0 0 0 (by decide) (by decide), by simp only; omega, by simp only [inR]; omega, u3, hfr⟩, s4, fun hk => ?_⟩
    simp only at hk
    have hKK : min K 1000 = K := by omega
    have hbx : bytX (.mk 0 0 []) = [] := by decide
    unfold encV
    simp only
    rw [hKK, Int.toNat_natCast, hbx, z3]
    subst hx0
    conv => lhs; rw [d1, d2, d3, d4]
    simp only [List.append_assoc]
  · rename_i h0
    split at h
    · cases h
    rename_i h6
    injection h with h
    injection h with h1 h2
    subst h1
    subst h2
    obtain ⟨e, q1, q2⟩ := ofX_ne (xs := xs) (fun hh => h6 hh) (fun hh => h0 (by rw [hh]; rfl))
    obtain ⟨q3, q4, q5⟩ := ofX_ok (s5.lt hb) q1
    rw [q2]
    refine ⟨⟨q5, by simp only; omega, by simp only [inR]; omega, u3, hfr⟩, s4, fun hk => ?_⟩
    simp only at hk
    have hKK : min K 1000 = K := by omega
    have hbx : bytX e = xs := by unfold bytX; rw [if_pos q4, ← q3]
    unfold encV
    simp only
    rw [hKK, Int.toNat_natCast, hbx, z3]
    conv => lhs; rw [d1, d2, d3, d4]
    simp only [List.append_assoc]
theorem rdV_app {v : Vx} (hok : OkX v) (hk : 1 ≤ v.kind ∧ v.kind ≤ 10) (hl : v.frm.length ≤ 2) (hf : ∀ f ∈ v.frm, 0 ≤ f ∧ f < 24) (he : v.e = .mk 0 0 [] ∨ mayX v.e = true) (r : List Nat) : rdV (encV v ++ r) = .ok (v, r) := by
  obtain ⟨kind, fr, e, n⟩ := v
  simp only at hk hl hf he
  obtain ⟨K, rfl⟩ := Int.eq_ofNat_of_zero_le (show 0 ≤ kind by omega)
  have hn := hok.2.2.2.1
  simp only at hn
  unfold encV
  simp only [Int.toNat_natCast, List.append_assoc]
  unfold rdV
  rw [dec_app K (by omega)]
  simp only [List.drop_left]
  rw [if_neg (by simp), Nat.min_eq_left (by omega)]
  unfold rdV1
  have hg : ∀ q, getInts (encInts fr ++ q) 2 = (fr, q, 0) := fun q => by
    unfold getInts encInts
    rw [List.append_assoc, dec_app _ (by omega)]
    simp only [List.drop_left]
    rw [if_neg (by simp), if_neg (by omega), goInts_app q fr [] (fun f hq => by have := hf f hq; omega), if_neg (by simp)]
    simp
  rw [hg]
  simp only
  rw [if_neg (by simp)]
  unfold rdV2
  rw [dec_app _ (zz_lt _ hn.1 hn.2)]
  simp only [List.drop_left]
  rw [if_neg (by simp), unz_zz]
  unfold rdV3
  have hbl := bytX_len hok.1
  simp only at hbl
  rw [getBytes_app _ _ (by omega)]
  simp only
  rw [if_neg (by simp)]
  rcases he with rfl | he
  · have hbx : bytX (.mk 0 0 []) = [] := by decide
    rw [hbx, List.length_nil, if_pos rfl]
  · have hbx : bytX e = encB e := by unfold bytX; rw [if_pos he]
    rw [hbx]
    have hof := ofX_enc he hok.1
    have hne : (encB e).length ≠ 0 := by
      obtain ⟨o, m, ks⟩ := e
      rw [encB_eq]
      simp only [List.length_append]
      have := (enc_le o.toNat (by have := hok.1; cases this; omega)).1
      omega
    have hC : ofC (encB e) = 0 := by unfold ofC; rw [hof]
    have hE : ofE (encB e) = e := by unfold ofE; rw [hof]
    rw [if_neg hne, hC, if_neg (by simp), hE]
end Go.Proofs.YtpmmbcifhallbaaDoor.Pk
