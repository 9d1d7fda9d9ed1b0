/-
  What functions of the program do, told of abstract states. Conditions: as each theorem says.
-/
import Derived.Test.YtjphnabogfiahaaDoorPaL
namespace Go.Proofs.YtjphnabogfiahaaDoor.Pk
open Go Go.Proofs Go.Proofs.YtjphnabogfiahaaDoor.Ab
set_option linter.unusedVariables false
set_option linter.unusedSimpArgs false

theorem ints_drop {kk : IntKind} {l : List Int} {k : Nat} (hk : k < l.length) : (l.map (V.int kk)).drop (k * 1) = .int kk l[k] :: (l.drop (k + 1)).map (V.int kk) := by
  rw [Nat.mul_one, ← List.map_drop, List.drop_eq_getElem_cons hk]
  rfl
theorem ints_ix {kk kx : IntKind} {l : List Int} {k : Nat} (hk : k < l.length) {t : TypeId} (hs : slSz Tryd.prog t = some 1) : aIndexAddr Tryd.prog t (.imm l.length (l.map (V.int kk))) (.int kx (k : Int)) = some (.at (.int kk l[k] :: (l.drop (k + 1)).map (V.int kk))) := by
  rw [index_imm hs (by omega) (by omega) (by simp), Int.toNat_natCast, ints_drop hk]
theorem inc64 {i n : Nat} (h : i < n) (hn : n ≤ 2 ^ 62) : IntKind.i64.wrap ((i : Int) + 1) = ((i + 1 : Nat) : Int) := by rw [Go.IntWalk.i64_in _ (by omega)]; rfl

theorem list_eq_of {a b : List Int} (h : a.length = b.length) (i : Nat) (hp : a.take i = b.take i) (ha : i < a.length) (hb : i < b.length) (he : a[i] = b[i]) : a.take (i + 1) = b.take (i + 1) := by
  rw [List.take_succ_eq_append_getElem ha, List.take_succ_eq_append_getElem hb, hp, he]

set_option maxRecDepth 10000 in
theorem same (a b : List Int) (h : AHeap) (ha : a.length ≤ 2 ^ 60) : Pure Tryd.prog 37 [.imm a.length (i64V a), .imm b.length (i64V b)] h (.bool (decide (a = b))) := by
  refine SCalls.enterI (c := _) Tryd.func37 rfl (by kernel_rfl) (by simp) ?_
  by_cases hl : a.length = b.length
  · have c0 : (((a.length : Nat) : Int) != ((b.length : Nat) : Int)) = false := by simp [hl]
    simp only [wpA_skip, wpA_region, wpA_seq, wpA_cond, wpA_block, wpA_loop, condI_false, seqQ_normal, goI_out, goI_ops, opsA_nil, opsA_cons, stepA_move, stepA_assign, stepA_binOp, stepA_len, thenV_some, eval_tmp, eval_const, put_some, enterF_zero, enterF_succ, aBin_neq, absV_int, absV_bool, aLen_imm, Nat.reduceEqDiff, reduceCtorEq, if_true, if_false, kt_33, c0]
    refine SWp.loopG (α := Nat) (fun i f h' => h' = h ∧ f 0 = .imm a.length (i64V a) ∧ f 1 = .imm b.length (i64V b) ∧ f 5 = .int .i64 (i : Nat) ∧ i ≤ a.length ∧ a.take i = b.take i) (fun i => a.length - i) 0
      ⟨rfl, rfl, rfl, rfl, Nat.zero_le _, rfl⟩ ?_
    rintro i f h1 ⟨rfl, f0, f1, f5, hi, hp⟩
    refine wpI_sound (by kernel_rfl) ?_
    by_cases hlt : i < a.length
    · have c1 : decide ((i : Int) < ((a.length : Nat) : Int)) = true := by simpa using hlt
      have hlb : i < b.length := by omega
      simp only [wpA_skip, wpA_region, wpA_seq, wpA_cond, wpA_block, wpA_draw, condI_true, seqQ_normal, goI_out, goI_ops, opsA_nil, opsA_cons, stepA_move, stepA_binOp, stepA_len, thenV_some, eval_tmp, put_some, aBin_lss, aLen_imm, Nat.reduceEqDiff, reduceCtorEq, if_true, if_false, kt_33, f0, f5, c1]
      refine SWp.drawnI [] (by kernel_rfl) (by kernel_rfl) (by kernel_rfl) ?_
      by_cases he : a[i] = b[i]
      · have c2 : (a[i] != b[i]) = false := by simp [he]
        simp only [gI_nil, gI_cons, goI_rest, ggI_true, wantedA_none, idleOp, Bool.or_false, List.contains_nil, wpA_skip, wpA_region, wpA_cond, condI_false, seqQ_normal, blkQ_normal, endI_mk, andThen_normal, goI_out, goI_ops, opsA_nil, opsA_cons, stepA_move, stepA_assign, stepA_load, stepA_binOp, stepA_indexAddr, thenV_some, eval_tmp, eval_const, put_some, aBin_add, aBin_neq, absV_int, aLoad_eq, loadGo_one, aPlace_at, Nat.reduceEqDiff, Nat.reduceAdd, reduceCtorEq, Nat.zero_add, if_true, if_false, lt_3, f0, f1, f5, i64V_ix hlt ss_33, i64V_ix hlb ss_33, c2, inc64 hlt (by omega)]
        exact hid_mk ⟨i + 1, ⟨rfl, f0, f1, rfl, by omega, list_eq_of hl i hp hlt hlb he⟩, by omega⟩
      · have c2 : (a[i] != b[i]) = true := by simpa using he
        simp only [gI_nil, gI_cons, goI_rest, ggI_true, wantedA_none, idleOp, Bool.or_false, List.contains_nil, wpA_region, wpA_seq, wpA_cond, wpA_ret, condI_true, seqQ_normal, seqQ_ret, blkQ_ret, endI_mk, goE, andThen_ret, goI_out, goI_ops, opsA_nil, opsA_cons, stepA_move, stepA_assign, stepA_load, stepA_binOp, stepA_indexAddr, thenV_some, eval_tmp, eval_const, put_some, aBin_neq, absV_bool, aLoad_eq, loadGo_one, aPlace_at, Nat.reduceEqDiff, Nat.reduceAdd, reduceCtorEq, Nat.zero_add, if_true, if_false, lt_3, f0, f1, f5, i64V_ix hlt ss_33, i64V_ix hlb ss_33, c2, retA_ret, Tryd.results37, resultsA_1]
        refine hid_mk ⟨?_, rfl⟩
        have : ¬ a = b := fun hh => he (by subst hh; rfl)
        simp [this]
    · have c1 : decide ((i : Int) < ((a.length : Nat) : Int)) = false := by simp only [decide_eq_false_iff_not]; omega
      simp only [wpA_region, wpA_seq, wpA_cond, wpA_exit, wpA_ret, condI_false, seqQ_normal, seqQ_exit, blkQ_exit, endI_mk, goE, andThen_exit, goI_out, goI_ops, opsA_nil, opsA_cons, stepA_move, stepA_assign, stepA_binOp, stepA_len, thenV_some, eval_tmp, eval_const, put_some, aBin_lss, absV_bool, aLen_imm, Nat.reduceEqDiff, reduceCtorEq, if_true, if_false, kt_33, f0, f5, c1, retA_ret, Tryd.results37, resultsA_1]
      refine hid_mk ⟨?_, rfl⟩
      rw [List.take_of_length_le (by omega), List.take_of_length_le (by omega)] at hp
      simp [hp]
  · have c0 : (((a.length : Nat) : Int) != ((b.length : Nat) : Int)) = true := by simp; omega
    simp only [wpA_region, wpA_seq, wpA_cond, wpA_ret, condI_true, seqQ_normal, seqQ_ret, endI_mk, goI_out, goI_ops, opsA_nil, opsA_cons, stepA_move, stepA_assign, stepA_binOp, stepA_len, thenV_some, eval_tmp, eval_const, put_some, enterF_zero, enterF_succ, aBin_neq, absV_bool, aLen_imm, Nat.reduceEqDiff, reduceCtorEq, if_true, if_false, kt_33, c0, retA_ret, Tryd.results37, resultsA_1]
    refine hid_mk ⟨?_, rfl⟩
    have : ¬ a = b := fun hh => hl (by rw [hh])
    simp [this]

/-! ### There and back -/
theorem enc_lt : ∀ (m n : Nat), n ≤ m → ∀ b ∈ enc n, b < 256
  | m, n, h, b, hb => by
    by_cases hn : n < 128
    · rw [enc_small hn] at hb; simp at hb; omega
    · rw [enc_big hn] at hb
      rcases List.mem_cons.1 hb with rfl | hb
      · omega
      · cases m with
        | zero => omega
        | succ m => exact enc_lt m (n / 128) (by omega) b hb
theorem dec_enc_app (r : List Nat) : ∀ (m x k acc : Nat), x ≤ m → k ≤ 9 → x * 2 ^ (7 * k) < 2 ^ 64 → (0 < k → 0 < x) → dec (enc x ++ r) k acc = (acc + x * 2 ^ (7 * k), k + (enc x).length, 0)
  | m, x, k, acc, hm, hk, hx, h0 => by
    by_cases hs : x < 128
    · rw [enc_small hs, List.cons_append, dec, if_neg, if_neg (by omega), if_neg, Nat.mod_eq_of_lt hs]
      · rfl
      · intro hh; have := h0 hh.2; omega
      · rintro ⟨rfl, h1⟩
        have h2 : 2 * 2 ^ (7 * 9) ≤ x * 2 ^ (7 * 9) := Nat.mul_le_mul_right _ h1
        have h3 : 2 * 2 ^ (7 * 9) = 2 ^ 64 := by decide
        omega
    · have hk8 : k ≤ 8 := by
        rcases Nat.lt_or_ge k 9 with h | h
        · omega
        · have hk9 : k = 9 := by omega
          subst hk9
          have h2 : 128 * 2 ^ (7 * 9) ≤ x * 2 ^ (7 * 9) := Nat.mul_le_mul_right _ (by omega)
          have h3 : 2 ^ 64 ≤ 128 * 2 ^ (7 * 9) := by decide
          omega
      have e7 : 2 ^ (7 * (k + 1)) = 128 * 2 ^ (7 * k) := by rw [Nat.mul_add, Nat.pow_add, Nat.mul_comm]
      rw [enc_big hs, List.cons_append, dec, if_neg (by omega), if_pos (by omega)]
      cases m with
      | zero => omega
      | succ m =>
        rw [dec_enc_app r m (x / 128) (k + 1) _ (by omega) (by omega) (by
          rw [e7, ← Nat.mul_assoc]
          exact Nat.lt_of_le_of_lt (Nat.mul_le_mul_right _ (Nat.div_mul_le_self x 128)) hx) (by omega)]
        simp only [Prod.mk.injEq, List.length_cons, and_true]
        refine ⟨?_, by omega⟩
        rw [e7]
        have e1 : (x % 128 + 128) % 128 = x % 128 := by omega
        rw [e1, ← Nat.mul_assoc, Nat.add_assoc, ← Nat.add_mul, Nat.mul_comm (x / 128) 128, Nat.mod_add_div]
theorem dec_app (x : Nat) (hx : x < 2 ^ 64) (r : List Nat) : dec (enc x ++ r) 0 0 = (x, (enc x).length, 0) := by
  rw [dec_enc_app r x x 0 0 (Nat.le_refl _) (by omega) (by simpa using hx) (by omega)]
  simp
theorem unz_zz (n : Int) : unz (zz n) = n := by
  unfold unz zz
  by_cases h : 0 ≤ n
  · rw [if_pos h, if_pos (by omega)]; omega
  · rw [if_neg h, if_neg (by omega)]; omega
theorem getBytes_app (x r : List Nat) (hx : x.length < 2 ^ 64) : getBytes (encBytes x ++ r) = (x, r, 0) := by
  unfold getBytes encBytes
  rw [List.append_assoc, dec_app _ hx]
  simp
theorem goInts_app (r : List Nat) : ∀ (l acc : List Int), (∀ n ∈ l, -2147483648 ≤ n ∧ n ≤ 2147483647) → goInts l.length ((l.flatMap fun n => enc (zz n)) ++ r) acc = (acc ++ l, r, 0)
  | [], acc, _ => by simp [goInts]
  | n :: l, acc, h => by
    have h1 := h n (by simp)
    have hz : zz n < 2 ^ 64 := by unfold zz; split <;> omega
    rw [List.length_cons, goInts, List.flatMap_cons, List.append_assoc, dec_app _ hz]
    simp only [unz_zz]
    rw [if_neg (by simp), if_neg (by omega), List.drop_left, goInts_app r l (acc ++ [n]) fun m hm => h m (by simp [hm])]
    simp
theorem getInts_app (l : List Int) (r : List Nat) (hl : l.length < 2 ^ 63) (h : ∀ n ∈ l, -2147483648 ≤ n ∧ n ≤ 2147483647) : getInts (encInts l ++ r) (l.length : Nat) = (l, r, 0) := by
  unfold getInts encInts
  rw [List.append_assoc, dec_app _ (by omega)]
  simp only [List.drop_left]
  rw [if_neg (by simp), if_neg (by omega), goInts_app r l [] h, if_neg (by simp)]
  simp
end Go.Proofs.YtjphnabogfiahaaDoor.Pk
