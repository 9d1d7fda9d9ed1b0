/-
  What functions of the program do, told of abstract states. Conditions: as each theorem says.
-/
import Derived.Test.YtedkjhifbibpmaaGreatDoorAbD
import Derived.Test.YtedkjhifbibpmaaGreatDoorTyE
namespace Go.Proofs.YtedkjhifbibpmaaGreatDoor.Pk
open Go Go.Proofs Go.Proofs.YtedkjhifbibpmaaGreatDoor.Ab
set_option linter.unusedVariables false
set_option linter.unusedSimpArgs false

/-! ### Rising lists of pairs -/
abbrev Pr := Int × Int
def Srt (l : List Pr) : Prop := l.Pairwise fun a b => a.1 < b.1
def look : List Pr → Int → Option Int
  | [], _ => none
  | p :: r, k => if p.1 = k then some p.2 else look r k
def put : List Pr → Int → Int → List Pr
  | [], k, v => [(k, v)]
  | p :: r, k, v => if p.1 < k then p :: put r k v else if p.1 = k then (k, v) :: r else (k, v) :: p :: r
def rm : List Pr → Int → List Pr
  | [], _ => []
  | p :: r, k => if p.1 = k then r else p :: rm r k
def pos : List Pr → Int → Nat
  | [], _ => 0
  | p :: r, k => if p.1 < k then pos r k + 1 else 0
def has (l : List Pr) (k : Int) : Bool := (look l k).isSome
theorem pos_le : ∀ (l : List Pr) (k : Int), pos l k ≤ l.length
  | [], _ => Nat.le_refl _
  | p :: r, k => by
    unfold pos
    split
    · have := pos_le r k; simp only [List.length_cons]; omega
    · exact Nat.zero_le _
theorem pos_lt : ∀ (l : List Pr) (k : Int) (t : Nat) (p : Pr), t < pos l k → l[t]? = some p → p.1 < k
  | [], _, t, p, h, _ => by simp [pos] at h
  | q :: r, k, t, p, h, hp => by
    unfold pos at h
    split at h
    · cases t with
      | zero => simp at hp; subst hp; assumption
      | succ t => exact pos_lt r k t p (by omega) (by simpa using hp)
    · omega
theorem pos_ge : ∀ {l : List Pr}, Srt l → ∀ (k : Int) (t : Nat) (p : Pr), pos l k ≤ t → l[t]? = some p → k ≤ p.1
  | [], _, _, t, p, _, hp => by simp at hp
  | q :: r, hs, k, t, p, h, hp => by
    have hs' := List.pairwise_cons.1 hs
    unfold pos at h
    split at h
    · cases t with
      | zero => omega
      | succ t => exact pos_ge hs'.2 k t p (by omega) (by simpa using hp)
    · cases t with
      | zero => simp at hp; subst hp; omega
      | succ t =>
        have := hs'.1 p (List.mem_of_getElem? (by simpa using hp))
        omega
theorem look_none_of_lt : ∀ {l : List Pr} {k : Int}, (∀ p ∈ l, k < p.1) → look l k = none
  | [], _, _ => rfl
  | q :: r, k, h => by
    unfold look
    rw [if_neg (by have := h q (by simp); omega)]
    exact look_none_of_lt fun p hp => h p (by simp [hp])
theorem at_pos : ∀ {l : List Pr}, Srt l → ∀ (k : Int), (has l k = true ∧ ∃ p, l[pos l k]? = some p ∧ p.1 = k ∧ look l k = some p.2) ∨ (has l k = false ∧ look l k = none ∧ ∀ p, l[pos l k]? = some p → k < p.1)
  | [], _, k => .inr ⟨rfl, rfl, by simp⟩
  | q :: r, hs, k => by
    have hs' := List.pairwise_cons.1 hs
    unfold has pos
    by_cases h1 : q.1 < k
    · rw [if_pos h1]
      have : look (q :: r) k = look r k := by rw [look, if_neg (by omega)]
      rw [this]
      simpa [has] using at_pos hs'.2 k
    · rw [if_neg h1]
      by_cases h2 : q.1 = k
      · exact .inl ⟨by simp [look, h2], q, by simp, h2, by simp [look, h2]⟩
      · have : look (q :: r) k = none := look_none_of_lt fun p hp => by
          rcases List.mem_cons.1 hp with rfl | hp
          · omega
          · have := hs'.1 p hp; omega
        exact .inr ⟨by rw [this]; rfl, this, fun p hp => by simp at hp; subst hp; omega⟩
theorem put_has : ∀ {l : List Pr}, Srt l → ∀ (k v : Int), has l k = true → put l k v = l.set (pos l k) (k, v)
  | [], _, k, v, h => by simp [has, look] at h
  | q :: r, hs, k, v, h => by
    have hs' := List.pairwise_cons.1 hs
    unfold put pos
    by_cases h1 : q.1 < k
    · rw [if_pos h1, if_pos h1, List.set_cons_succ, put_has hs'.2 k v]
      have : look (q :: r) k = look r k := by rw [look, if_neg (by omega)]
      rw [has, this] at h
      exact h
    · rw [if_neg h1, if_neg h1]
      by_cases h2 : q.1 = k
      · rw [if_pos h2]; rfl
      · exfalso
        have : look (q :: r) k = none := look_none_of_lt fun p hp => by
          rcases List.mem_cons.1 hp with rfl | hp
          · omega
          · have := hs'.1 p hp; omega
        rw [has, this] at h; cases h
theorem put_new : ∀ {l : List Pr}, Srt l → ∀ (k v : Int), has l k = false → put l k v = l.take (pos l k) ++ [(k, v)] ++ l.drop (pos l k)
  | [], _, k, v, h => rfl
  | q :: r, hs, k, v, h => by
    have hs' := List.pairwise_cons.1 hs
    unfold put pos
    by_cases h1 : q.1 < k
    · rw [if_pos h1, if_pos h1, put_new hs'.2 k v]
      · simp
      · have : look (q :: r) k = look r k := by rw [look, if_neg (by omega)]
        rw [has, this] at h
        exact h
    · rw [if_neg h1, if_neg h1]
      by_cases h2 : q.1 = k
      · simp [has, look, h2] at h
      · rw [if_neg h2]; simp
theorem mem_put : ∀ {l : List Pr} {k v : Int} {p : Pr}, p ∈ put l k v → p = (k, v) ∨ p ∈ l
  | [], k, v, p, h => by simp [put] at h; exact .inl h
  | q :: r, k, v, p, h => by
    unfold put at h
    split at h
    · rcases List.mem_cons.1 h with rfl | h
      · exact .inr (by simp)
      · rcases mem_put h with h | h
        · exact .inl h
        · exact .inr (by simp [h])
    · split at h
      · rcases List.mem_cons.1 h with rfl | h
        · exact .inl rfl
        · exact .inr (by simp [h])
      · rcases List.mem_cons.1 h with rfl | h
        · exact .inl rfl
        · exact .inr h
theorem srt_put : ∀ {l : List Pr}, Srt l → ∀ (k v : Int), Srt (put l k v)
  | [], _, k, v => by simp [put, Srt]
  | q :: r, hs, k, v => by
    have hs' := List.pairwise_cons.1 hs
    unfold put
    split
    · refine List.pairwise_cons.2 ⟨fun p hp => ?_, srt_put hs'.2 k v⟩
      rcases mem_put hp with rfl | hp
      · assumption
      · exact hs'.1 p hp
    · split
      · rename_i h1 h2
        exact List.pairwise_cons.2 ⟨fun p hp => by have := hs'.1 p hp; simp only; omega, hs'.2⟩
      · refine List.pairwise_cons.2 ⟨fun p hp => ?_, hs⟩
        rcases List.mem_cons.1 hp with rfl | hp
        · simp only; omega
        · have := hs'.1 p hp; simp only; omega
theorem look_put : ∀ (l : List Pr) (k v x : Int), Srt l → look (put l k v) x = if x = k then some v else look l x
  | [], k, v, x, _ => by simp only [put, look]; by_cases h : k = x <;> simp [h, eq_comm]
  | q :: r, k, v, x, hs => by
    have hs' := List.pairwise_cons.1 hs
    unfold put
    by_cases h1 : q.1 < k
    · rw [if_pos h1, look, look, look_put r k v x hs'.2]
      by_cases h2 : q.1 = x
      · rw [if_pos h2, if_neg (by omega), if_pos h2]
      · rw [if_neg h2, if_neg h2]
    · rw [if_neg h1]
      by_cases h2 : q.1 = k
      · rw [if_pos h2, look, look]
        by_cases h3 : x = k
        · simp [h3]
        · rw [if_neg (by simp only; omega), if_neg h3, if_neg (by omega)]
      · rw [if_neg h2, look]
        by_cases h3 : x = k
        · simp [h3]
        · rw [if_neg (by simp only; omega), if_neg h3]
theorem look_mem : ∀ {l : List Pr}, Srt l → ∀ {p : Pr}, p ∈ l → look l p.1 = some p.2
  | [], _, p, h => by cases h
  | q :: r, hs, p, h => by
    have hs' := List.pairwise_cons.1 hs
    rcases List.mem_cons.1 h with rfl | h
    · simp [look]
    · rw [look, if_neg (by have := hs'.1 p h; omega)]
      exact look_mem hs'.2 h
theorem look_some : ∀ {l : List Pr} {k v : Int}, look l k = some v → (k, v) ∈ l
  | [], _, _, h => by cases h
  | q :: r, k, v, h => by
    unfold look at h
    split at h
    · rename_i hq; have := Option.some.inj h; subst this; subst hq; simp
    · simp [look_some h]
theorem len_put : ∀ {l : List Pr}, Srt l → ∀ (k v : Int), (put l k v).length = if has l k = true then l.length else l.length + 1 := by
  intro l hs k v
  cases h : has l k
  · rw [put_new hs k v h]
    have := pos_le l k
    simp
    omega
  · rw [put_has hs k v h]; simp
end Go.Proofs.YtedkjhifbibpmaaGreatDoor.Pk
namespace Go.Proofs.YtedkjhifbibpmaaGreatDoor.Pk
open Go Go.Proofs Go.Proofs.YtedkjhifbibpmaaGreatDoor.Ab
set_option linter.unusedVariables false
set_option linter.unusedSimpArgs false

/-! ### sort.Search -/
set_option maxRecDepth 10000 in
theorem pSearch (n : Nat) (g : FuncId) (cap : List V) (p : Nat → Bool) (h : AHeap) (hn : n < 2 ^ 61) (hcal : callable Tryz.prog g = true) (hf : ∀ i, i < n → Pure Tryz.prog g (.int .i64 (i : Nat) :: cap) h (.bool (p i)))
    (r : Nat) (hr : r ≤ n) (h1 : ∀ t, t < r → p t = false) (h2 : ∀ t, r ≤ t → t < n → p t = true) : Pure Tryz.prog 206 [.int .i64 (n : Nat), .func (.func g) [] cap] h (.int .i64 (r : Nat)) := by
  refine SCalls.enterI (c := _) Tryz.func206 rfl (by kernel_rfl) (by simp) ?_
  simp only [wpA_region, wpA_seq, wpA_block, wpA_loop, seqQ_normal, goI_out, goI_ops, opsA_nil, opsA_cons, stepA_move, stepA_assign, eval_tmp, eval_const, put_some, enterF_zero, enterF_succ, absV_int, Nat.reduceEqDiff, reduceCtorEq, if_true, if_false]
  refine SWp.loopG (α := Nat × Nat) (fun x f h' => h' = h ∧ f 1 = .func (.func g) [] cap ∧ f 5 = .int .i64 (x.1 : Nat) ∧ f 6 = .int .i64 (x.2 : Nat) ∧ x.1 ≤ r ∧ r ≤ x.2 ∧ x.2 ≤ n) (fun x => x.2 - x.1) (0, n)
    ⟨rfl, rfl, rfl, rfl, Nat.zero_le _, hr, Nat.le_refl _⟩ ?_
  rintro ⟨lo, hi⟩ f h' ⟨rfl, f1, f5, f6, a1, a2, a3⟩
  simp only at f5 f6 a1 a2 a3
  refine wpI_sound (by kernel_rfl) ?_
  by_cases hlt : lo < hi
  · have d1 : decide ((lo : Int) < (hi : Int)) = true := decide_eq_true (by omega)
    have w1 : IntKind.i64.wrap ((lo : Int) + (hi : Int)) = ((lo + hi : Nat) : Int) := by rw [Go.IntWalk.i64_in _ (by omega)]; omega
    have w2 := nat_u64 (n := lo + hi) (by omega)
    have w3 : (((lo + hi : Nat) : Int)).fdiv (2 ^ (min (Int.toNat 1) IntKind.u64.bits)) = (((lo + hi) / 2 : Nat) : Int) := by
      rw [show (2 : Int) ^ (min (Int.toNat 1) IntKind.u64.bits) = 2 from rfl, Int.fdiv_eq_ediv_of_nonneg _ (by omega)]; omega
    have w4 := nat_i64 (n := (lo + hi) / 2) (by omega)
    have w5 := inc64 (i := (lo + hi) / 2) (n := n) (by omega) (by omega)
    simp only [wpA_skip, wpA_region, wpA_seq, wpA_cond, wpA_block, condI_true, seqQ_normal, goI_out, goI_ops, opsA_nil, opsA_cons, stepA_move, stepA_assign, stepA_binOp, stepA_convert, stepA_callv, callvI_func, thenV_some, thenC_some, eval_tmp, eval_const, put_some, aBin_add, aBin_lss, absV_int, Nat.reduceEqDiff, List.map_cons, List.map_nil, List.nil_append, List.cons_append, if_true, if_false, f1, f5, f6, d1, w1, aConv_int it_3 it_312, w2, aBin_shr (show (0 : Int) ≤ 1 by decide), w3, aConv_int it_312 it_3, w4]
    refine callI_pure hcal (hf _ (by omega)) ?_
    cases hp : p ((lo + hi) / 2)
    · have : ¬ r ≤ (lo + hi) / 2 := fun hh => by have := h2 _ hh (by omega); rw [hp] at this; cases this
      simp only [wpA_region, wpA_cond, condI_true, seqQ_normal, blkQ_normal, endI_mk, andThen_normal, goI_out, goI_ops, opsA_nil, opsA_cons, stepA_move, stepA_assign, stepA_binOp, stepA_unOp, thenV_some, eval_tmp, eval_const, put_some, aBin_add, aUn_not, absV_int, Nat.reduceEqDiff, if_true, if_false, Bool.not_false, w5]
      exact hid_mk ⟨((lo + hi) / 2 + 1, hi), ⟨rfl, f1, rfl, f6, by simp only; omega, a2, a3⟩, by simp only; omega⟩
    · have : ¬ (lo + hi) / 2 < r := fun hh => by have := h1 _ hh; rw [hp] at this; cases this
      simp only [wpA_region, wpA_cond, condI_false, seqQ_normal, blkQ_normal, endI_mk, andThen_normal, goI_out, goI_ops, opsA_nil, opsA_cons, stepA_move, stepA_assign, stepA_unOp, thenV_some, eval_tmp, put_some, aUn_not, Nat.reduceEqDiff, if_true, if_false, Bool.not_true]
      exact hid_mk ⟨(lo, (lo + hi) / 2), ⟨rfl, f1, f5, rfl, a1, by simp only; omega, by simp only; omega⟩, by simp only; omega⟩
  · have d1 : decide ((lo : Int) < (hi : Int)) = false := decide_eq_false (by omega)
    obtain rfl : lo = r := by omega
    simp only [wpA_region, wpA_seq, wpA_cond, wpA_exit, wpA_ret, condI_false, seqQ_normal, seqQ_exit, blkQ_exit, endI_mk, goE, andThen_exit, goI_out, goI_ops, opsA_nil, opsA_cons, stepA_move, stepA_assign, stepA_binOp, thenV_some, eval_tmp, put_some, aBin_lss, Nat.reduceEqDiff, if_true, if_false, f5, f6, d1, retA_ret, Tryz.results206, resultsA_1]
    exact hid_mk ⟨rfl, rfl⟩
end Go.Proofs.YtedkjhifbibpmaaGreatDoor.Pk
namespace Go.Proofs.YtedkjhifbibpmaaGreatDoor.Pk
open Go Go.Proofs Go.Proofs.YtedkjhifbibpmaaGreatDoor.Ab
set_option linter.unusedVariables false
set_option linter.unusedSimpArgs false

/-! ### Lists laid into lists -/
theorem lay_at {α : Type} (A M X : List α) {a : Nat} (ha : A.length = a) : lay (A ++ M) a X = A ++ X ++ M.drop X.length := by
  unfold lay
  rw [← ha, List.take_left, show A.length + X.length = A.length + X.length from rfl, List.drop_append]
  simp
theorem lay_two {α : Type} (A M X B : List α) {a x b : Nat} (ha : A.length = a) (hx : X.length = x) (hb : B.length = b) (hm : M.length = x + b) : lay (lay (A ++ M) a X) (a + x) B = A ++ X ++ B := by
  rw [lay_at A M X ha, lay_at (A ++ X) _ B (by simp [ha, hx])]
  rw [List.drop_of_length_le (l := M.drop X.length) (by simp; omega)]
  simp
theorem lay_shift {α : Type} (c A B X : List α) {a x b : Nat} (ht : c.take (a + b) = A ++ B) (ha : A.length = a) (hb : B.length = b) (hx : X.length = x) (hl : a + x + b ≤ c.length) :
    ∃ R, lay (lay c (a + x) B) a X = A ++ X ++ (B ++ R) ∧ (lay (lay c (a + x) B) a X).length = c.length := by
  have h1 : c.take a = A := by
    have := congrArg (List.take a) ht
    rw [List.take_take, Nat.min_eq_left (by omega), ← ha, List.take_left] at this
    rw [← ha]; exact this
  have l1 : (lay c (a + x) B).length = c.length := length_lay _ _ _ (by omega)
  refine ⟨c.drop (a + x + b), ?_, by rw [length_lay _ _ _ (by omega), l1]⟩
  have e1 : (lay c (a + x) B).take a = A := by
    unfold lay
    rw [List.append_assoc, List.take_append_of_le_length (by rw [List.length_take]; omega), List.take_take, Nat.min_eq_left (by omega), h1]
  have e2 : (lay c (a + x) B).drop (a + x) = B ++ c.drop (a + x + b) := by
    unfold lay
    rw [List.append_assoc, List.drop_append_of_le_length (by rw [List.length_take]; omega), List.drop_of_length_le (by rw [List.length_take]; omega), hb]
    simp
  generalize lay c (a + x) B = d at e1 e2 l1
  unfold lay
  rw [e1, hx, e2]
theorem ovS : ovOk Tryz.prog 208 := ⟨_, Tryz.func208, by kernel_rfl, by kernel_rfl, by kernel_rfl, by kernel_rfl, 267, 297, 2, 4, by kernel_rfl, by kernel_rfl, Tryz.underlying267, by kernel_rfl⟩
set_option maxHeartbeats 2000000 in
set_option maxRecDepth 10000 in
theorem insertK (i len cap k j : Nat) (c cs xs : List V) (ex : Option Nat) (h : AHeap) (o : OwnK h 297 2 i len cap c ex cs) (hl : len < 2 ^ 40) (hk : k ≤ len) (hj : h.get j = .cells xs 297 none) (hjn : j < h.n) (hij : j ≠ i)
    (hx : xs.length = 2) (hone : xs.all (·.one) = true) (hcone : cs.all (·.one) = true) : SCalls Tryz.prog 172 [.sl i 0 len cap, .int .i64 (k : Nat), .sl j 0 1 1] h
      (fun r h' => Own h' 297 2 r (cs.take (k * 2) ++ xs ++ cs.drop (k * 2)) ∧ Keep h h' (fun q => q = i) ∧ NewOr h (.sl i 0 len cap) r) := by
  refine SCalls.enterI (c := _) Tryz.func172 rfl (by kernel_rfl) (by simp) ?_
  have oo := o
  obtain ⟨hi, hg, hlen, htake, hu, hcc, hlc⟩ := oo
  have c1 : ((1 : Nat) : Int) = 1 := rfl
  have s1 := slK_from (P := Tryz.prog) (t := 267) (i := i) (o := 0) (len := len) (cap := cap) (k := .i64) ss_267 hu hk hlc
  have hoj : Own h 297 2 (.sl j 0 1 1) xs := .inr ⟨j, 1, 1, xs, none, rfl, hjn, hj, by rw [hx], by rw [List.take_of_length_le (by omega)], .inl ⟨by unfold unk; omega, by omega, Nat.le_refl _⟩⟩
  have hsrc := own_src (P := Tryz.prog) (t := 267) kt_267 hoj (n := 1) (by rw [hx]) (by decide) hone
  by_cases hkl : k = len
  · subst hkl
    have d1 : ((k : Int) == (k : Int)) = true := by simp
    obtain ⟨v', h', ea, oa, ka, na⟩ := append_ownM (P := Tryz.prog) (t := 267) (tx := 267) sl_267 (by decide) o.own hsrc (by rw [hx]; rfl) (fun m hm => by
      change m * 2 = _ at hm
      rw [hlen, hx] at hm
      exact ⟨by simp only [lim]; omega, by simp only [lim]; omega⟩)
    simp only [wpA_skip, wpA_region, wpA_seq, wpA_cond, wpA_ret, condI_true, condI_false, seqQ_normal, seqQ_ret, endI_mk, goI_out, goI_ops, opsA_nil, opsA_cons, stepA_move, stepA_assign, stepA_binOp, stepA_slice, stepA_len, stepA_append, thenV_some, thenH_some, eval_tmp, eval_const, put_some, enterF_zero, enterF_succ, aBin_eql, absV_int, absV_snil, aLen_sl, Int.reduceBEq, beq_self_eq_true, Nat.reduceEqDiff, reduceCtorEq, Option.map_some, Option.map_none, Nat.zero_add, if_true, if_false, kt_267, s1, c1, ea, retA_ret, Tryz.results172, resultsA_1]
    refine hid_mk ⟨?_, ka.mono fun q hq => (Option.some.inj hq).symm, na⟩
    rw [List.take_of_length_le (by omega), List.drop_of_length_le (by omega), List.append_nil]
    exact oa
  have hkl : k < len := by omega
  have d1 : ((k : Int) == (len : Int)) = false := by simp; omega
  have w1 := inc64 (i := len) (n := len + 1) (by omega) (by omega)
  have wk := inc64 (i := k) (n := len) (by omega) (by omega)
  have hc := aCap_k (P := Tryz.prog) (t := 267) (i := i) (o := 0) (len := len) sl_267 hu
  have hlA : (cs.take (k * 2)).length = k * 2 := by rw [List.length_take]; omega
  have hlB : (cs.drop (k * 2)).length = (len - k) * 2 := by rw [List.length_drop]; omega
  have hB : (c.drop (k * 2)).take ((len - k) * 2) = cs.drop (k * 2) := by rw [← htake, List.drop_take]; congr 1; omega
  have hBone : ((c.drop (k * 2)).take ((len - k) * 2)).all (·.one) = true := by
    rw [hB, List.all_eq_true]
    exact fun v hv => List.all_eq_true.1 hcone v (List.mem_of_mem_drop hv)
  have hxs : (xs.drop 0).take (1 * 2) = xs := by rw [List.drop_zero, List.take_of_length_le (by omega)]
  by_cases hroom : cap < len + 1
  · have d2 : decide ((cap : Int) < ((len + 1 : Nat) : Int)) = true := decide_eq_true (by omega)
    have s2 := slK_to (P := Tryz.prog) (t := 267) (i := i) (o := 0) (len := len) (cap := cap) (k := .i64) (m := k) ss_267 hu (by omega)
    have w2 : IntKind.i64.wrap (((len + 1 : Nat) : Int) - (k : Int)) = ((len + 1 - k : Nat) : Int) := by rw [Go.IntWalk.i64_in _ (by omega)]; omega
    have e1 := append_made (P := Tryz.prog) (t := 267) (kq := .i64) (o := 0) (len := k) (cap := cap) (n := len + 1 - k) (kn := .i64) (tn := 3) sl_267 (by kernel_rfl) (by decide) hg (by omega) hu (by omega) (by simp only [lim]; omega) (by simp only [lim]; omega) (by simp only []; omega)
    simp only [List.drop_zero] at e1
    have hN : k + (len + 1 - k) = len + 1 := by omega
    rw [hN] at e1
    obtain ⟨H1, hH1⟩ : ∃ y, y = h.push (.cells (c.take (k * 2) ++ made [V.int .i64 0, V.int .i64 0] (len + 1 - k)) 297 (some 2)) := ⟨_, rfl⟩
    rw [← hH1] at e1
    have g1 : H1.get h.n = .cells (c.take (k * 2) ++ made [V.int .i64 0, V.int .i64 0] (len + 1 - k)) 297 (some 2) := by rw [hH1]; exact get_push_new
    have gj : H1.get j = .cells xs 297 none := by rw [hH1, get_push_lt hjn]; exact hj
    have gi : H1.get i = .cells c 297 ex := by rw [hH1, get_push_lt hi]; exact hg
    have n1 : H1.n = h.n + 1 := by rw [hH1]; rfl
    have k1 : Keep h H1 none_ := by rw [hH1]; exact Keep.push _ _ _
    have s3 : aSlice Tryz.prog 267 (.sl h.n 0 (len + 1) unk) (some (.int .i64 (k : Int))) none none = some (.sl h.n (0 + k * 2) (len + 1 - k) (unk + 0 + k)) := slU_from (a := 0) ss_267 (by omega)
    have s4 : aSlice Tryz.prog 267 (.sl h.n 0 (len + 1) unk) (some (.int .i64 ((k + 1 : Nat) : Int))) none none = some (.sl h.n (0 + (k + 1) * 2) (len + 1 - (k + 1)) (unk + 0 + (k + 1))) := slU_from (a := 0) ss_267 (by omega)
    rw [Nat.zero_add, Nat.add_zero] at s3 s4
    have hcA : c.take (k * 2) = cs.take (k * 2) := by rw [← htake, List.take_take, Nat.min_eq_left (by omega)]
    have hml : (made [V.int .i64 0, V.int .i64 0] (len + 1 - k)).length = (len + 1 - k) * 2 := length_made _ _
    have e2 := copy_sl (P := Tryz.prog) (t := 267) (tx := 267) (o := k * 2) (dl := len + 1 - k) (dc := unk + k) (p := 0) (n := 1) (d := 1) (m := 1) sl_267 g1 gj (by show min 1 (len + 1 - k) = 1; omega) (by decide) (by simp only []; omega) (by rw [List.length_append, hml, hcA, hlA]; simp only []; omega) (by rw [hxs]; exact hone)
    rw [hxs] at e2
    obtain ⟨H2, hH2⟩ : ∃ y, y = H1.set h.n (.cells (lay (c.take (k * 2) ++ made [V.int .i64 0, V.int .i64 0] (len + 1 - k)) (k * 2) xs) 297 (some 2)) := ⟨_, rfl⟩
    rw [← hH2] at e2
    have g2 : H2.get h.n = .cells (lay (c.take (k * 2) ++ made [V.int .i64 0, V.int .i64 0] (len + 1 - k)) (k * 2) xs) 297 (some 2) := by rw [hH2]; exact get_set_same
    have gi2 : H2.get i = .cells c 297 ex := by rw [hH2, get_set_ne (by omega)]; exact gi
    have l2 : (lay (c.take (k * 2) ++ made [V.int .i64 0, V.int .i64 0] (len + 1 - k)) (k * 2) xs).length = (len + 1) * 2 := by rw [length_lay _ _ _ (by rw [List.length_append, hml, hcA, hlA, hx]; omega), List.length_append, hml, hcA, hlA]; omega
    have k2 : Keep h H2 none_ := by rw [hH2]; exact k1.trans (Keep.set _ _ _) fun q hq hh => by omega
    have s5 := slK_from (P := Tryz.prog) (t := 267) (i := i) (o := 0) (len := len) (cap := cap) (k := .i64) (l := k) ss_267 hu hk hlc
    rw [if_neg (by omega), Nat.zero_add] at s5
    have e3 := copy_sl (P := Tryz.prog) (t := 267) (tx := 267) (o := (k + 1) * 2) (dl := len + 1 - (k + 1)) (dc := unk + (k + 1)) (p := k * 2) (n := len - k) (d := cap - k) (m := len - k) sl_267 g2 gi2 (by show min (len - k) (len + 1 - (k + 1)) = len - k; omega) (by omega) (by simp only []; omega) (by rw [l2]; simp only []; omega) hBone
    simp only at e3
    rw [hB] at e3
    rw [show (k + 1) * 2 = k * 2 + 2 by omega] at s4 e3
    rw [hcA, lay_two (cs.take (k * 2)) (made [V.int .i64 0, V.int .i64 0] (len + 1 - k)) xs (cs.drop (k * 2)) hlA hx hlB (by rw [hml]; omega)] at e3
    simp only [wpA_skip, wpA_region, wpA_seq, wpA_cond, wpA_draw, condI_true, condI_false, seqQ_normal, goI_out, goI_ops, opsA_nil, opsA_cons, stepA_move, stepA_assign, stepA_binOp, stepA_slice, stepA_len, stepA_append, stepA_copy, stepA_cap, thenV_some, thenH_some, eval_tmp, eval_const, put_some, enterF_zero, enterF_succ, aBin_add, aBin_sub, aBin_eql, aBin_gtr, absV_int, absV_snil, aLen_sl, Int.reduceBEq, Nat.reduceEqDiff, reduceCtorEq, Option.map_some, Option.map_none, Nat.add_zero, Nat.zero_add, if_true, if_false, kt_267, s1, c1, d1, w1, hc, d2, s2, w2, e1, s3, e2]
    refine SWp.drawnS none_ [8] (.q 0 (.q 1 (.q 2 (.q 3 (.q 4 (.q 5 (.q 6 (.q 7 (.a 8 .done))))))))) (by kernel_rfl) (by kernel_rfl) (by kernel_rfl) ?_
    simp only [siI_done, siI_q, siI_a, sqI_some, saI_some, mOk_none', implies_true, qI_nil, qI_cons, thenQ_some, q_move, q_binOp, q_slice, wpA_region, wpA_seq, wpA_ret, seqQ_normal, seqQ_ret, endI_mk, goI_out, goI_ops, goI_mk, opsA_nil, opsA_cons, stepA_move, stepA_assign, stepA_copy, thenH_some, eval_tmp, put_some, enterF_zero, enterF_succ, aBin_add, List.getElem?_cons_zero, List.getElem?_cons_succ, Nat.reduceEqDiff, reduceCtorEq, Option.map_some, Option.map_none, Nat.add_zero, true_and, if_true, if_false, wk, s4, s5, e3, retA_ret, Tryz.results172, resultsA_1]
    refine hid_mk ⟨?_, ?_, .inr fun q hq => ?_⟩
    · refine Own.grown (by rw [set_n, hH2, set_n, n1]; omega) get_set_same ?_
      simp only [List.length_append, hlA, hlB, hx]; omega
    · exact (k2.trans (Keep.set _ _ _) fun q hq hh => by omega).up
    · simp only [idOf, Option.some.injEq] at hq; omega
  · have d2 : decide ((cap : Int) < ((len + 1 : Nat) : Int)) = false := decide_eq_false (by omega)
    have hroom2 : len + 1 ≤ cap := by omega
    have s2 := slK_to (P := Tryz.prog) (t := 267) (i := i) (o := 0) (len := len) (cap := cap) (k := .i64) (m := len + 1) ss_267 hu hroom2
    have s3 := slK_from (P := Tryz.prog) (t := 267) (i := i) (o := 0) (len := len + 1) (cap := cap) (k := .i64) (l := k + 1) ss_267 hu (by omega) hroom2
    rw [if_neg (by omega), Nat.zero_add] at s3
    have s4 := slK_from (P := Tryz.prog) (t := 267) (i := i) (o := 0) (len := len + 1) (cap := cap) (k := .i64) (l := k) ss_267 hu (by omega) hroom2
    rw [if_neg (by omega), Nat.zero_add] at s4
    have hov : aOv h [.sl j 0 1 1, .sl i ((k + 1) * 2) (len + 1 - (k + 1)) (cap - (k + 1))] = some (.bool false) := by
      cases c with
      | nil => simp at hcc; omega
      | cons c0 cr => simp [aOv, hj, hg, hij]
    have hcl : len * 2 + 2 ≤ c.length := by omega
    have e2 := copy_sl (P := Tryz.prog) (t := 267) (tx := 267) (o := (k + 1) * 2) (dl := len + 1 - (k + 1)) (dc := cap - (k + 1)) (p := k * 2) (n := len + 1 - k) (d := cap - k) (m := len - k) sl_267 hg hg (by show min (len + 1 - k) (len + 1 - (k + 1)) = len - k; omega) (by omega) (by simp only []; omega) (by simp only []; omega) hBone
    simp only at e2
    rw [hB] at e2
    obtain ⟨R, hR, hRl⟩ := lay_shift c (cs.take (k * 2)) (cs.drop (k * 2)) xs (a := k * 2) (x := 2) (b := (len - k) * 2) (by rw [List.take_append_drop, show k * 2 + (len - k) * 2 = len * 2 by omega]; exact htake) hlA hlB hx (by omega)
    rw [show (k + 1) * 2 = k * 2 + 2 by omega] at s3 hov e2
    obtain ⟨H1, hH1⟩ : ∃ y, y = h.set i (.cells (lay c (k * 2 + 2) (cs.drop (k * 2))) 297 ex) := ⟨_, rfl⟩
    rw [← hH1] at e2
    have g1 : H1.get i = .cells (lay c (k * 2 + 2) (cs.drop (k * 2))) 297 ex := by rw [hH1]; exact get_set_same
    have gj : H1.get j = .cells xs 297 none := by rw [hH1, get_set_ne hij]; exact hj
    have k1 : Keep h H1 (fun q => q = i) := by rw [hH1]; exact Keep.set _ _ _
    have n1 : H1.n = h.n := by rw [hH1]; rfl
    have l1 : (lay c (k * 2 + 2) (cs.drop (k * 2))).length = c.length := length_lay _ _ _ (by rw [hlB]; omega)
    have e3 := copy_sl (P := Tryz.prog) (t := 267) (tx := 267) (o := k * 2) (dl := len + 1 - k) (dc := cap - k) (p := 0) (n := 1) (d := 1) (m := 1) sl_267 g1 gj (by show min 1 (len + 1 - k) = 1; omega) (by decide) (by simp only []; omega) (by rw [l1]; simp only []; omega) (by rw [hxs]; exact hone)
    simp only at e3
    rw [hxs] at e3
    simp only [wpA_skip, wpA_region, wpA_seq, wpA_cond, condI_false, seqQ_normal, goI_out, goI_ops, opsA_nil, opsA_cons, stepA_move, stepA_assign, stepA_binOp, stepA_slice, stepA_len, stepA_cap, stepA_call, thenV_some, eval_tmp, eval_const, put_some, enterF_zero, enterF_succ, aBin_add, aBin_eql, aBin_gtr, absV_int, absV_snil, aLen_sl, Int.reduceBEq, Nat.reduceEqDiff, reduceCtorEq, List.map_cons, List.map_nil, Option.map_some, Option.map_none, Nat.zero_add, if_true, if_false, kt_267, s1, c1, d1, w1, hc, d2, s2, wk, s3]
    refine callI_ov ncal208 ovS hov ?_
    simp only [wpA_seq, wpA_cond, wpA_draw, condI_true, seqQ_normal, goI_out, goI_ops, opsA_nil, opsA_cons, stepA_unOp, thenV_some, eval_tmp, put_some, enterF_succ, aUn_not, Nat.reduceEqDiff, reduceCtorEq, if_true, if_false, Bool.not_false]
    refine SWp.drawnS none_ [8] (.q 0 (.q 1 (.q 2 (.q 3 (.q 4 (.q 5 (.q 6 (.q 7 (.a 8 .done))))))))) (by kernel_rfl) (by kernel_rfl) (by kernel_rfl) ?_
    simp only [siI_done, siI_q, siI_a, sqI_some, saI_some, mOk_none', implies_true, qI_nil, qI_cons, thenQ_some, q_move, q_binOp, q_slice, wpA_region, wpA_seq, wpA_ret, seqQ_normal, seqQ_ret, endI_mk, goI_out, goI_ops, goI_mk, opsA_nil, opsA_cons, stepA_move, stepA_assign, stepA_slice, stepA_copy, thenV_some, thenH_some, eval_tmp, put_some, enterF_zero, enterF_succ, aBin_add, List.getElem?_cons_zero, List.getElem?_cons_succ, Nat.reduceEqDiff, reduceCtorEq, Option.map_some, Option.map_none, true_and, if_true, if_false, wk, s3, s4, e2, e3, retA_ret, Tryz.results172, resultsA_1]
    refine hid_mk ⟨.inr ⟨i, len + 1, cap, _, ex, rfl, by rw [set_n, n1]; exact hi, get_set_same, ?_, ?_, .inl ⟨hu, by rw [hRl]; exact hcc, hroom2⟩⟩, k1.trans' (Keep.set _ _ _), .inl rfl⟩
    · simp only [List.length_append, hlA, hlB, hx]; omega
    · rw [hR, ← List.append_assoc]
      exact List.take_left' (by simp only [List.length_append, hlA, hlB, hx]; omega)
end Go.Proofs.YtedkjhifbibpmaaGreatDoor.Pk
namespace Go.Proofs.YtedkjhifbibpmaaGreatDoor.Pk
open Go Go.Proofs Go.Proofs.YtedkjhifbibpmaaGreatDoor.Ab
set_option linter.unusedVariables false
set_option linter.unusedSimpArgs false

set_option maxRecDepth 10000 in
theorem insertC (v : V) (k j : Nat) (cs xs : List V) (h : AHeap) (o : Own h 297 2 v cs) (hl : cs.length < 2 ^ 40) (hk : k * 2 ≤ cs.length) (hj : h.get j = .cells xs 297 none) (hjn : j < h.n) (hij : idOf v ≠ some j)
    (hx : xs.length = 2) (hone : xs.all (·.one) = true) (hcone : cs.all (·.one) = true) : SCalls Tryz.prog 172 [v, .int .i64 (k : Nat), .sl j 0 1 1] h
      (fun r h' => Own h' 297 2 r (cs.take (k * 2) ++ xs ++ cs.drop (k * 2)) ∧ Keep h h' (isId v) ∧ NewOr h v r) := by
  refine SCalls.ownK o (by decide) (fun hv hc => ?_) fun i len cap c ex h2 hv ok hcap kk hn => ?_
  · subst hc
    obtain rfl : k = 0 := by simp at hk; omega
    have hoj : Own h 297 2 (.sl j 0 1 1) xs := .inr ⟨j, 1, 1, xs, none, rfl, hjn, hj, by rw [hx], by rw [List.take_of_length_le (by omega)], .inl ⟨by unfold unk; omega, by omega, Nat.le_refl _⟩⟩
    have hsrc := own_src (P := Tryz.prog) (t := 267) kt_267 hoj (n := 1) (by rw [hx]) (by decide) hone
    obtain ⟨v', h', ea, oa, ka, na⟩ := append_ownM (P := Tryz.prog) (t := 267) (tx := 267) sl_267 (by decide) o hsrc (by rw [hx]; rfl) (fun m hm => by
      change m * 2 = _ at hm
      rw [hx] at hm
      simp only [List.length_nil] at hm
      exact ⟨by simp only [lim]; omega, by simp only [lim]; omega⟩)
    obtain ⟨e, hu1, hz⟩ := slSz_eq (P := Tryz.prog) ss_267
    have c1 : ((1 : Nat) : Int) = 1 := rfl
    have c0 : ((0 : Nat) : Int) = 0 := rfl
    have fin : Own h' 297 2 v' (([] : List V).take (0 * 2) ++ xs ++ ([] : List V).drop (0 * 2)) ∧ Keep h h' (isId v) ∧ NewOr h v v' := ⟨by simpa using oa, ka, na⟩
    rcases hv with rfl | rfl
    · have s1 : aSlice Tryz.prog 267 .snil (some (.int .i64 0)) none none = some .snil := by unfold aSlice; rw [hu1]; simp only [hz]; rfl
      refine SCalls.enterI (c := _) Tryz.func172 rfl (by kernel_rfl) (by simp) ?_
      simp only [wpA_skip, wpA_region, wpA_seq, wpA_cond, wpA_ret, condI_true, condI_false, seqQ_normal, seqQ_ret, endI_mk, goI_out, goI_ops, opsA_nil, opsA_cons, stepA_move, stepA_assign, stepA_binOp, stepA_slice, stepA_len, stepA_append, thenV_some, thenH_some, eval_tmp, eval_const, put_some, enterF_zero, enterF_succ, aBin_eql, absV_int, absV_snil, aLen_sl, aLen_snil, Int.reduceBEq, beq_self_eq_true, Nat.reduceEqDiff, reduceCtorEq, Option.map_some, Option.map_none, if_true, if_false, kt_267, c0, s1, c1, ea, retA_ret, Tryz.results172, resultsA_1]
      exact hid_mk fin
    · have s1 : aSlice Tryz.prog 267 .z0 (some (.int .i64 0)) none none = some .z0 := by unfold aSlice; rw [hu1]; simp only [hz]; rfl
      refine SCalls.enterI (c := _) Tryz.func172 rfl (by kernel_rfl) (by simp) ?_
      simp only [wpA_skip, wpA_region, wpA_seq, wpA_cond, wpA_ret, condI_true, condI_false, seqQ_normal, seqQ_ret, endI_mk, goI_out, goI_ops, opsA_nil, opsA_cons, stepA_move, stepA_assign, stepA_binOp, stepA_slice, stepA_len, stepA_append, thenV_some, thenH_some, eval_tmp, eval_const, put_some, enterF_zero, enterF_succ, aBin_eql, absV_int, absV_snil, aLen_sl, aLen_z0, Int.reduceBEq, beq_self_eq_true, Nat.reduceEqDiff, reduceCtorEq, Option.map_some, Option.map_none, if_true, if_false, kt_267, c0, s1, c1, ea, retA_ret, Tryz.results172, resultsA_1]
      exact hid_mk fin
  · have hvi : idOf v = some i := by rcases hv with rfl | rfl <;> rfl
    have hji : j ≠ i := fun hh => hij (by rw [hvi, hh])
    have hlen := ok.2.2.1
    refine (insertK i len cap k j c cs xs ex h2 ok (by omega) (by omega) ((kk.get j hjn hji).trans hj) (by omega) hji hx hone hcone).mono fun r h' ⟨o', k', n'⟩ => ⟨o', (kk.trans' k').mono fun q hq => by subst hq; exact hvi, ?_⟩
    rcases n' with n' | n'
    · exact .inl (by rw [n', hvi]; rfl)
    · exact .inr fun q hq => by have := n' q hq; omega
end Go.Proofs.YtedkjhifbibpmaaGreatDoor.Pk
namespace Go.Proofs.YtedkjhifbibpmaaGreatDoor.Pk
open Go Go.Proofs Go.Proofs.YtedkjhifbibpmaaGreatDoor.Ab
set_option linter.unusedVariables false
set_option linter.unusedSimpArgs false

structure Chg where
  key : Int
  fr : Int
  to : Int
  val : Int
  del : Bool
  deriving DecidableEq
def chgE (c : Chg) : List V := [.int .i64 c.key, .int .i64 c.fr, .int .i64 c.to, .int .i64 c.val, .bool c.del]
theorem chgE_len (r : Chg) : (chgE r).length = 5 := rfl
theorem chgE_one (r : Chg) : (chgE r).all (·.one) = true := rfl
theorem chgE_clo (r : Chg) : CloL (chgE r) := CloL.cons (Clo.int _ _) (CloL.cons (Clo.int _ _) (CloL.cons (Clo.int _ _) (CloL.cons (Clo.int _ _) (CloL.cons (Clo.bool _) CloL.nil))))
theorem chg_neq (a b : Chg) {xo yo : Operand} : aBin Tryz.prog .neq 40 xo yo (.agg (chgE a)) (.agg (chgE b)) = some (.bool (decide (a ≠ b))) := by
  have h : eqK [0, 0, 0, 0, 1] (chgE a) (chgE b) = some (decide (a = b)) := by
    simp only [chgE, eqK, if_true, Option.map_some, Option.some.injEq]
    rw [Bool.eq_iff_iff]
    simp only [Bool.and_eq_true, beq_iff_eq, decide_eq_true_eq, Bool.and_true]
    constructor
    · rintro ⟨h1, h2, h3, h4, h5⟩; cases a; cases b; simp_all
    · rintro rfl; simp
  rw [aBin_sk_neq sk_40 h]
  simp

theorem chg_ix {l : List Chg} {k : Nat} (hk : k < l.length) {kk : IntKind} : aIndexAddr Tryz.prog 35 (.imm l.length (l.flatMap chgE)) (.int kk (k : Int)) = some (.at (chgE l[k] ++ (l.drop (k + 1)).flatMap chgE)) := rows_ix chgE_len hk ss_35
set_option maxRecDepth 10000 in
theorem pChgsEq (a b : List Chg) (h : AHeap) (ha : a.length ≤ 2 ^ 61) : Pure Tryz.prog 21 [.imm a.length (a.flatMap chgE), .imm b.length (b.flatMap chgE)] h (.bool (decide (a = b))) := by
  refine Pure.val (Clo.bool _) ?_
  refine SCalls.enterI (c := _) Tryz.func21 rfl (by kernel_rfl) (by simp) ?_
  by_cases hne : a.length = b.length
  rotate_left
  · have c1 : (((a.length : Nat) : Int) != ((b.length : Nat) : Int)) = true := by simp; omega
    have hG : decide (a = b) = false := by simp only [decide_eq_false_iff_not]; rintro rfl; exact hne rfl
    simp only [wpA_region, wpA_seq, wpA_cond, wpA_ret, condI_true, seqQ_normal, seqQ_ret, endI_mk, goI_out, goI_ops, opsA_nil, opsA_cons, stepA_move, stepA_assign, stepA_binOp, stepA_len, thenV_some, eval_tmp, eval_const, put_some, enterF_zero, enterF_succ, aBin_neq, absV_bool, aLen_imm, Nat.reduceEqDiff, reduceCtorEq, if_true, if_false, kt_35, c1, retA_ret, Tryz.results21, resultsA_1]
    exact hid_mk ⟨by rw [hG], Keep.refl _ _⟩
  have c1 : (((a.length : Nat) : Int) != ((b.length : Nat) : Int)) = false := by simp [hne]
  simp only [wpA_skip, wpA_region, wpA_seq, wpA_cond, wpA_block, wpA_loop, condI_false, seqQ_normal, goI_out, goI_ops, opsA_nil, opsA_cons, stepA_move, stepA_assign, stepA_binOp, stepA_len, thenV_some, eval_tmp, eval_const, put_some, enterF_zero, enterF_succ, aBin_neq, absV_int, absV_bool, aLen_imm, Nat.reduceEqDiff, reduceCtorEq, if_true, if_false, kt_35, c1]
  refine SWp.loopG (α := Nat) (fun i f h' => f 0 = .imm a.length (a.flatMap chgE) ∧ f 1 = .imm b.length (b.flatMap chgE) ∧ f 5 = .int .i64 (i : Nat) ∧ Keep h h' none_ ∧ i ≤ a.length ∧ a.take i = b.take i) (fun i => a.length - i) 0
    ⟨rfl, rfl, rfl, Keep.refl _ _, Nat.zero_le _, rfl⟩ ?_
  rintro i f h1 ⟨f0, f1, f5, k1, hi, hT⟩
  refine wpI_sound (by kernel_rfl) ?_
  by_cases hlt : i < a.length
  rotate_left
  · have c3 : decide ((i : Int) < ((a.length : Nat) : Int)) = false := by simp only [decide_eq_false_iff_not]; omega
    rw [List.take_of_length_le (by omega), List.take_of_length_le (by omega)] at hT
    simp only [wpA_region, wpA_seq, wpA_cond, wpA_exit, wpA_ret, condI_false, seqQ_normal, seqQ_exit, blkQ_exit, endI_mk, goE, andThen_exit, goI_out, goI_ops, opsA_nil, opsA_cons, stepA_move, stepA_assign, stepA_binOp, stepA_len, thenV_some, eval_tmp, eval_const, put_some, aBin_lss, absV_bool, aLen_imm, Nat.reduceEqDiff, reduceCtorEq, if_true, if_false, kt_35, f0, f5, c3, retA_ret, Tryz.results21, resultsA_1]
    exact hid_mk ⟨by rw [hT]; simp, k1⟩
  · have c3 : decide ((i : Int) < ((a.length : Nat) : Int)) = true := by simp only [decide_eq_true_eq]; omega
    have hltb : i < b.length := by omega
    have w1 : IntKind.i64.wrap ((i : Int) + 1) = ((i + 1 : Nat) : Int) := inc64 hlt (by omega)
    have x0 := chg_ix (kk := .i64) hlt
    have x1 := chg_ix (kk := .i64) hltb
    have lr : ∀ (x : Chg) (q : List V), loadGo (some (some 5)) (some (chgE x ++ q)) = some (.agg (chgE x)) := fun x q => load_row (chgE_len x)
    by_cases heq : a[i] = b[i]
    · have hT' : a.take (i + 1) = b.take (i + 1) := by rw [List.take_succ_eq_append_getElem hlt, List.take_succ_eq_append_getElem hltb, hT, heq]
      simp only [wpA_skip, wpA_region, wpA_seq, wpA_cond, wpA_block, wpA_draw, condI_true, seqQ_normal, goI_out, goI_ops, opsA_nil, opsA_cons, stepA_move, stepA_binOp, stepA_len, thenV_some, eval_tmp, put_some, aBin_lss, aLen_imm, Nat.reduceEqDiff, reduceCtorEq, if_true, if_false, kt_35, f0, f5, c3]
      generalize a[i] = A at *
      generalize b[i] = B at *
      subst heq
      have n1 : ∀ xo yo, aBin Tryz.prog .neq 40 xo yo (.agg (chgE A)) (.agg (chgE A)) = some (.bool false) := fun xo yo => by rw [chg_neq]; simp
      refine SWp.drawnS none_ [] (.q 0 (.q 1 (.q 2 (.q 3 (.q 4 (.q 5 (.q 6 (.q 7 (.q 8 .done))))))))) (by kernel_rfl) (by kernel_rfl) (by kernel_rfl) ?_
      simp only [siI_done, siI_q, sqI_some, mOk_none', implies_true, qI_nil, qI_cons, thenQ_some, q_move, q_load, q_binOp, q_indexAddr, wpA_skip, wpA_region, wpA_cond, condI_false, seqQ_normal, blkQ_normal, endI_mk, andThen_normal, goI_out, goI_ops, goI_mk, opsA_nil, opsA_cons, stepA_move, stepA_assign, stepA_binOp, thenV_some, eval_tmp, eval_const, put_some, aBin_add, absV_int, aLoad_eq, aPlace_at, List.getElem?_cons_zero, List.getElem?_cons_succ, Nat.reduceEqDiff, reduceCtorEq, true_and, if_true, if_false, lt_40, f0, f1, f5, x0, x1, n1, lr, w1]
      exact hid_mk ⟨i + 1, ⟨f0, f1, rfl, k1, by omega, hT'⟩, by omega⟩
    · have hG : decide (a = b) = false := by simp only [decide_eq_false_iff_not]; rintro rfl; exact heq rfl
      simp only [wpA_skip, wpA_region, wpA_seq, wpA_cond, wpA_block, wpA_draw, condI_true, seqQ_normal, goI_out, goI_ops, opsA_nil, opsA_cons, stepA_move, stepA_binOp, stepA_len, thenV_some, eval_tmp, put_some, aBin_lss, aLen_imm, Nat.reduceEqDiff, reduceCtorEq, if_true, if_false, kt_35, f0, f5, c3]
      generalize a[i] = A at *
      generalize b[i] = B at *
      have n1 : ∀ xo yo, aBin Tryz.prog .neq 40 xo yo (.agg (chgE A)) (.agg (chgE B)) = some (.bool true) := fun xo yo => by rw [chg_neq]; simp [heq]
      refine SWp.drawnS none_ [] (.q 0 (.q 1 (.q 2 (.q 3 (.q 4 (.q 5 (.q 6 (.q 7 (.q 8 .done))))))))) (by kernel_rfl) (by kernel_rfl) (by kernel_rfl) ?_
      simp only [siI_done, siI_q, sqI_some, mOk_none', implies_true, qI_nil, qI_cons, thenQ_some, q_move, q_load, q_binOp, q_indexAddr, wpA_region, wpA_seq, wpA_cond, wpA_ret, condI_true, seqQ_normal, seqQ_ret, blkQ_ret, endI_mk, goE, andThen_ret, goI_out, goI_ops, goI_mk, opsA_nil, opsA_cons, stepA_assign, eval_tmp, eval_const, put_some, absV_bool, aLoad_eq, aPlace_at, List.getElem?_cons_zero, List.getElem?_cons_succ, Nat.reduceEqDiff, reduceCtorEq, true_and, if_true, if_false, lt_40, f0, f1, f5, x0, x1, n1, lr, retA_ret, Tryz.results21, resultsA_1]
      exact hid_mk ⟨by rw [hG], k1⟩

end Go.Proofs.YtedkjhifbibpmaaGreatDoor.Pk
namespace Go.Proofs.YtedkjhifbibpmaaGreatDoor.Pk
open Go Go.Proofs Go.Proofs.YtedkjhifbibpmaaGreatDoor.Ab
set_option linter.unusedVariables false
set_option linter.unusedSimpArgs false

def prE (p : Pr) : List V := [.int .i64 p.1, .int .i64 p.2]
theorem prE_len (p : Pr) : (prE p).length = 2 := rfl
theorem prE_one (p : Pr) : (prE p).all (·.one) = true := rfl
theorem rows_set (l : List Pr) (k : Nat) (p : Pr) (hk : k < l.length) : lay (l.flatMap prE) (k * 2) (prE p) = (l.set k p).flatMap prE := by
  unfold lay
  rw [rows_take prE_len, show k * 2 + (prE p).length = (k + 1) * 2 by rw [prE_len]; omega, rows_drop prE_len, List.set_eq_take_append_cons_drop, if_pos hk]
  simp
/-- A store. -/
structure IsKv (h : AHeap) (i : Nat) (v : V) (room : Int) (l : List Pr) : Prop where
  lt : i < h.n
  get : h.get i = .cells [.int .i64 room, v] 269 none
  own : Own h 297 2 v (l.flatMap prE)
  ne : idOf v ≠ some i
  srt : Srt l
  len : (l.length : Int) ≤ room
  room : room ≤ 1024
theorem IsKv.len40 {h : AHeap} {i : Nat} {v : V} {room : Int} {l : List Pr} (k : IsKv h i v room l) : l.length ≤ 1024 := by have := k.len; have := k.room; omega
theorem IsKv.rows {h : AHeap} {i : Nat} {v : V} {room : Int} {l : List Pr} (k : IsKv h i v room l) : (l.flatMap prE).length = l.length * 2 := rows_len prE_len l
theorem IsKv.keep {h h' : AHeap} {i : Nat} {v : V} {room : Int} {l : List Pr} {own : Nat → Prop} (k : IsKv h i v room l) (hk : Keep h h' own) (h1 : ¬ own i) (h2 : ∀ j, idOf v = some j → ¬ own j) : IsKv h' i v room l :=
  ⟨Nat.lt_of_lt_of_le k.lt hk.n, (hk.get i k.lt h1).trans k.get, k.own.keep hk h2, k.ne, k.srt, k.len, k.room⟩
theorem IsKv.keepN {h h' : AHeap} {i : Nat} {v : V} {room : Int} {l : List Pr} (k : IsKv h i v room l) (hk : Keep h h' none_) : IsKv h' i v room l := k.keep hk (by simp [none_]) (by simp [none_])
theorem IsKv.alen {h h' : AHeap} {i : Nat} {v : V} {room : Int} {l : List Pr} (k : IsKv h i v room l) : aLen Tryz.prog 267 v h' = some (.int .i64 (l.length : Nat)) := by
  have := k.own.length (by decide) Tryz.prog kt_267
  rw [k.rows, Nat.mul_div_cancel _ (by decide)] at this
  rw [← this]
  rcases k.own with ⟨rfl | rfl, _⟩ | ⟨j, n, c, _, _, rfl, _⟩
  · rw [aLen_snil kt_267, aLen_snil kt_267]
  · rw [aLen_z0 kt_267, aLen_z0 kt_267]
  · rw [aLen_sl kt_267, aLen_sl kt_267]
theorem IsKv.row {h : AHeap} {i : Nat} {v : V} {room : Int} {l : List Pr} (k : IsKv h i v room l) {t : Nat} {p : Pr} (hp : l[t]? = some p) :
    ∃ j r0 r1, (∀ kk, aIndexAddr Tryz.prog 267 v (.int kk (t : Int)) = some (.ptr j (t * 2))) ∧ idOf v = some j ∧ j < h.n ∧ dropC (h.get j) (t * 2) = some (.int .i64 p.1 :: .int .i64 p.2 :: r0) ∧ dropC (h.get j) (t * 2 + 1) = some (.int .i64 p.2 :: r1) ∧
      ∀ q : Pr, ∃ ob, setC (some 2) (h.get j) (t * 2) (prE q) = some ob ∧ Own (h.set j ob) 297 2 v ((l.set t q).flatMap prE) ∧ Keep h (h.set j ob) (isId v) := by
  have ht := (List.getElem?_eq_some_iff.1 hp).1
  have hd : ((l.flatMap prE).drop (t * 2)).take 2 = prE p := by
    rw [rows_drop prE_len, show 2 = 1 * 2 from rfl, rows_take prE_len, List.drop_eq_getElem_cons ht, (List.getElem?_eq_some_iff.1 hp).2]
    simp
  obtain ⟨j, a1, a2, a3, a4, a5⟩ := own_row (P := Tryz.prog) (t := 267) (kk := .i64) ss_267 (by decide) k.own (k := t) (by rw [k.rows]; omega)
  obtain ⟨r0, h0⟩ := a4 h 0 rfl (by decide)
  obtain ⟨r1, h1⟩ := a4 h 1 rfl (by decide)
  rw [hd] at h0 h1
  refine ⟨j, r0, r1, fun kk => ?_, a2, a3, h0, h1, fun q => ?_⟩
  · obtain ⟨j2, b1, b2, _⟩ := own_row (P := Tryz.prog) (t := 267) (kk := kk) ss_267 (by decide) k.own (k := t) (by rw [k.rows]; omega)
    rw [a2] at b2
    cases b2
    exact b1
  · obtain ⟨ob, c1, c2, c3⟩ := a5 (prE q) (prE_len q) (prE_one q)
    rw [rows_set l t q ht] at c2
    exact ⟨ob, c1, c2, c3⟩
set_option maxRecDepth 10000 in
theorem pFindF (h : AHeap) (i a b t : Nat) (v : V) (room key : Int) (l : List Pr) (p : Pr) (k : IsKv h i v room l) (ha : h.get a = .cells [.ptr i 0] 194 none) (hb : h.get b = .cells [.int .i64 key] 2 none) (hp : l[t]? = some p) :
    Pure Tryz.prog 207 [.int .i64 (t : Nat), .ptr a 0, .ptr b 0] h (.bool (decide (key ≤ p.1))) := by
  refine SCalls.enterI (c := _) Tryz.func207 rfl (by kernel_rfl) (by simp) ?_
  obtain ⟨j, r0, r1, x1, _, _, x2, _⟩ := k.row hp
  have hg := k.get
  have x1 := x1 .i64
  simp only [wpA_region, wpA_seq, wpA_draw, seqQ_normal, goI_out, goI_ops, opsA_nil, opsA_cons, stepA_assign, eval_const, absV_bool]
  refine SWp.drawnS none_ [] (.q 0 (.q 1 (.q 2 (.q 3 (.q 4 (.q 5 (.q 6 (.q 7 (.q 8 (.q 9 (.q 10 .done))))))))))) (by kernel_rfl) (by kernel_rfl) (by kernel_rfl) ?_
  simp only [siI_done, siI_q, sqI_some, mOk_none', implies_true, qI_nil, qI_cons, thenQ_some, q_move, q_assign, q_load, q_nilCheck, q_binOp, q_fieldAddr, q_indexAddr, wpA_ret, seqQ_normal, endI_mk, goI_out, goI_mk, nilV_ptr, eval_tmp, put_some, enterF_zero, enterF_succ, aBin_geq, aField_eq, fieldGo_ptr, aLoad_eq, loadGo_one, aPlace_ptr, dropC_cells, List.getElem?_cons_zero, List.getElem?_cons_succ, Nat.reduceEqDiff, Nat.reduceAdd, Nat.reduceLeDiff, reduceCtorEq, Nat.add_zero, Nat.zero_add, Nat.zero_le, List.length_cons, List.length_nil, List.drop_zero, List.drop_succ_cons, true_and, if_true, if_false, ft_269_1, ft_297_0, lt_194, lt_2, lt_267, ha, hb, hg, x1, x2, retA_ret, Tryz.results207, resultsA_1]
  exact hid_mk ⟨rfl, rfl⟩
set_option maxHeartbeats 1000000 in
set_option maxRecDepth 10000 in
theorem pFind (h : AHeap) (i : Nat) (v : V) (room key : Int) (l : List Pr) (k : IsKv h i v room l) :
    Pure Tryz.prog 168 [.ptr i 0, .int .i64 key] h (.tuple [.int .i64 (pos l key : Nat), .bool (has l key)]) := by
  refine Pure.val (Clo.tuple (CloL.cons (Clo.int _ _) (CloL.cons (Clo.bool _) CloL.nil))) ?_
  refine SCalls.enterI (c := _) Tryz.func168 rfl (by kernel_rfl) (by simp) ?_
  obtain ⟨H, hH⟩ : ∃ y, y = (h.push (.cells [.ptr i 0] 194 none)).push (.cells [.int .i64 key] 2 none) := ⟨_, rfl⟩
  have g0 : H.get h.n = .cells [.ptr i 0] 194 none := by rw [hH]; exact get_push2'
  have g1 : H.get (h.n + 1) = .cells [.int .i64 key] 2 none := by rw [hH]; exact get_push2
  have kH : Keep h H none_ := by rw [hH]; exact (Keep.push _ _ _).then_push _
  have kk := k.keepN kH
  have hg := kk.get
  simp only [wpA_skip, wpA_region, wpA_seq, wpA_cond, condI_false, seqQ_normal, goI_out, goI_ops, opsA_nil, opsA_cons, stepA_assign, stepA_box, stepA_load, stepA_nilCheck, stepA_binOp, stepA_fieldAddr, thenV_some, thenH_some, nilV_ptr, eval_tmp, eval_const, put_some, enterF_zero, enterF_succ, ptr_nil_eql, absV_int, absV_bool, absV_pnil, cells_int, cells_ptr, aField_eq, fieldGo_ptr, aLoad_eq, loadGo_one, aPlace_ptr, dropC_cells, aBox_eq, push_n, get_push2', Nat.reduceEqDiff, Option.map_some, Nat.zero_add, Nat.zero_le, List.length_cons, List.length_nil, List.drop_zero, if_true, if_false, ft_269_1, kt_194, lt_194, lt_267]
  rw [← hH]
  clear hH
  have hl := kk.alen (h' := H)
  simp only [goI_ops, opsA_cons, stepA_makeFunc, stepA_len, stepA_call, thenV_some, eval_tmp, put_some, enterF_succ, loadGo_one, dropC_cells, Nat.reduceEqDiff, Nat.reduceAdd, Nat.reduceLeDiff, List.map_cons, List.map_nil, Nat.zero_add, List.length_cons, List.length_nil, List.drop_zero, List.drop_succ_cons, if_true, if_false, hg, hl]
  refine callI_pure cal206 (pSearch l.length _ _ (fun t => match l[t]? with | some p => decide (key ≤ p.1) | none => true) H (by have := k.len40; omega) cal207 (fun t ht => ?_) (pos l key) (pos_le l key) (fun t ht => ?_) (fun t h1 h2 => ?_)) ?_
  · have hp : l[t]? = some l[t] := List.getElem?_eq_getElem ht
    rw [hp]
    exact pFindF H i h.n (h.n + 1) t v room key l l[t] kk g0 g1 hp
  · cases hp : l[t]? with
    | none => have := pos_le l key; rw [List.getElem?_eq_none_iff] at hp; omega
    | some p => have := pos_lt l key t p ht hp; simp only [decide_eq_false_iff_not]; omega
  · cases hp : l[t]? with
    | none => rfl
    | some p => have := pos_ge k.srt key t p h1 hp; simp only [decide_eq_true_eq]; exact this
  have hple := pos_le l key
  rcases at_pos k.srt key with ⟨e1, p, e2, e3, e4⟩ | ⟨e1, e2, e3⟩
  · obtain ⟨j, r0, r1, x1, _, _, x2, _⟩ := kk.row e2
    have x1 := x1 .i64
    have hlt := (List.getElem?_eq_some_iff.1 e2).1
    have d1 : decide (((pos l key : Nat) : Int) < ((l.length : Nat) : Int)) = true := decide_eq_true (by omega)
    have d2 : (p.1 == key) = true := by simp [e3]
    simp only [wpA_seq, wpA_draw, seqQ_normal, goI_out, goI_ops, opsA_nil, opsA_cons, stepA_assign, eval_tmp, put_some, enterF_succ, Nat.reduceEqDiff, if_true, if_false]
    refine SWp.drawnS none_ [] (.q 0 (.q 1 (.q 2 (.q 3 (.q 4 (.q 5 (.q 6 (.q 7 (.q 8 (.q 9 (.q 10 (.q 11 (.q 12 (.q 13 (.q 14 (.q 15 (.q 16 (.q 17 (.q 18 (.q 19 (.q 20 (.q 21 .done)))))))))))))))))))))) (by kernel_rfl) (by kernel_rfl) (by kernel_rfl) ?_
    simp only [siI_done, siI_q, sqI_some, mOk_none', implies_true, qI_nil, qI_cons, qI_guard, qgI_same, thenQ_some, q_move, q_assign, q_pick, q_load, q_nilCheck, q_binOp, q_fieldAddr, q_indexAddr, q_len, wpA_ret, seqQ_normal, endI_mk, goI_out, goI_mk, slotAt_zero, slotAt_succ, pickV_true, nilV_ptr, eval_tmp, eval_const, put_some, enterF_succ, aBin_eql, aBin_lss, absV_bool, aField_eq, fieldGo_ptr, aLoad_eq, loadGo_one, aPlace_ptr, dropC_cells, List.getElem?_cons_zero, List.getElem?_cons_succ, Nat.reduceEqDiff, Nat.reduceAdd, Nat.reduceLeDiff, Nat.add_zero, Nat.zero_add, Nat.zero_le, List.length_cons, List.length_nil, List.drop_zero, List.drop_succ_cons, true_and, if_true, if_false, ft_269_1, ft_297_0, lt_194, lt_2, lt_267, g0, g1, hg, hl, d1, x1, x2, d2, retA_ret, Tryz.results168, resultsA_2]
    exact hid_mk ⟨by rw [e1], kH⟩
  · by_cases hlt : pos l key < l.length
    · have hp : l[pos l key]? = some l[pos l key] := List.getElem?_eq_getElem hlt
      obtain ⟨j, r0, r1, x1, _, _, x2, _⟩ := kk.row hp
      have x1 := x1 .i64
      have d1 : decide (((pos l key : Nat) : Int) < ((l.length : Nat) : Int)) = true := decide_eq_true (by omega)
      have d2 : (l[pos l key].1 == key) = false := by have := e3 _ hp; simp; omega
      simp only [wpA_seq, wpA_draw, seqQ_normal, goI_out, goI_ops, opsA_nil, opsA_cons, stepA_assign, eval_tmp, put_some, enterF_succ, Nat.reduceEqDiff, if_true, if_false]
      refine SWp.drawnS none_ [] (.q 0 (.q 1 (.q 2 (.q 3 (.q 4 (.q 5 (.q 6 (.q 7 (.q 8 (.q 9 (.q 10 (.q 11 (.q 12 (.q 13 (.q 14 (.q 15 (.q 16 (.q 17 (.q 18 (.q 19 (.q 20 (.q 21 .done)))))))))))))))))))))) (by kernel_rfl) (by kernel_rfl) (by kernel_rfl) ?_
      simp only [siI_done, siI_q, sqI_some, mOk_none', implies_true, qI_nil, qI_cons, qI_guard, qgI_same, thenQ_some, q_move, q_assign, q_pick, q_load, q_nilCheck, q_binOp, q_fieldAddr, q_indexAddr, q_len, wpA_ret, seqQ_normal, endI_mk, goI_out, goI_mk, slotAt_zero, slotAt_succ, pickV_true, nilV_ptr, eval_tmp, eval_const, put_some, enterF_succ, aBin_eql, aBin_lss, absV_bool, aField_eq, fieldGo_ptr, aLoad_eq, loadGo_one, aPlace_ptr, dropC_cells, List.getElem?_cons_zero, List.getElem?_cons_succ, Nat.reduceEqDiff, Nat.reduceAdd, Nat.reduceLeDiff, Nat.add_zero, Nat.zero_add, Nat.zero_le, List.length_cons, List.length_nil, List.drop_zero, List.drop_succ_cons, true_and, if_true, if_false, ft_269_1, ft_297_0, lt_194, lt_2, lt_267, g0, g1, hg, hl, d1, x1, x2, d2, retA_ret, Tryz.results168, resultsA_2]
      exact hid_mk ⟨by rw [e1], kH⟩
    · have d1 : decide (((pos l key : Nat) : Int) < ((l.length : Nat) : Int)) = false := decide_eq_false (by omega)
      simp only [wpA_seq, wpA_draw, seqQ_normal, goI_out, goI_ops, opsA_nil, opsA_cons, stepA_assign, eval_tmp, put_some, enterF_succ, Nat.reduceEqDiff, if_true, if_false]
      refine SWp.drawnS none_ [] (.q 0 (.q 1 (.q 2 (.q 3 (.q 4 (.q 5 (.q 6 (.q 7 (.q 8 (.q 9 (.q 10 (.q 11 (.q 12 (.q 13 (.q 14 (.q 15 (.q 16 (.q 17 (.q 18 (.q 19 (.q 20 (.q 21 .done)))))))))))))))))))))) (by kernel_rfl) (by kernel_rfl) (by kernel_rfl) ?_
      simp only [siI_done, siI_q, sqI_some, mOk_none', implies_true, qI_nil, qI_cons, qI_guard, qgI_ft, thenQ_some, q_move, q_assign, q_pick, q_load, q_nilCheck, q_binOp, q_fieldAddr, q_len, wpA_ret, seqQ_normal, endI_mk, goI_out, goI_mk, slotAt_zero, slotAt_succ, pickV_false, nilV_ptr, eval_tmp, eval_const, put_some, enterF_succ, aBin_lss, absV_bool, aField_eq, fieldGo_ptr, aLoad_eq, loadGo_one, aPlace_ptr, dropC_cells, List.getElem?_cons_zero, List.getElem?_cons_succ, Nat.reduceEqDiff, Nat.reduceAdd, Nat.reduceLeDiff, Nat.zero_add, Nat.zero_le, List.length_cons, List.length_nil, List.drop_zero, List.drop_succ_cons, true_and, if_true, if_false, ft_269_1, lt_194, lt_267, g0, hg, hl, d1, retA_ret, Tryz.results168, resultsA_2]
      exact hid_mk ⟨by rw [e1], kH⟩
theorem pChange (p : Pr) (h : AHeap) : Pure Tryz.prog 173 [.agg (prE p)] h (.agg (chgE ⟨p.1, 0, 0, p.2, false⟩)) := by
  refine Pure.val (Clo.agg (chgE_clo _)) ?_
  refine SCalls.enterI (c := _) Tryz.func173 rfl (by kernel_rfl) (by simp) ?_
  have hc : (V.agg (prE p)).cells = some [.int .i64 p.1, .int .i64 p.2] := rfl
  simp only [wpA_region, wpA_seq, wpA_ret, seqQ_normal, endI_mk, goI_out, goI_ops, opsA_nil, opsA_cons, stepA_alloc, stepA_box, stepA_build, stepA_load, stepA_store, stepA_fieldAddr, thenV_some, thenH_some, thenS_some, eval_tmp, put_some, put_none, enterF_zero, enterF_succ, cells_int, cells_agg, one_int, one_bool, all_nil, all_cons, aField_eq, fieldGo_ptr, aLoad_eq, loadGo_one, loadGo_row, aPlace_ptr, dropC_cells, aStore_eq, storeGo_ptr, setC_row, setAll_nil, setAll_cons, aAlloc_eq, aBox_eq, aBuild_go, aFill_nil, aFill_cons, fillGo_some, buildGo_struct, push_n, get_push2, get_push2', set_push2, List.getElem?_cons_zero, List.getElem?_cons_succ, Nat.reduceEqDiff, Nat.reduceAdd, Nat.reduceLeDiff, List.map_cons, List.map_nil, Option.map_some, Nat.add_zero, Nat.zero_add, Nat.zero_le, List.length_cons, List.length_nil, List.drop_zero, List.drop_succ_cons, List.take_succ_cons, List.take_nil, List.set_cons_zero, List.set_cons_succ, and_self, if_true, if_false, Bool.and_self, Nat.le_refl, ft_297_0, ft_297_1, lt_2, lt_40, pl_40, zc_40, zt_40, hc, retA_ret, Tryz.results173, resultsC_1, resultA_cell]
  exact hid_mk ⟨rfl, (Keep.push _ _ _).then_push _⟩
end Go.Proofs.YtedkjhifbibpmaaGreatDoor.Pk
namespace Go.Proofs.YtedkjhifbibpmaaGreatDoor.Pk
open Go Go.Proofs Go.Proofs.YtedkjhifbibpmaaGreatDoor.Ab
set_option linter.unusedVariables false
set_option linter.unusedSimpArgs false

def zC : Chg := ⟨0, 0, 0, 0, false⟩
/-- Is there no room for a key? -/
def full (room : Int) (l : List Pr) (k : Int) : Bool := !has l k && decide (room ≤ (l.length : Int))
def putL (room : Int) (l : List Pr) (k v : Int) : List Pr := if full room l k then l else put l k v
def putX (room : Int) (l : List Pr) (k v : Int) : Chg := if full room l k then zC else ⟨k, 0, 0, v, false⟩
def putE (room : Int) (l : List Pr) (k : Int) : Int := if full room l k then 3 else 0
theorem full_has {room : Int} {l : List Pr} {k : Int} (h : has l k = true) : full room l k = false := by simp [full, h]
theorem full_no {room : Int} {l : List Pr} {k : Int} (h : has l k = false) : full room l k = decide (room ≤ (l.length : Int)) := by simp [full, h]
/-- What a store's call touches. -/
def kvO (i : Nat) (v : V) : Nat → Prop := fun q => q = i ∨ isId v q
theorem lit1p (h : AHeap) (p : Pr) : aBuildSlice Tryz.prog 267 1 [(0, .agg (prE p))] h = some (.sl h.n 0 1 1, h.push (.cells (prE p) 297 none)) := slice1 sl_267 rfl rfl (by decide)
set_option maxHeartbeats 2000000 in
set_option maxRecDepth 10000 in
theorem kvPut (h : AHeap) (i : Nat) (v : V) (room key val : Int) (l : List Pr) (k : IsKv h i v room l) :
    SCalls Tryz.prog 119 [.ptr i 0, .int .i64 key, .int .i64 val] h (fun r h' => ∃ v', r = .tuple [.agg (chgE (putX room l key val)), .int .i64 (putE room l key)] ∧ IsKv h' i v' room (putL room l key val) ∧ Keep h h' (kvO i v) ∧ NewOr h v v') := by
  refine SCalls.enterI (c := _) Tryz.func119 rfl (by kernel_rfl) (by simp) ?_
  obtain ⟨H, hH⟩ : ∃ y, y = (h.push (.cells [.int .i64 0, .int .i64 0, .int .i64 0, .int .i64 0, .bool false] 40 none)).push (.cells [.int .i64 key, .int .i64 val] 297 none) := ⟨_, rfl⟩
  have g0 : H.get h.n = .cells [.int .i64 0, .int .i64 0, .int .i64 0, .int .i64 0, .bool false] 40 none := by rw [hH]; exact get_push2'
  have g1 : H.get (h.n + 1) = .cells [.int .i64 key, .int .i64 val] 297 none := by rw [hH]; exact get_push2
  have kH : Keep h H none_ := by rw [hH]; exact (Keep.push _ _ _).then_push _
  have nH : H.n = h.n + 2 := by rw [hH]; rfl
  have kk := k.keepN kH
  have hg := kk.get
  have hin := k.lt
  simp only [wpA_region, wpA_seq, seqQ_normal, goI_out, goI_ops, opsA_nil, opsA_cons, stepA_move, stepA_assign, stepA_alloc, stepA_build, stepA_store, stepA_call, thenV_some, thenH_some, thenS_some, eval_tmp, eval_const, put_some, put_none, enterF_zero, enterF_succ, absV_int, cells_int, cells_agg, one_int, all_nil, all_cons, aStore_eq, storeGo_ptr, setC_row, setAll_nil, setAll_cons, aAlloc_eq, aBuild_go, aFill_nil, aFill_cons, fillGo_some, buildGo_struct, push_n, get_push2, set_push2, List.getElem?_cons_zero, List.getElem?_cons_succ, Nat.reduceEqDiff, Nat.reduceAdd, Nat.reduceLeDiff, reduceCtorEq, List.map_cons, List.map_nil, Option.map_some, Nat.zero_add, List.length_cons, List.length_nil, List.set_cons_zero, List.set_cons_succ, and_self, if_true, if_false, Bool.and_self, Nat.le_refl, pl_297, zc_297, zc_40, zt_297]
  rw [← hH]
  clear hH
  refine callI_pure cal168 (pFind H i v room key l kk) ?_
  have hl := kk.alen (h' := H)
  rcases at_pos k.srt key with ⟨e1, p, e2, e3, e4⟩ | ⟨e1, e2, e3⟩
  · have hf := full_has (room := room) e1
    have c1 : putX room l key val = ⟨key, 0, 0, val, false⟩ := by simp [putX, hf]
    have c2 : putE room l key = 0 := by simp [putE, hf]
    have c3 : putL room l key val = l.set (pos l key) (key, val) := by rw [putL, hf]; exact put_has k.srt key val e1
    rw [c1, c2, c3]
    obtain ⟨j, r0, r1, x1, x2, x3, _, _, x4⟩ := kk.row e2
    have x1 := x1 .i64
    obtain ⟨ob, y1, y2, y3⟩ := x4 (key, val)
    unfold prE at y1
    have hij : j ≠ i := fun hh => kk.ne (by rw [x2, hh])
    have hjh : j < h.n := k.own.lt j x2
    have z0 : (H.set j ob).get h.n = _ := (get_set_ne (by omega)).trans g0
    have z1 : (H.set j ob).get (h.n + 1) = _ := (get_set_ne (by omega)).trans g1
    simp only [wpA_region, wpA_seq, wpA_cond, wpA_block, wpA_draw, condI_true, seqQ_normal, goI_out, goI_ops, opsA_nil, opsA_cons, stepA_move, stepA_assign, stepA_extract, thenV_some, extV_zero, extV_succ, eval_tmp, put_some, put_none, enterF_succ, Nat.reduceEqDiff, if_true, if_false, e1]
    refine SWp.drawnS none_ [7] (.q 0 (.q 1 (.q 2 (.q 3 (.q 4 (.q 5 (.q 6 (.a 7 .done)))))))) (by kernel_rfl) (by kernel_rfl) (by kernel_rfl) ?_
    simp only [siI_done, siI_q, siI_a, sqI_some, saI_some, mOk_none', implies_true, qI_nil, qI_cons, thenQ_some, q_move, q_load, q_nilCheck, q_fieldAddr, q_indexAddr, wpA_region, wpA_seq, seqQ_normal, blkQ_normal, goI_out, goI_ops, goI_mk, opsA_nil, opsA_cons, stepA_load, stepA_store, stepA_call, thenV_some, thenS_some, nilV_ptr, eval_tmp, put_some, put_none, enterF_zero, enterF_succ, cells_agg, aField_eq, fieldGo_ptr, aLoad_eq, loadGo_one, loadGo_row, aPlace_ptr, dropC_cells, aStore_eq, storeGo_ptr, List.getElem?_cons_zero, List.getElem?_cons_succ, Nat.reduceEqDiff, Nat.reduceAdd, Nat.reduceLeDiff, reduceCtorEq, List.map_cons, List.map_nil, Option.map_some, Nat.zero_add, Nat.zero_le, List.length_cons, List.length_nil, List.drop_zero, List.drop_succ_cons, List.take_succ_cons, List.take_nil, true_and, if_true, if_false, Nat.le_refl, ft_269_1, lt_267, lt_297, zt_297, g1, hg, x1, y1, z1]
    refine callI_pure cal173 (pChange (key, val) _) ?_
    have hcc : (V.agg (chgE ⟨key, 0, 0, val, false⟩)).cells = some [.int .i64 key, .int .i64 0, .int .i64 0, .int .i64 val, .bool false] := rfl
    simp only [wpA_ret, seqQ_normal, endI_mk, goI_out, goI_ops, opsA_nil, opsA_cons, stepA_assign, stepA_store, thenS_some, eval_tmp, eval_const, put_some, put_none, enterF_succ, absV_int, one_int, one_bool, all_nil, all_cons, aLoad_eq, loadGo_row, aPlace_ptr, dropC_cells, aStore_eq, storeGo_ptr, setC_row, setAll_nil, setAll_cons, get_set_same, Nat.reduceEqDiff, Nat.reduceAdd, Option.map_some, Nat.zero_add, Nat.zero_le, List.length_cons, List.length_nil, List.drop_zero, List.take_succ_cons, List.take_nil, List.set_cons_zero, List.set_cons_succ, if_true, if_false, Bool.and_self, Nat.le_refl, lt_40, zt_40, z0, hcc, retA_ret, Tryz.results119, resultsC_2, resultA_tmp, resultA_cell, res2_some]
    have kx : Keep (H.set j ob) ((H.set j ob).set h.n (.cells [.int .i64 key, .int .i64 0, .int .i64 0, .int .i64 val, .bool false] 40 none)) (fun q => q = h.n) := Keep.set _ _ _
    have kw : Keep H (H.set j ob) (fun q => q = j) := Keep.set _ _ _
    refine hid_mk ⟨v, rfl, ⟨by rw [set_n, set_n]; exact kk.lt, ?_, y2.keep kx fun q hq => by rw [x2] at hq; cases hq; omega, k.ne, ?_, by rw [List.length_set]; exact k.len, k.room⟩, ?_, .inl rfl⟩
    · rw [get_set_ne (by omega), get_set_ne (by omega)]; exact hg
    · rw [← put_has k.srt key val e1]; exact srt_put k.srt _ _
    · refine ((kH.up (o := kvO i v)).trans kw fun q hq hh => .inr ?_).trans kx fun q hq hh => by omega
      subst hh; exact x2
  · have hf := full_no (room := room) e1
    by_cases hfull : room ≤ (l.length : Int)
    · have hf : full room l key = true := by rw [hf]; exact decide_eq_true hfull
      have c1 : putX room l key val = zC := by simp [putX, hf]
      have c2 : putE room l key = 3 := by simp [putE, hf]
      have c3 : putL room l key val = l := by simp [putL, hf]
      rw [c1, c2, c3]
      have d1 : decide (room ≤ ((l.length : Nat) : Int)) = true := decide_eq_true hfull
      simp only [wpA_region, wpA_seq, wpA_cond, wpA_block, wpA_draw, condI_false, seqQ_normal, goI_out, goI_ops, opsA_nil, opsA_cons, stepA_move, stepA_assign, stepA_extract, thenV_some, extV_zero, extV_succ, eval_tmp, put_some, put_none, enterF_succ, Nat.reduceEqDiff, if_true, if_false, e1]
      refine SWp.drawnS none_ [] (.q 0 (.q 1 (.q 2 (.q 3 (.q 4 (.q 5 (.q 6 (.q 7 (.q 8 (.q 9 (.q 10 (.q 11 (.q 12 (.q 13 (.q 14 .done))))))))))))))) (by kernel_rfl) (by kernel_rfl) (by kernel_rfl) ?_
      simp only [siI_done, siI_q, sqI_some, mOk_none', implies_true, qI_nil, qI_cons, qI_guard, qgI_same, thenQ_some, q_move, q_assign, q_pick, q_load, q_nilCheck, q_binOp, q_fieldAddr, q_len, wpA_region, wpA_seq, wpA_cond, wpA_ret, condI_true, seqQ_normal, seqQ_ret, blkQ_ret, endI_mk, goI_out, goI_ops, goI_mk, opsA_nil, opsA_cons, slotAt_zero, slotAt_succ, stepA_assign, stepA_build, stepA_store, thenV_some, thenS_some, pickV_false, nilV_ptr, eval_tmp, eval_const, put_some, put_none, enterF_zero, enterF_succ, aBin_geq, ptr_nil_eql, absV_int, absV_bool, absV_pnil, cells_agg, one_int, one_bool, all_nil, all_cons, aField_eq, fieldGo_ptr, aLoad_eq, loadGo_one, loadGo_row, aPlace_ptr, dropC_cells, aStore_eq, storeGo_ptr, setC_row, setAll_nil, setAll_cons, aBuild_go, aFill_nil, buildGo_struct, get_set_same, List.getElem?_cons_zero, List.getElem?_cons_succ, Nat.reduceEqDiff, Nat.reduceAdd, Nat.reduceLeDiff, reduceCtorEq, List.map_nil, Option.map_some, Nat.add_zero, Nat.zero_add, Nat.zero_le, List.length_cons, List.length_nil, List.drop_zero, List.drop_succ_cons, List.take_succ_cons, List.take_nil, List.set_cons_zero, List.set_cons_succ, true_and, if_true, if_false, Bool.and_self, Nat.le_refl, ft_269_0, ft_269_1, kt_194, lt_267, lt_3, lt_40, pl_40, zc_40, zt_40, g0, hg, hl, d1, retA_ret, Tryz.results119, resultsC_2, resultA_tmp, resultA_cell, res2_some]
      have kx : Keep H (H.set h.n (.cells [.int .i64 0, .int .i64 0, .int .i64 0, .int .i64 0, .bool false] 40 none)) (fun q => q = h.n) := Keep.set _ _ _
      refine hid_mk ⟨v, rfl, kk.keep kx (by omega) fun q hq => by have := k.own.lt q hq; omega, ?_, .inl rfl⟩
      exact (kH.up (o := kvO i v)).trans kx fun q hq hh => by omega
    · have hf : full room l key = false := by rw [hf]; exact decide_eq_false hfull
      have c1 : putX room l key val = ⟨key, 0, 0, val, false⟩ := by simp [putX, hf]
      have c2 : putE room l key = 0 := by simp [putE, hf]
      have c3 : putL room l key val = put l key val := by simp [putL, hf]
      rw [c1, c2, c3]
      have d1 : decide (room ≤ ((l.length : Nat) : Int)) = false := decide_eq_false hfull
      simp only [wpA_region, wpA_seq, wpA_cond, wpA_block, wpA_draw, condI_false, seqQ_normal, goI_out, goI_ops, opsA_nil, opsA_cons, stepA_move, stepA_assign, stepA_extract, thenV_some, extV_zero, extV_succ, eval_tmp, put_some, put_none, enterF_succ, Nat.reduceEqDiff, if_true, if_false, e1]
      refine SWp.drawnS none_ [] (.q 0 (.q 1 (.q 2 (.q 3 (.q 4 (.q 5 (.q 6 (.q 7 (.q 8 (.q 9 (.q 10 (.q 11 (.q 12 (.q 13 (.q 14 .done))))))))))))))) (by kernel_rfl) (by kernel_rfl) (by kernel_rfl) ?_
      simp only [siI_done, siI_q, sqI_some, mOk_none', implies_true, qI_nil, qI_cons, qI_guard, qgI_same, thenQ_some, q_move, q_assign, q_pick, q_load, q_nilCheck, q_binOp, q_fieldAddr, q_len, wpA_cond, wpA_draw, condI_false, seqQ_normal, goI_out, goI_mk, slotAt_zero, slotAt_succ, pickV_false, nilV_ptr, eval_tmp, eval_const, put_some, put_none, enterF_zero, enterF_succ, aBin_geq, ptr_nil_eql, absV_bool, absV_pnil, aField_eq, fieldGo_ptr, aLoad_eq, loadGo_one, aPlace_ptr, dropC_cells, List.getElem?_cons_zero, List.getElem?_cons_succ, Nat.reduceEqDiff, Nat.reduceAdd, Nat.reduceLeDiff, reduceCtorEq, Nat.add_zero, Nat.zero_add, Nat.zero_le, List.length_cons, List.length_nil, List.drop_zero, List.drop_succ_cons, true_and, if_true, if_false, ft_269_0, ft_269_1, kt_194, lt_267, lt_3, hg, hl, d1]
      have f1 : isId v i = False := eq_false fun hh => k.ne hh
      have f2 : isId v (h.n + 1) = False := eq_false fun hh => by have := k.own.lt _ hh; omega
      obtain ⟨H2, hH2⟩ : ∃ y, y = H.push (.cells (prE (key, val)) 297 none) := ⟨_, rfl⟩
      have k2 : Keep H H2 none_ := by rw [hH2]; exact Keep.push _ _ _
      have n2 : H2.n = H.n + 1 := by rw [hH2]; rfl
      have q2 : H2.get H.n = .cells (prE (key, val)) 297 none := by rw [hH2]; exact get_push_new
      have kk2 := kk.keepN k2
      have hlit := lit1p H (key, val)
      rw [← hH2] at hlit
      unfold prE at hlit
      refine SWp.drawnS (fun x => isId v x) [7, 8, 11] (.q 0 (.q 1 (.q 2 (.q 3 (.q 4 (.q 5 (.q 6 (.e 7 (.e 8 (.q 9 (.q 10 (.a 11 .done))) .stop) .stop)))))))) (by kernel_rfl) (by kernel_rfl) (by kernel_rfl) ?_
      simp only [mOk_move, mOk_nilCheck, mOk_fieldAddr, mOk_load, mOkV_ptr, nne2, nne3, nne4, nne1', nne2', nne3', not_false_eq_true, siI_stop, siI_q, siI_e, sqI_some, seI_some, implies_true, qI_nil, qI_cons, thenQ_some, q_move, q_load, q_nilCheck, q_fieldAddr, goI_ops, goI_mk, opsA_nil, opsA_cons, stepA_buildSlice, stepA_call, thenH_some, nilV_ptr, eval_tmp, put_some, put_none, enterF_zero, enterF_succ, aField_eq, fieldGo_ptr, aLoad_eq, loadGo_one, loadGo_row, aPlace_ptr, dropC_cells, List.getElem?_cons_zero, List.getElem?_cons_succ, Nat.reduceEqDiff, Nat.reduceAdd, Nat.reduceLeDiff, reduceCtorEq, List.map_cons, List.map_nil, Nat.zero_add, Nat.zero_le, List.length_cons, List.length_nil, List.drop_zero, List.drop_succ_cons, List.take_succ_cons, List.take_nil, and_true, true_and, if_true, if_false, Nat.le_refl, ft_269_1, lt_267, lt_297, g1, hg, f1, f2, hlit]
      refine ⟨k2.up, ?_⟩
      refine callI_of cal172 (insertC v (pos l key) H.n (l.flatMap prE) (prE (key, val)) H2 kk2.own (by rw [k.rows]; have := k.len40; omega) (by rw [k.rows]; have := pos_le l key; omega) q2 (by omega) (fun hh => by have := k.own.lt _ hh; omega) rfl rfl (rows_one prE_one l)) fun r h3 ⟨o3, k3, d3⟩ => ?_
      have hrow : (l.flatMap prE).take (pos l key * 2) ++ prE (key, val) ++ (l.flatMap prE).drop (pos l key * 2) = (put l key val).flatMap prE := by
        rw [rows_take prE_len, rows_drop prE_len, put_new k.srt key val e1]; simp
      rw [hrow] at o3
      have gi3 := (k3.get i (by omega) (by rw [f1]; exact id)).trans kk2.get
      have g03 := (k3.get h.n (by omega) (fun hh => by have := k.own.lt _ hh; omega)).trans ((k2.get h.n (by omega) (by simp [none_])).trans g0)
      have g13 := (k3.get (h.n + 1) (by omega) (by rw [f2]; exact id)).trans ((k2.get (h.n + 1) (by omega) (by simp [none_])).trans g1)
      have one_r : r.one = true := by
        rcases o3 with ⟨rfl | rfl, _⟩ | ⟨_, _, _, _, _, rfl, _⟩ <;> rfl
      have cell_r : r.cells = some [r] := by
        rcases o3 with ⟨rfl | rfl, _⟩ | ⟨_, _, _, _, _, rfl, _⟩ <;> rfl
      have hset : setC (some 1) (AObj.cells [V.int .i64 room, v] 269 none) 1 [r] = some (.cells [.int .i64 room, r] 269 none) := by rw [setC_one one_r]; rfl
      have kH3 : Keep H h3 (fun x => isId v x) := (k2.up).trans' k3
      have n3 := k3.n
      simp only [mOk_nilCheck, mOk_fieldAddr, nne2, nne3, nne4, nne1', nne2', nne3', siI_done, siI_q, siI_a, sqI_some, saI_some, implies_true, qI_nil, qI_cons, thenQ_some, q_nilCheck, q_fieldAddr, wpA_region, wpA_seq, seqQ_normal, blkQ_normal, goI_out, goI_ops, goI_mk, opsA_nil, opsA_cons, stepA_load, stepA_store, thenS_some, nilV_ptr, eval_tmp, put_some, put_none, enterF_succ, aField_eq, fieldGo_ptr, aLoad_eq, aPlace_ptr, aStore_eq, storeGo_ptr, List.getElem?_cons_zero, List.getElem?_cons_succ, Bool.false_eq_true, Nat.reduceEqDiff, Option.map_some, Nat.zero_add, true_and, if_true, if_false, ft_269_1, lt_297, zt_267, gi3, cell_r, hset, kH3]
      obtain ⟨H4, hH4⟩ : ∃ y, y = h3.set i (.cells [V.int .i64 room, r] 269 none) := ⟨_, rfl⟩
      have k4 : Keep h3 H4 (fun q => q = i) := by rw [hH4]; exact Keep.set _ _ _
      have z0 : H4.get h.n = _ := (k4.get h.n (by omega) (by omega)).trans g03
      have z1 : H4.get (h.n + 1) = _ := (k4.get (h.n + 1) (by omega) (by omega)).trans g13
      have zi : H4.get i = .cells [.int .i64 room, r] 269 none := by rw [hH4]; exact get_set_same
      have n4 : H4.n = h3.n := by rw [hH4]; rfl
      have hri : idOf r ≠ some i := fun hh => by
        rcases d3 with d3 | d3
        · rw [d3] at hh; exact k.ne hh
        · have := d3 i hh; omega
      have o4 : Own H4 297 2 r ((put l key val).flatMap prE) := o3.keep k4 fun q hq hh => hri (by rw [hq, hh])
      rw [← hH4]
      clear hH4
      simp only [goI_ops, opsA_cons, stepA_call, thenV_some, eval_tmp, put_some, put_none, enterF_succ, loadGo_row, dropC_cells, Nat.reduceEqDiff, Nat.reduceAdd, List.map_cons, List.map_nil, Nat.zero_add, Nat.zero_le, List.length_cons, List.length_nil, List.drop_zero, List.take_succ_cons, List.take_nil, if_true, if_false, Nat.le_refl, z1]
      refine callI_pure cal173 (pChange (key, val) _) ?_
      have hcc : (V.agg (chgE ⟨key, 0, 0, val, false⟩)).cells = some [.int .i64 key, .int .i64 0, .int .i64 0, .int .i64 val, .bool false] := rfl
      simp only [wpA_ret, seqQ_normal, endI_mk, goI_out, goI_ops, opsA_nil, opsA_cons, stepA_assign, stepA_store, thenS_some, eval_tmp, eval_const, put_some, put_none, enterF_succ, absV_int, one_int, one_bool, all_nil, all_cons, aLoad_eq, loadGo_row, aPlace_ptr, dropC_cells, aStore_eq, storeGo_ptr, setC_row, setAll_nil, setAll_cons, get_set_same, Nat.reduceEqDiff, Nat.reduceAdd, Option.map_some, Nat.zero_add, Nat.zero_le, List.length_cons, List.length_nil, List.drop_zero, List.take_succ_cons, List.take_nil, List.set_cons_zero, List.set_cons_succ, if_true, if_false, Bool.and_self, Nat.le_refl, lt_40, zt_40, z0, hcc, retA_ret, Tryz.results119, resultsC_2, resultA_tmp, resultA_cell, res2_some]
      have kx : Keep H4 (H4.set h.n (.cells [.int .i64 key, .int .i64 0, .int .i64 0, .int .i64 val, .bool false] 40 none)) (fun q => q = h.n) := Keep.set _ _ _
      have hrn : ∀ q, idOf r = some q → q ≠ h.n := fun q hq hh => by
        rcases d3 with d3 | d3
        · rw [d3] at hq; have := k.own.lt q hq; omega
        · have := d3 q hq; omega
      refine hid_mk ⟨r, rfl, ⟨by rw [set_n]; omega, ?_, o4.keep kx fun q hq => hrn q hq, hri, srt_put k.srt _ _, ?_, k.room⟩, ?_, ?_⟩
      · rw [get_set_ne (by omega)]; exact zi
      · rw [len_put k.srt, if_neg (by rw [e1]; simp)]; omega
      · refine (((kH.up (o := kvO i v)).trans kH3 fun q hq hh => .inr hh).trans k4 fun q hq hh => .inl hh).trans kx fun q hq hh => by omega
      · rcases d3 with d3 | d3
        · exact .inl d3
        · exact .inr fun q hq => by have := d3 q hq; omega
end Go.Proofs.YtedkjhifbibpmaaGreatDoor.Pk
namespace Go.Proofs.YtedkjhifbibpmaaGreatDoor.Pk
open Go Go.Proofs Go.Proofs.YtedkjhifbibpmaaGreatDoor.Ab
set_option linter.unusedVariables false
set_option linter.unusedSimpArgs false

theorem kvGet (h : AHeap) (i : Nat) (v : V) (room key : Int) (l : List Pr) (k : IsKv h i v room l) :
    Pure Tryz.prog 116 [.ptr i 0, .int .i64 key] h (.tuple [.int .i64 ((look l key).getD 0), .bool (has l key)]) := by
  refine SCalls.enterI (c := _) Tryz.func116 rfl (by kernel_rfl) (by simp) ?_
  have hg := k.get
  simp only [wpA_region, wpA_seq, seqQ_normal, goI_out, goI_ops, opsA_nil, opsA_cons, stepA_move, stepA_assign, stepA_call, eval_tmp, eval_const, put_some, enterF_zero, enterF_succ, absV_int, absV_bool, Nat.reduceEqDiff, reduceCtorEq, List.map_cons, List.map_nil, if_true, if_false]
  refine callI_pure cal168 (pFind h i v room key l k) ?_
  rcases at_pos k.srt key with ⟨e1, p, e2, e3, e4⟩ | ⟨e1, e2, e3⟩
  · obtain ⟨j, r0, r1, x1, _, _, _, x2, _⟩ := k.row e2
    have x1 := x1 .i64
    simp only [wpA_skip, wpA_region, wpA_seq, wpA_cond, wpA_ret, condI_false, seqQ_normal, endI_mk, goI_out, goI_ops, opsA_nil, opsA_cons, stepA_move, stepA_assign, stepA_load, stepA_nilCheck, stepA_unOp, stepA_fieldAddr, stepA_indexAddr, stepA_extract, thenV_some, nilV_ptr, extV_zero, extV_succ, eval_tmp, eval_const, put_some, enterF_zero, enterF_succ, aUn_not, absV_bool, aField_eq, fieldGo_ptr, aLoad_eq, loadGo_one, aPlace_ptr, dropC_cells, Nat.reduceEqDiff, Nat.reduceAdd, Nat.reduceLeDiff, reduceCtorEq, Nat.zero_add, List.length_cons, List.length_nil, List.drop_zero, List.drop_succ_cons, if_true, if_false, Bool.not_true, ft_269_1, ft_297_1, lt_2, lt_267, e1, hg, x1, x2, retA_ret, Tryz.results116, resultsA_2]
    exact hid_mk ⟨by rw [e4, e1]; rfl, rfl⟩
  · simp only [wpA_region, wpA_seq, wpA_cond, wpA_ret, condI_true, seqQ_normal, seqQ_ret, endI_mk, goI_out, goI_ops, opsA_nil, opsA_cons, stepA_move, stepA_assign, stepA_unOp, stepA_extract, thenV_some, extV_zero, extV_succ, eval_tmp, eval_const, put_some, enterF_succ, aUn_not, absV_int, absV_bool, Nat.reduceEqDiff, if_true, if_false, Bool.not_false, e1, retA_ret, Tryz.results116, resultsA_2]
    exact hid_mk ⟨by rw [e2, e1]; rfl, rfl⟩
def chgOf (p : Pr) : Chg := ⟨p.1, 0, 0, p.2, false⟩
def listC (l : List Pr) : List Chg := l.map chgOf
theorem lit1c (h : AHeap) (c : Chg) : aBuildSlice Tryz.prog 35 1 [(0, .agg (chgE c))] h = some (.sl h.n 0 1 1, h.push (.cells (chgE c) 40 none)) := slice1 sl_35 rfl rfl (by decide)
set_option maxHeartbeats 1000000 in
set_option maxRecDepth 10000 in
theorem kvList (h : AHeap) (i : Nat) (v : V) (room : Int) (l : List Pr) (k : IsKv h i v room l) : Pure Tryz.prog 297 [.ptr i 0] h (.imm (listC l).length ((listC l).flatMap chgE)) := by
  refine Pure.acc (rows_clo chgE_clo _) (rows_len chgE_len _) (by decide) (e := 40) (sz := 5) ?_
  refine SCalls.enterI (c := _) Tryz.func297 rfl (by kernel_rfl) (by simp) ?_
  have hg := k.get
  have hl := k.alen (h' := h)
  have l40 := k.len40
  simp only [wpA_skip, wpA_region, wpA_seq, wpA_cond, wpA_block, wpA_loop, condI_false, seqQ_normal, goI_out, goI_ops, opsA_nil, opsA_cons, stepA_move, stepA_assign, stepA_load, stepA_nilCheck, stepA_binOp, stepA_fieldAddr, stepA_len, thenV_some, nilV_ptr, eval_tmp, eval_const, put_some, enterF_zero, enterF_succ, ptr_nil_eql, absV_int, absV_pnil, absV_snil, aField_eq, fieldGo_ptr, aLoad_eq, loadGo_one, aPlace_ptr, dropC_cells, Nat.reduceEqDiff, Nat.reduceAdd, Nat.reduceLeDiff, reduceCtorEq, Nat.zero_add, List.length_cons, List.length_nil, List.drop_zero, List.drop_succ_cons, if_true, if_false, ft_269_1, kt_194, lt_267, hg, hl]
  refine SWp.loopG (α := Nat × V) (fun x f h' => f 3 = x.2 ∧ f 11 = v ∧ f 12 = .int .i64 (l.length : Nat) ∧ f 13 = .int .i64 (x.1 : Nat) ∧ x.1 ≤ l.length ∧ Acc h h' 40 5 x.2 ((listC (l.take x.1)).flatMap chgE)) (fun x => l.length - x.1) (0, .snil)
    ⟨rfl, rfl, rfl, rfl, Nat.zero_le _, Acc.nil (Keep.refl _ _)⟩ ?_
  rintro ⟨t, s⟩ f h1 ⟨f3, f11, f12, f13, ht, acc⟩
  simp only at f3 f13 ht acc
  refine wpI_sound (by kernel_rfl) ?_
  by_cases hlt : t < l.length
  · have d1 : decide ((t : Int) < ((l.length : Nat) : Int)) = true := decide_eq_true (by omega)
    have hw := inc64 hlt (by omega)
    have k1 := k.keepN acc.keep
    obtain ⟨j, r0, r1, x1, x3, x4, x2, _, _⟩ := k1.row (List.getElem?_eq_getElem hlt)
    have x1 := x1 .i64
    have lr : ∀ (a b : Int) (q : List V), loadGo (some (some 2)) (some (V.int .i64 a :: V.int .i64 b :: q)) = some (.agg (prE (a, b))) := fun a b q => rfl
    have cr : ∀ p : Pr, (V.agg (prE p)).cells = some (prE p) := fun _ => rfl
    have ld : ∀ p : Pr, (if 2 ≤ (prE p).length then some (V.agg (List.take 2 (prE p))) else none) = some (.agg (prE p)) := fun _ => rfl
    have st : ∀ p : Pr, setC (some 2) (AObj.cells [V.int .i64 0, V.int .i64 0] 297 none) 0 (prE p) = some (.cells (prE p) 297 none) := fun _ => rfl
    have acc2 := acc.on (Keep.push h1 (.cells (prE (l[t].1, l[t].2)) 297 none) none_)
    obtain ⟨s', h2, ea, a2⟩ := acc2.elemM sl_35 (by decide) (xs := chgE (chgOf l[t])) rfl rfl (fun m hm => by
      change m * 5 = _ + 5 at hm
      rw [rows_len chgE_len] at hm
      simp only [listC, List.length_map, List.length_take] at hm
      exact ⟨by simp only [lim]; omega, by simp only [lim]; omega⟩)
    simp only [wpA_skip, wpA_region, wpA_seq, wpA_cond, wpA_block, condI_true, seqQ_normal, goI_out, goI_ops, opsA_nil, opsA_cons, stepA_move, stepA_alloc, stepA_load, stepA_store, stepA_binOp, stepA_indexAddr, stepA_call, thenV_some, thenH_some, thenS_some, eval_tmp, put_some, put_none, aBin_lss, aLoad_eq, loadGo_row, aPlace_ptr, dropC_cells, aStore_eq, storeGo_ptr, aAlloc_eq, get_push_new, set_push, Nat.reduceEqDiff, List.map_cons, List.map_nil, Option.map_some, Nat.zero_le, List.drop_zero, if_true, if_false, lt_297, zc_297, zt_297, f3, f11, f12, f13, d1, x1, x2, lr, cr, st, ld]
    refine callI_pure cal173 (pChange (l[t].1, l[t].2) _) ?_
    have hlit := lit1c (h1.push (.cells (prE (l[t].1, l[t].2)) 297 none)) (chgOf l[t])
    unfold chgOf at hlit ea
    rw [push_n] at ea
    simp only [wpA_region, seqQ_normal, blkQ_normal, endI_mk, andThen_normal, goI_out, goI_ops, opsA_nil, opsA_cons, stepA_move, stepA_assign, stepA_buildSlice, stepA_binOp, stepA_append, thenV_some, thenH_some, eval_tmp, eval_const, put_some, put_none, aBin_add, absV_int, push_n, Nat.reduceEqDiff, List.map_cons, List.map_nil, if_true, if_false, f13, hlit, ea, hw]
    refine hid_mk ⟨(t + 1, s'), ⟨rfl, f11, f12, rfl, hlt, a2.conv ?_⟩, by simp only; omega⟩
    rw [List.take_succ_eq_append_getElem hlt, listC, listC, List.map_append, List.flatMap_append]
    simp
  · have d1 : decide ((t : Int) < ((l.length : Nat) : Int)) = false := decide_eq_false (by omega)
    rw [List.take_of_length_le (by omega)] at acc
    simp only [wpA_region, wpA_seq, wpA_cond, wpA_exit, wpA_ret, condI_false, seqQ_normal, seqQ_exit, blkQ_exit, endI_mk, goE, andThen_exit, goI_out, goI_ops, opsA_nil, opsA_cons, stepA_move, stepA_assign, stepA_binOp, thenV_some, eval_tmp, put_some, aBin_lss, Nat.reduceEqDiff, if_true, if_false, f3, f12, f13, d1, retA_ret, Tryz.results297, resultsA_1]
    exact hid_mk acc
end Go.Proofs.YtedkjhifbibpmaaGreatDoor.Pk
namespace Go.Proofs.YtedkjhifbibpmaaGreatDoor.Pk
open Go Go.Proofs Go.Proofs.YtedkjhifbibpmaaGreatDoor.Ab
set_option linter.unusedVariables false
set_option linter.unusedSimpArgs false

theorem NewOr.later {h H : AHeap} {v v' : V} (d : NewOr H v v') (hn : h.n ≤ H.n) : NewOr h v v' := by
  rcases d with d | d
  · exact .inl d
  · exact .inr fun q hq => Nat.le_trans hn (d q hq)
/-! ### New -/
theorem kvNew (h : AHeap) (room : Int) (h1 : 1 ≤ room) (h2 : room ≤ 1024) : SCalls Tryz.prog 106 [.int .i64 room] h (fun r h' => r = .tuple [.ptr h.n 0, .int .i64 0] ∧ IsKv h' h.n .snil room [] ∧ Keep h h' none_) := by
  refine SCalls.enterI (c := _) Tryz.func106 rfl (by kernel_rfl) (by simp) ?_
  have d1 : decide (room < 1) = false := decide_eq_false (by omega)
  have d2 : decide (1024 < room) = false := decide_eq_false (by omega)
  simp only [wpA_skip, wpA_region, wpA_seq, wpA_cond, wpA_ret, condI_false, seqQ_normal, endI_mk, goI_out, goI_ops, opsA_nil, opsA_cons, opsA_guardS, gvI_same, slotAt_zero, slotAt_succ, stepA_move, stepA_assign, stepA_pick, stepA_box, stepA_build, stepA_binOp, thenV_some, thenH_some, pickV_false, eval_tmp, eval_const, put_some, enterF_zero, enterF_succ, aBin_lss, aBin_gtr, absV_int, absV_bool, absV_pnil, cells_int, cells_agg, setAll_nil, setAll_cons, aBox_eq, aBuild_go, aFill_nil, aFill_cons, fillGo_some, buildGo_struct, List.getElem?_cons_zero, Nat.reduceEqDiff, Nat.reduceAdd, Nat.reduceLeDiff, reduceCtorEq, List.map_cons, List.map_nil, Option.map_some, Nat.zero_add, List.length_cons, List.length_nil, List.set_cons_zero, and_self, if_true, if_false, pl_269, zc_269, d1, d2, retA_ret, Tryz.results106, resultsA_2]
  exact hid_mk ⟨rfl, ⟨by rw [push_n]; omega, get_push_new, .inl ⟨.inl rfl, rfl⟩, by simp [idOf], List.Pairwise.nil, by simp; omega, h2⟩, Keep.push _ _ _⟩
/-! ### A store that is nil -/
/-! ### The examples -/
end Go.Proofs.YtedkjhifbibpmaaGreatDoor.Pk
