/-
  What functions of the program do, told of abstract states. Conditions: as each theorem says.
-/
import Derived.Test.YtjphnabogfiahaaDoorReM
namespace Go.Proofs.YtjphnabogfiahaaDoor.Pk
open Go Go.Proofs Go.Proofs.YtjphnabogfiahaaDoor.Ab
set_option linter.unusedVariables false
set_option linter.unusedSimpArgs false

structure Rcd where
  k : Int
  v : Int
  t : Int
  deriving DecidableEq
structure Ent where
  kind : Int
  task : Int
  epoch : Int
  txn : Int
  log : Int
  r : Rcd
  del : Bool
  offs : List Int
  order : List Int
  deriving DecidableEq
def rcdE (r : Rcd) : List V := [.int .i64 r.k, .int .i64 r.v, .int .i64 r.t]
def entE (x : Ent) : List V := [.int .i64 x.kind, .int .i64 x.task, .int .i64 x.epoch, .int .i64 x.txn, .int .i64 x.log, .int .i64 x.r.k, .int .i64 x.r.v, .int .i64 x.r.t, .bool x.del, .imm x.offs.length (i64V x.offs), .imm x.order.length (i64V x.order)]
theorem rcdE_len (r : Rcd) : (rcdE r).length = 3 := rfl
theorem entE_len (r : Ent) : (entE r).length = 11 := rfl
theorem rcdE_clo (r : Rcd) : CloL (rcdE r) := CloL.cons (Clo.int _ _) (CloL.cons (Clo.int _ _) (CloL.cons (Clo.int _ _) CloL.nil))
theorem entE_clo (r : Ent) : CloL (entE r) := CloL.cons (Clo.int _ _) (CloL.cons (Clo.int _ _) (CloL.cons (Clo.int _ _) (CloL.cons (Clo.int _ _) (CloL.cons (Clo.int _ _) (CloL.cons (Clo.int _ _) (CloL.cons (Clo.int _ _) (CloL.cons (Clo.int _ _) (CloL.cons (Clo.bool _) (CloL.cons (Clo.imm (i64V_clo _)) (CloL.cons (Clo.imm (i64V_clo _)) CloL.nil))))))))))
def zR : Rcd := ⟨0, 0, 0⟩
def zE : Ent := ⟨0, 0, 0, 0, 0, zR, false, [], []⟩
def in64 (n : Int) : Prop := -2 ^ 63 ≤ n ∧ n < 2 ^ 63
def rIn (r : Rcd) : Prop := in64 r.k ∧ in64 r.v ∧ in64 r.t
def fit (n : Int) : Bool := decide (0 ≤ n) && decide (n ≤ 1048576)
def timeOk (t : Int) : Bool := decide (0 ≤ t) && decide (t ≤ 1099511627776)
/-- No kind has what it has no part in. -/
def useB (x : Ent) : Bool :=
  (decide (2 ≤ x.kind ∧ x.kind ≤ 5) || (x.task == 0 && x.epoch == 0)) && (decide (2 ≤ x.kind ∧ x.kind ≤ 4) || x.txn == 0) && (decide (x.kind ≤ 2) || (x.log == 0 && decide (x.r = zR))) &&
    (decide (x.kind = 2) || !x.del) && (decide (x.kind = 3) || (x.offs.length == 0 && x.order.length == 0))
def mayB (x : Ent) : Bool :=
  decide (1 ≤ x.kind) && decide (x.kind ≤ 6) && fit x.task && fit x.epoch && fit x.txn && fit x.log && timeOk x.r.t && decide (x.offs.length ≤ 8) && x.offs.all fit && decide (x.order.length ≤ 256) && x.order.all fit && useB x
theorem may_iff (x : Ent) : mayB x = true ↔ (1 ≤ x.kind ∧ x.kind ≤ 6) ∧ fit x.task = true ∧ fit x.epoch = true ∧ fit x.txn = true ∧ fit x.log = true ∧ timeOk x.r.t = true ∧ x.offs.length ≤ 8 ∧ (∀ n ∈ x.offs, fit n = true) ∧ x.order.length ≤ 256 ∧ (∀ n ∈ x.order, fit n = true) ∧ useB x = true := by
  simp only [mayB, Bool.and_eq_true, decide_eq_true_eq, List.all_eq_true, and_assoc]
theorem fit_iff (n : Int) : fit n = true ↔ 0 ≤ n ∧ n ≤ 1048576 := by simp [fit]
theorem time_iff (n : Int) : timeOk n = true ↔ 0 ≤ n ∧ n ≤ 1099511627776 := by simp [timeOk]

/-! ### Bytes -/
def nums3 (r : Rcd) : List Nat := [zz r.k, zz r.v, zz r.t]
def encR (r : Rcd) : List Nat := (nums3 r).flatMap enc
def nums9 (x : Ent) : List Nat := [x.kind.toNat, x.task.toNat, x.epoch.toNat, x.txn.toNat, x.log.toNat, zz x.r.k, zz x.r.v, zz x.r.t, if x.del then 1 else 0]
def encT (x : Ent) : List Nat := (nums9 x).flatMap enc ++ (encInts x.offs ++ encInts x.order)
def rcdOf (l : List Nat) : Rcd := ⟨unz (l.getD 0 0), unz (l.getD 1 0), unz (l.getD 2 0)⟩
def entOf (l : List Nat) (o r : List Int) : Ent := ⟨(l.getD 0 0 : Nat), (l.getD 1 0 : Nat), (l.getD 2 0 : Nat), (l.getD 3 0 : Nat), (l.getD 4 0 : Nat), ⟨unz (l.getD 5 0), unz (l.getD 6 0), unz (l.getD 7 0)⟩, l.getD 8 0 == 1, o, r⟩
def recD (bs : List Nat) : Rcd × Nat :=
  if (nums 3 bs []).2.2 ≠ 0 then (zR, (nums 3 bs []).2.2)
  else if timeOk (rcdOf (nums 3 bs []).1).t = false then (zR, 2)
  else if (nums 3 bs []).2.1 ≠ [] then (zR, 5) else (rcdOf (nums 3 bs []).1, 0)
def entG (l : List Nat) (o r : List Int × List Nat × Nat) : Ent × Nat :=
  if o.2.2 ≠ 0 then (zE, o.2.2) else if r.2.2 ≠ 0 then (zE, r.2.2)
  else if r.2.1 ≠ [] ∨ 1 < l.getD 8 0 ∨ mayB (entOf l o.1 r.1) = false then (zE, 5) else (entOf l o.1 r.1, 0)
def entD (bs : List Nat) : Ent × Nat :=
  if (nums 9 bs []).2.2 ≠ 0 then (zE, (nums 9 bs []).2.2)
  else entG (nums 9 bs []).1 (getInts (nums 9 bs []).2.1 8) (getInts (getInts (nums 9 bs []).2.1 8).2.1 256)

theorem zz64 {n : Int} (h : in64 n) : zz n < 2 ^ 64 := zz_lt n h.1 h.2
theorem nums3_lt {r : Rcd} (h : rIn r) : ∀ n ∈ nums3 r, n < 2 ^ 64 := by
  intro n hn
  simp only [nums3, List.mem_cons, List.not_mem_nil, or_false] at hn
  rcases hn with rfl | rfl | rfl
  · exact zz64 h.1
  · exact zz64 h.2.1
  · exact zz64 h.2.2
theorem rcdOf_nums (r : Rcd) : rcdOf (nums3 r) = r := by simp [rcdOf, nums3, unz_zz]
theorem flat_ge (l : List Nat) (h : ∀ n ∈ l, n < 2 ^ 64) : l.length ≤ (l.flatMap enc).length := by
  induction l with
  | nil => simp
  | cons n l ih =>
    have h1 := (enc_le n (h n (by simp))).1
    have h2 := ih fun m hm => h m (by simp [hm])
    rw [List.flatMap_cons, List.length_append, List.length_cons]
    omega
theorem flat_le (l : List Nat) (h : ∀ n ∈ l, n < 2 ^ 64) : (l.flatMap enc).length ≤ 10 * l.length := by
  induction l with
  | nil => simp
  | cons n l ih =>
    have h1 := (enc_le n (h n (by simp))).2
    have h2 := ih fun m hm => h m (by simp [hm])
    rw [List.flatMap_cons, List.length_append, List.length_cons]
    omega
theorem flat_lt (l : List Nat) : ∀ b ∈ l.flatMap enc, b < 256 := by
  intro b hb
  obtain ⟨n, _, hn⟩ := List.mem_flatMap.1 hb
  exact enc_lt n n (Nat.le_refl _) b hn
theorem encR_ge {r : Rcd} (h : rIn r) : 3 ≤ (encR r).length := flat_ge (nums3 r) (nums3_lt h)
theorem encR_le {r : Rcd} (h : rIn r) : (encR r).length ≤ 30 := flat_le (nums3 r) (nums3_lt h)
theorem recD_enc {r : Rcd} (h : rIn r) : recD (encR r) = if timeOk r.t = true then (r, 0) else (zR, 2) := by
  have e := nums_app [] (nums3 r) [] (nums3_lt h)
  rw [List.append_nil, List.nil_append, show (nums3 r).length = 3 from rfl] at e
  unfold recD encR
  rw [e]
  simp only [rcdOf_nums, ne_eq, not_true, if_false]
  cases timeOk r.t <;> simp
theorem recD_cut {r : Rcd} (h : rIn r) {j : Nat} (hj : j < (encR r).length) : (recD ((encR r).take j)).2 ≠ 0 := by
  have e := nums_cut (nums3 r) [] j (nums3_lt h) hj
  rw [show (nums3 r).length = 3 from rfl] at e
  unfold recD encR
  rw [if_pos e]
  exact e
theorem recD_more {r : Rcd} (h : rIn r) (c : Nat) : (recD (encR r ++ [c])).2 ≠ 0 := by
  have e := nums_app [c] (nums3 r) [] (nums3_lt h)
  rw [List.nil_append, show (nums3 r).length = 3 from rfl] at e
  unfold recD encR
  rw [e]
  simp only [rcdOf_nums, ne_eq, not_true, if_false]
  cases timeOk r.t <;> simp
theorem recD_back {bs : List Nat} (hb : ∀ b ∈ bs, b < 256) (h : (recD bs).2 = 0) : encR (recD bs).1 = bs ∧ rIn (recD bs).1 := by
  have hq : nums 3 bs [] = ((nums 3 bs []).1, (nums 3 bs []).2.1, (nums 3 bs []).2.2) := rfl
  unfold recD at h ⊢
  split at h
  · rename_i he; exact absurd h he
  · rename_i he
    have he : (nums 3 bs []).2.2 = 0 := by omega
    split at h
    · simp at h
    · split at h
      · simp at h
      · rename_i h1 h2
        have h2 : (nums 3 bs []).2.1 = [] := by simpa using h2
        rw [he, h2] at hq
        obtain ⟨m, e1, e2, e3, e4, _, _⟩ := nums_back 3 bs [] _ _ hb hq
        rw [if_neg (by omega), if_neg h1, if_neg (by simpa using h2)]
        rw [List.nil_append] at e1
        rw [e1]
        match m, e2 with
        | [a, b, c], _ =>
          refine ⟨?_, unz_range _ (e4 a (by simp)), unz_range _ (e4 b (by simp)), unz_range _ (e4 c (by simp))⟩
          rw [e3, List.append_nil]
          simp [encR, nums3, rcdOf, zz_unz]

def eIn (x : Ent) : Prop := in64 x.kind ∧ in64 x.task ∧ in64 x.epoch ∧ in64 x.txn ∧ in64 x.log ∧ rIn x.r ∧ (∀ n ∈ x.offs, in64 n) ∧ ∀ n ∈ x.order, in64 n
theorem nums9_lt {x : Ent} (hr : rIn x.r) (hm : mayB x = true) : ∀ n ∈ nums9 x, n < 2 ^ 64 := by
  obtain ⟨hk, h1, h2, h3, h4, _⟩ := (may_iff x).1 hm
  rw [fit_iff] at h1 h2 h3 h4
  have a1 := zz64 hr.1
  have a2 := zz64 hr.2.1
  have a3 := zz64 hr.2.2
  intro n hn
  simp only [nums9, List.mem_cons, List.not_mem_nil, or_false] at hn
  rcases hn with rfl | rfl | rfl | rfl | rfl | rfl | rfl | rfl | rfl
  · omega
  · omega
  · omega
  · omega
  · omega
  · exact a1
  · exact a2
  · exact a3
  · split <;> omega
theorem entOf_nums {x : Ent} (hm : mayB x = true) : entOf (nums9 x) x.offs x.order = x := by
  obtain ⟨hk, h1, h2, h3, h4, _⟩ := (may_iff x).1 hm
  rw [fit_iff] at h1 h2 h3 h4
  obtain ⟨kind, task, epoch, txn, log, ⟨k, v, t⟩, del, offs, order⟩ := x
  simp only at hk h1 h2 h3 h4
  simp only [entOf, nums9, List.getD_cons_zero, List.getD_cons_succ, unz_zz, Ent.mk.injEq, and_true, true_and]
  refine ⟨by omega, by omega, by omega, by omega, by omega, ?_⟩
  cases del <;> rfl
theorem fit32 {l : List Int} (h : ∀ n ∈ l, fit n = true) : ∀ n ∈ l, -2147483648 ≤ n ∧ n ≤ 2147483647 := fun n hn => by
  have := (fit_iff n).1 (h n hn); omega
theorem entD_app {x : Ent} (hr : rIn x.r) (hm : mayB x = true) (bs : List Nat) : entD ((nums9 x).flatMap enc ++ bs) = entG (nums9 x) (getInts bs 8) (getInts (getInts bs 8).2.1 256) := by
  have e := nums_app bs (nums9 x) [] (nums9_lt hr hm)
  rw [List.nil_append, show (nums9 x).length = 9 from rfl] at e
  unfold entD
  rw [e]
  simp
theorem entD_enc {x : Ent} (hr : rIn x.r) (hm : mayB x = true) : entD (encT x) = (x, 0) := by
  obtain ⟨hk, _, _, _, _, _, h1, h2, h3, h4, _⟩ := (may_iff x).1 hm
  have e1 := getInts_app' x.offs (encInts x.order) 8 (by omega) (by omega) (fit32 h2)
  have e2 := getInts_app' x.order [] 256 (by omega) (by omega) (fit32 h4)
  rw [List.append_nil] at e2
  rw [encT, entD_app hr hm, e1, e2]
  have hd : ¬ 1 < (nums9 x).getD 8 0 := by
    simp only [nums9, List.getD_cons_zero, List.getD_cons_succ]; split <;> omega
  unfold entG
  simp only [entOf_nums hm]
  rw [if_neg (by simp), if_neg (by simp), if_neg (by simp [hm]; simpa using hd)]
theorem entD_more {x : Ent} (hr : rIn x.r) (hm : mayB x = true) (c : Nat) : (entD (encT x ++ [c])).2 ≠ 0 := by
  obtain ⟨hk, _, _, _, _, _, h1, h2, h3, h4, _⟩ := (may_iff x).1 hm
  have e1 := getInts_app' x.offs (encInts x.order ++ [c]) 8 (by omega) (by omega) (fit32 h2)
  have e2 := getInts_app' x.order [c] 256 (by omega) (by omega) (fit32 h4)
  rw [encT, List.append_assoc, List.append_assoc, entD_app hr hm, e1, e2]
  unfold entG
  rw [if_neg (by simp), if_neg (by simp), if_pos (by simp)]
  simp
theorem encInts_ge (l : List Int) (h : l.length < 2 ^ 63) : 1 ≤ (encInts l).length := by
  have := (enc_le l.length (by omega)).1
  unfold encInts
  rw [List.length_append]; omega
theorem entD_cut {x : Ent} (hr : rIn x.r) (hm : mayB x = true) : (entD ((encT x).take ((encT x).length - 1))).2 ≠ 0 := by
  obtain ⟨hk, _, _, _, _, _, h1, h2, h3, h4, _⟩ := (may_iff x).1 hm
  have hg := encInts_ge x.order (by omega)
  have e0 : (encT x).take ((encT x).length - 1) = (nums9 x).flatMap enc ++ (encInts x.offs ++ (encInts x.order).take ((encInts x.order).length - 1)) := by
    unfold encT
    simp only [List.length_append]
    rw [List.take_append, List.take_of_length_le (by omega), List.take_append, List.take_of_length_le (by omega)]
    congr 3
    omega
  have e1 := getInts_app' x.offs ((encInts x.order).take ((encInts x.order).length - 1)) 8 (by omega) (by omega) (fit32 h2)
  have e2 := getInts_cut x.order 256 ((encInts x.order).length - 1) (by omega) (by omega) (fit32 h4) (by omega)
  rw [e0, entD_app hr hm, e1]
  unfold entG
  rw [if_neg (by simp), if_pos (by simpa using e2)]
  exact e2
theorem entD_back {bs : List Nat} (hb : ∀ b ∈ bs, b < 256) (h : (entD bs).2 = 0) : encT (entD bs).1 = bs ∧ mayB (entD bs).1 = true ∧ rIn (entD bs).1.r := by
  have hq : nums 9 bs [] = ((nums 9 bs []).1, (nums 9 bs []).2.1, (nums 9 bs []).2.2) := rfl
  by_cases he : (nums 9 bs []).2.2 ≠ 0
  · unfold entD at h; rw [if_pos he] at h; exact absurd h he
  · have he : (nums 9 bs []).2.2 = 0 := by omega
    rw [he] at hq
    obtain ⟨m, e1, e2, e3, e4, e5, _⟩ := nums_back 9 bs [] _ _ hb hq
    rw [List.nil_append] at e1
    have hE : entD bs = entG m (getInts (nums 9 bs []).2.1 8) (getInts (getInts (nums 9 bs []).2.1 8).2.1 256) := by
      unfold entD; rw [if_neg (by omega), e1]
    rw [hE] at h ⊢
    generalize (nums 9 bs []).2.1 = r0 at *
    have hp : ∀ (b : List Nat) (k : Int), getInts b k = ((getInts b k).1, (getInts b k).2.1, (getInts b k).2.2) := fun _ _ => rfl
    have q1 := hp r0 8
    unfold entG at h ⊢
    by_cases h1 : (getInts r0 8).2.2 ≠ 0
    · rw [if_pos h1] at h; exact absurd h h1
    rw [if_neg h1] at h ⊢
    rw [show (getInts r0 8).2.2 = 0 by omega] at q1
    obtain ⟨b1, b2, b3, b4, _⟩ := getInts_back e5 q1
    generalize (getInts r0 8).2.1 = r1 at *
    generalize (getInts r0 8).1 = o at *
    have q2 := hp r1 256
    by_cases h2 : (getInts r1 256).2.2 ≠ 0
    · rw [if_pos h2] at h; exact absurd h h2
    rw [if_neg h2] at h ⊢
    rw [show (getInts r1 256).2.2 = 0 by omega] at q2
    obtain ⟨c1, c2, c3, c4, _⟩ := getInts_back b4 q2
    generalize (getInts r1 256).2.1 = r2 at *
    generalize (getInts r1 256).1 = od at *
    by_cases h3 : r2 ≠ [] ∨ 1 < m.getD 8 0 ∨ mayB (entOf m o od) = false
    · rw [if_pos h3] at h; simp at h
    rw [if_neg h3]
    have h4 : r2 = [] := by
      rcases Classical.em (r2 = []) with hh | hh
      · exact hh
      · exact absurd (.inl hh) h3
    have h5 : ¬ 1 < m.getD 8 0 := fun hh => h3 (.inr (.inl hh))
    have h6 : mayB (entOf m o od) = true := by
      cases hh : mayB (entOf m o od) with
      | true => rfl
      | false => exact absurd (.inr (.inr hh)) h3
    match m, e2 with
    | [a0, a1, a2, a3, a4, a5, a6, a7, a8], _ =>
      refine ⟨?_, h6, unz_range _ (e4 a5 (by simp)), unz_range _ (e4 a6 (by simp)), unz_range _ (e4 a7 (by simp))⟩
      simp only [List.getD_cons_zero, List.getD_cons_succ] at h5
      have e9 : nums9 (entOf [a0, a1, a2, a3, a4, a5, a6, a7, a8] o od) = [a0, a1, a2, a3, a4, a5, a6, a7, a8] := by
        simp only [nums9, entOf, List.getD_cons_zero, List.getD_cons_succ, zz_unz, Int.toNat_natCast]
        have : a8 = 0 ∨ a8 = 1 := by omega
        rcases this with rfl | rfl <;> rfl
      rw [encT, e9, e3, b1, c1, h4, List.append_nil]
      rfl
theorem encT_ge {x : Ent} (hr : rIn x.r) (hm : mayB x = true) : 11 ≤ (encT x).length := by
  obtain ⟨hk, _, _, _, _, _, h1, h2, h3, h4, _⟩ := (may_iff x).1 hm
  have g1 := flat_ge (nums9 x) (nums9_lt hr hm)
  have g2 := encInts_ge x.offs (by omega)
  have g3 := encInts_ge x.order (by omega)
  have g4 : (nums9 x).length = 9 := rfl
  unfold encT
  simp only [List.length_append]
  omega
theorem encT_le {x : Ent} (hr : rIn x.r) (hm : mayB x = true) : (encT x).length ≤ 4096 := by
  obtain ⟨hk, _, _, _, _, _, h1, h2, h3, h4, _⟩ := (may_iff x).1 hm
  have g1 := flat_le (nums9 x) (nums9_lt hr hm)
  have g2 := encInts_len x.offs (by omega) (fit32 h2)
  have g3 := encInts_len x.order (by omega) (fit32 h4)
  have g4 : (nums9 x).length = 9 := rfl
  unfold encT
  simp only [List.length_append]
  omega
theorem encT_lt (x : Ent) : ∀ b ∈ encT x, b < 256 := by
  intro b hb
  simp only [encT, List.mem_append] at hb
  rcases hb with hb | hb | hb
  · exact flat_lt _ b hb
  · exact encInts_lt _ b hb
  · exact encInts_lt _ b hb
theorem encT_inj {x y : Ent} (hx : rIn x.r) (hy : rIn y.r) (mx : mayB x = true) (my : mayB y = true) : encT x = encT y ↔ x = y := by
  refine ⟨fun h => ?_, fun h => by rw [h]⟩
  have h1 := entD_enc hx mx
  rw [h, entD_enc hy my] at h1
  simpa using h1.symm
end Go.Proofs.YtjphnabogfiahaaDoor.Pk
