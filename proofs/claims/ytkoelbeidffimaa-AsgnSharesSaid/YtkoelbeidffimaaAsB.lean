/-
  What functions of the program do, told of abstract states. Conditions: as each theorem says.
-/
import Derived.Test.YtkoelbeidffimaaAsA
namespace Go.Proofs.Ytkoelbeidffimaa.Pk
open Go Go.Proofs Go.Proofs.Ytkoelbeidffimaa.Ab
set_option linter.unusedVariables false
set_option linter.unusedSimpArgs false

def okW (alive : List Bool) (w : Int) : Bool := decide (0 ≤ w) && decide (w < alive.length) && alive.getD w.toNat false
def step1 (alive : List Bool) (share : Nat) (prev : List Int) (o : List Int) (t : Nat) : List Int :=
  if okW alive (prev.getD t 0) = true ∧ o.count (prev.getD t 0) < share then o.set t (prev.getD t 0) else o
def step2 (W : List Int) (o : List Int) (t : Nat) : List Int := if o.getD t 0 = -1 then o.set t (pick W o) else o
def shareOf (n k : Nat) : Nat := (n + k - 1) / k
def ph1 (n : Nat) (alive : List Bool) (prev : List Int) (i : Nat) : List Int :=
  (List.range i).foldl (step1 alive (shareOf n (livingL alive).length) prev) (List.replicate n (-1))
def ph2 (n : Nat) (alive : List Bool) (prev : List Int) (i : Nat) : List Int :=
  (List.range i).foldl (step2 (livingL alive)) (ph1 n alive prev (min n prev.length))
def assign (n : Nat) (alive : List Bool) (prev : List Int) : List Int :=
  if livingL alive = [] then List.replicate n (-1) else ph2 n alive prev n

theorem ph1_succ (n : Nat) (alive : List Bool) (prev : List Int) (i : Nat) : ph1 n alive prev (i + 1) = step1 alive (shareOf n (livingL alive).length) prev (ph1 n alive prev i) i := by
  unfold ph1; rw [List.range_succ, List.foldl_append]; rfl
theorem ph2_succ (n : Nat) (alive : List Bool) (prev : List Int) (i : Nat) : ph2 n alive prev (i + 1) = step2 (livingL alive) (ph2 n alive prev i) i := by
  unfold ph2; rw [List.range_succ, List.foldl_append]; rfl
theorem step1_length (alive : List Bool) (share : Nat) (prev o : List Int) (t : Nat) : (step1 alive share prev o t).length = o.length := by
  unfold step1; split <;> simp
theorem step2_length (W o : List Int) (t : Nat) : (step2 W o t).length = o.length := by
  unfold step2; split <;> simp
theorem ph1_length (n : Nat) (alive : List Bool) (prev : List Int) : ∀ i, (ph1 n alive prev i).length = n
  | 0 => by simp [ph1]
  | i + 1 => by rw [ph1_succ, step1_length, ph1_length]
theorem ph2_length (n : Nat) (alive : List Bool) (prev : List Int) : ∀ i, (ph2 n alive prev i).length = n
  | 0 => by simp [ph2, ph1_length]
  | i + 1 => by rw [ph2_succ, step2_length, ph2_length]
theorem assign_length (n : Nat) (alive : List Bool) (prev : List Int) : (assign n alive prev).length = n := by
  unfold assign; split
  · simp
  · exact ph2_length _ _ _ _
/-- Behind where the first steps came, nothing is given. -/
theorem ph1_rest (n : Nat) (alive : List Bool) (prev : List Int) : ∀ (i k : Nat), i ≤ k → k < n → (ph1 n alive prev i)[k]? = some (-1)
  | 0, k, _, hk => by simp [ph1, List.getElem?_replicate, hk]
  | i + 1, k, hi, hk => by
    rw [ph1_succ]
    unfold step1
    split
    · rw [List.getElem?_set_ne (by omega)]; exact ph1_rest n alive prev i k (by omega) hk
    · exact ph1_rest n alive prev i k (by omega) hk
theorem lv_mem {alive : List Bool} {w : Int} : w ∈ livingL alive ↔ okW alive w = true := by
  unfold livingL okW
  rw [lvN_mem]
  simp [and_assoc]

/-- The owners and the loads, as the code has them. -/
structure Two (h0 h : AHeap) (O L : Nat) (n m : Nat) (lv : V) (o : List Int) : Prop where
  keep : Keep h0 h none_
  ltO : h0.n ≤ O
  ltL : h0.n ≤ L
  newD : ∀ k, idOf lv = some k → h0.n ≤ k ∧ k ≠ O
  own : Own h 3 1 (.sl O 0 n n) (i64V o)
  lds : Lds h L lv (ldsOf m o)
  neOL : O ≠ L

theorem Own.at {h : AHeap} {e : TypeId} {v : V} {cs : List V} {i : Nat} (ho : Own h e 1 v cs) (hi : idOf v = some i) {k : Nat} (hk : k < cs.length) {kk : IntKind} {t : TypeId} (hs : slSz Try.prog t = some 1) :
    aIndexAddr Try.prog t v (.int kk (k : Int)) = some (.ptr i k) ∧ (∃ r, dropC (h.get i) k = some (cs[k] :: r)) ∧ ∀ x, x.one = true → ∃ ob, setC (some 1) (h.get i) k [x] = some ob ∧ Own (h.set i ob) e 1 v (cs.set k x) := by
  obtain ⟨j, q1, q2, q3, q4⟩ := own_elem (P := Try.prog) (kk := kk) hs ho hk
  rw [hi] at q2
  obtain rfl : i = j := by simpa using q2
  exact ⟨q1, q3, fun x hx => by obtain ⟨ob, a, b, _⟩ := q4 x hx; exact ⟨ob, a, b⟩⟩

/-- A task is given to a worker. -/
theorem Two.give {h0 h : AHeap} {O L n m : Nat} {lv : V} {o : List Int} (T : Two h0 h O L n m lv o) {t w : Nat} (ht : t < o.length) (hw : w < m) (hn : o[t] = -1) :
    ∃ D ob ob2 r, idOf lv = some D ∧ aIndexAddr Try.prog 24 (.sl O 0 n n) (.int .i64 (t : Int)) = some (.ptr O t) ∧ setC (some 1) (h.get O) t [.int .i64 (w : Int)] = some ob ∧
      aIndexAddr Try.prog 24 lv (.int .i64 (w : Int)) = some (.ptr D w) ∧ (h.set O ob).get L = .cells [lv] 24 none ∧ dropC ((h.set O ob).get D) w = some (.int .i64 ((o.count (w : Int) : Nat) : Int) :: r) ∧
      setC (some 1) ((h.set O ob).get D) w [.int .i64 (((o.count (w : Int) : Nat) : Int) + 1)] = some ob2 ∧ Two h0 ((h.set O ob).set D ob2) O L n m lv (o.set t (w : Int)) := by
  obtain ⟨q1, _, q3⟩ := Own.at (kk := .i64) T.own (i := O) rfl (k := t) (by rw [i64V_length]; exact ht) ss_24
  obtain ⟨ob, a1, a2⟩ := q3 (.int .i64 (w : Int)) rfl
  have hid : ∃ D, idOf lv = some D := by
    obtain ⟨i, _, q, _⟩ := own_elem (P := Try.prog) (kk := .i64) ss_24 T.lds.own (k := w) (by rw [i64V_length, ldsOf_length]; exact hw)
    exact ⟨i, q⟩
  obtain ⟨D, hD⟩ := hid
  have hDO := (T.newD D hD).2
  have hDL := T.lds.ne D hD
  have kO : Keep h (h.set O ob) (· = O) := Keep.set _ _ _
  have own2 : Own (h.set O ob) 3 1 lv (i64V (ldsOf m o)) := T.lds.own.keep kO fun k hk hi => by
    rw [hD] at hk; simp at hk; subst hk; exact hDO hi
  have hwl : w < (i64V (ldsOf m o)).length := by rw [i64V_length, ldsOf_length]; exact hw
  obtain ⟨p1, ⟨r, p2⟩, p3⟩ := Own.at (kk := .i64) own2 hD (k := w) hwl ss_24
  rw [i64V_get (by rw [ldsOf_length]; exact hw), ldsOf_get] at p2
  obtain ⟨ob2, b1, b2⟩ := p3 (.int .i64 (((o.count (w : Int) : Nat) : Int) + 1)) rfl
  have cellL : (h.set O ob).get L = .cells [lv] 24 none := by rw [get_set_ne (Ne.symm T.neOL)]; exact T.lds.cell
  refine ⟨D, ob, ob2, r, hD, q1, a1, p1, cellL, p2, b1, ⟨?_, T.ltO, T.ltL, T.newD, ?_, ⟨?_, ?_, ?_, T.lds.ne⟩, T.neOL⟩⟩
  · exact (T.keep.setNew T.ltO ob).setNew (T.newD D hD).1 ob2
  · rw [i64V_set] at a2
    exact a2.keep (Keep.set _ D ob2) fun k hk hi => by simp [idOf] at hk; omega
  · rw [set_n, set_n]; exact T.lds.lt
  · rw [get_set_ne (Ne.symm hDL)]; exact cellL
  · rw [i64V_set, ldsOf_set hw ht hn] at b2
    exact b2
end Go.Proofs.Ytkoelbeidffimaa.Pk
