/-
  What functions of the program do, told of abstract states. Conditions: as each theorem says.
-/
import Derived.Test.YtjphnabogfiahaaSeL
namespace Go.Proofs.Ytjphnabogfiahaa.Pk
open Go Go.Proofs Go.Proofs.Ytjphnabogfiahaa.Ab
set_option linter.unusedVariables false
set_option linter.unusedSimpArgs false
/-! ### What a time makes of sessions -/
structure okS (c : Chg) : Prop where
  lo : 0 ≤ c.fr
  le : c.fr ≤ c.to
  hi : c.to ≤ 2 ^ 40
  del : c.del = false
def touch (g k t : Int) (x : Chg) : Bool := decide (x.key = k ∧ x.fr - g ≤ t ∧ t ≤ x.to + g)
theorem touch_iff {g k t : Int} {x : Chg} : touch g k t x = true ↔ x.key = k ∧ x.fr - g ≤ t ∧ t ≤ x.to + g := by simp [touch]
theorem touch_same {g k t : Int} {x y : Chg} (h : same3 x y = true) : touch g k t x = touch g k t y := by
  obtain ⟨h1, h2, h3⟩ := same3_iff.1 h
  unfold touch; rw [h1, h2, h3]
def found (g : Int) (l : List Chg) (k t : Int) : List Chg := l.filter (touch g k t)
def rest (g : Int) (l : List Chg) (k t : Int) : List Chg := l.filter fun x => !touch g k t x
def loF (t : Int) (cs : List Chg) : Int := cs.foldl (fun a c => min a c.fr) t
def hiF (t : Int) (cs : List Chg) : Int := cs.foldl (fun a c => max a c.to) t
theorem loF_snoc (t : Int) (cs : List Chg) (c : Chg) : loF t (cs ++ [c]) = min (loF t cs) c.fr := by simp [loF]
theorem hiF_snoc (t : Int) (cs : List Chg) (c : Chg) : hiF t (cs ++ [c]) = max (hiF t cs) c.to := by simp [hiF]
theorem loF_le : ∀ (cs : List Chg) (t : Int), loF t cs ≤ t ∧ ∀ x ∈ cs, loF t cs ≤ x.fr
  | [], t => ⟨Int.le_refl _, by simp⟩
  | c :: cs, t => by
    obtain ⟨h1, h2⟩ := loF_le cs (min t c.fr)
    refine ⟨Int.le_trans h1 (by omega), fun x hx => ?_⟩
    rcases List.mem_cons.1 hx with rfl | hx
    · exact Int.le_trans h1 (by omega)
    · exact h2 x hx
theorem loF_is : ∀ (cs : List Chg) (t : Int), loF t cs = t ∨ ∃ x ∈ cs, loF t cs = x.fr
  | [], t => .inl rfl
  | c :: cs, t => by
    rcases loF_is cs (min t c.fr) with h | ⟨x, hx, h⟩
    · by_cases hm : t ≤ c.fr
      · left; rw [Int.min_eq_left hm] at h; show loF (min t c.fr) cs = t; rw [Int.min_eq_left hm]; exact h
      · right; refine ⟨c, by simp, ?_⟩; show loF (min t c.fr) cs = c.fr; rw [h]; omega
    · exact .inr ⟨x, by simp [hx], h⟩
theorem hiF_ge : ∀ (cs : List Chg) (t : Int), t ≤ hiF t cs ∧ ∀ x ∈ cs, x.to ≤ hiF t cs
  | [], t => ⟨Int.le_refl _, by simp⟩
  | c :: cs, t => by
    obtain ⟨h1, h2⟩ := hiF_ge cs (max t c.to)
    refine ⟨Int.le_trans (by omega) h1, fun x hx => ?_⟩
    rcases List.mem_cons.1 hx with rfl | hx
    · exact Int.le_trans (by omega) h1
    · exact h2 x hx
theorem hiF_is : ∀ (cs : List Chg) (t : Int), hiF t cs = t ∨ ∃ x ∈ cs, hiF t cs = x.to
  | [], t => .inl rfl
  | c :: cs, t => by
    rcases hiF_is cs (max t c.to) with h | ⟨x, hx, h⟩
    · by_cases hm : c.to ≤ t
      · left; show hiF (max t c.to) cs = t; rw [h]; omega
      · right; refine ⟨c, by simp, ?_⟩; show hiF (max t c.to) cs = c.to; rw [h]; omega
    · exact .inr ⟨x, by simp [hx], h⟩
def mkS (g : Int) (l : List Chg) (k t v : Int) : Chg := ⟨k, loF t (found g l k t), hiF t (found g l k t), v, false⟩
def putS (g : Int) (l : List Chg) (k t v : Int) : List Chg := ins3 (rest g l k t) (mkS g l k t v)
def goneS (x : Chg) : Chg := ⟨x.key, x.fr, x.to, 0, true⟩
def otherS (c x : Chg) : Bool := decide (x.fr ≠ c.fr) || decide (x.to ≠ c.to)
def putC (g : Int) (l : List Chg) (k t v : Int) : List Chg := ((found g l k t).filter (otherS (mkS g l k t v))).map goneS ++ [mkS g l k t v]
theorem mkS_touch {g : Int} (hg : 0 ≤ g) (l : List Chg) (k t v : Int) : touch g k t (mkS g l k t v) = true := by
  rw [touch_iff]
  have h1 := (loF_le (found g l k t) t).1
  have h2 := (hiF_ge (found g l k t) t).1
  exact ⟨rfl, by show loF _ _ - g ≤ t; omega, by show t ≤ hiF _ _ + g; omega⟩
theorem rest_has {g : Int} (hg : 0 ≤ g) (l : List Chg) (k t v : Int) : has3 (rest g l k t) (mkS g l k t v) = false := by
  refine List.any_eq_false.2 fun y hy hs => ?_
  have h1 := (List.mem_filter.1 hy).2
  rw [touch_same hs, mkS_touch hg] at h1
  cases h1
theorem putS_ss {g : Int} (hg : 0 ≤ g) {l : List Chg} (h : SS l) (k t v : Int) : SS (putS g l k t v) := (h.filter _).insS (rest_has hg l k t v)
theorem mkS_ok {g : Int} {l : List Chg} (h : ∀ x ∈ l, okS x) {k t : Int} (v : Int) (h0 : 0 ≤ t) (h1 : t ≤ 2 ^ 40) : okS (mkS g l k t v) := by
  have hf : ∀ x ∈ found g l k t, okS x := fun x hx => h x (List.mem_filter.1 hx).1
  refine ⟨?_, ?_, ?_, rfl⟩
  · rcases loF_is (found g l k t) t with e | ⟨x, hx, e⟩
    · show 0 ≤ loF _ _; omega
    · have := (hf x hx).lo; show 0 ≤ loF _ _; omega
  · exact Int.le_trans (loF_le _ _).1 (hiF_ge _ _).1
  · rcases hiF_is (found g l k t) t with e | ⟨x, hx, e⟩
    · show hiF _ _ ≤ _; omega
    · have := (hf x hx).hi; show hiF _ _ ≤ _; omega
theorem putS_mem {g : Int} {l : List Chg} {k t v : Int} {x : Chg} : x ∈ putS g l k t v ↔ x = mkS g l k t v ∨ x ∈ l ∧ touch g k t x = false := by
  unfold putS
  rw [mem_ins3]
  unfold rest
  rw [List.mem_filter]
  simp
theorem putS_ok {g : Int} {l : List Chg} (h : ∀ x ∈ l, okS x) {k t : Int} (v : Int) (h0 : 0 ≤ t) (h1 : t ≤ 2 ^ 40) : ∀ x ∈ putS g l k t v, okS x := fun x hx => by
  rcases putS_mem.1 hx with rfl | hx
  · exact mkS_ok h v h0 h1
  · exact h x hx.1
theorem found_rest (g : Int) (l : List Chg) (k t : Int) : (found g l k t).length + (rest g l k t).length = l.length := by
  unfold found rest
  induction l with
  | nil => rfl
  | cons a l ih => cases h : touch g k t a <;> simp [List.filter_cons, h] <;> omega
theorem putS_len {g : Int} {l : List Chg} (h : SS l) (k t v : Int) : (putS g l k t v).length + (found g l k t).length = l.length + 1 := by
  have hr : SS (rest g l k t) := h.filter _
  unfold putS
  rw [hr.len_ins]
  have := found_rest g l k t
  omega
/-- Only it is touched afterwards. -/
theorem found_put {g : Int} (hg : 0 ≤ g) {l : List Chg} (h : SS l) (k t v : Int) : found g (putS g l k t v) k t = [mkS g l k t v] := by
  have ht := mkS_touch hg l k t v
  have hr : ∀ x ∈ rest g l k t, touch g k t x = false := fun x hx => by simpa using (List.mem_filter.1 hx).2
  unfold found putS ins3
  rw [List.filter_append, List.filter_cons_of_pos (by rw [ht]), List.filter_eq_nil_iff.2, List.filter_eq_nil_iff.2]
  · rfl
  · intro x hx; rw [hr x (List.mem_filter.1 hx).1]; simp
  · intro x hx; rw [hr x (List.mem_filter.1 hx).1]; simp
theorem found_nil {g : Int} {l : List Chg} {k t v : Int} (h : found g l k t = []) : (mkS g l k t v).fr = t ∧ (mkS g l k t v).to = t := by
  unfold mkS; rw [h]; exact ⟨rfl, rfl⟩
/-- The changes, done in another store, make the same. -/
theorem put_again {g : Int} (hg : 0 ≤ g) {l : List Chg} (h : SS l) (k t v : Int) : rm3 (rmAll l ((found g l k t).filter (otherS (mkS g l k t v)))) (mkS g l k t v) = rest g l k t := by
  unfold rm3 rmAll rest
  rw [List.filter_filter]
  refine List.filter_congr fun y hy => ?_
  cases ht : touch g k t y
  · have h1 : same3 y (mkS g l k t v) = false := by
      cases e : same3 y (mkS g l k t v)
      · rfl
      · rw [touch_same e, mkS_touch hg] at ht; cases ht
    rw [h1]
    simp only [Bool.not_false, Bool.true_and]
    refine List.all_eq_true.2 fun x hx => ?_
    have hx' := List.mem_filter.1 (List.mem_filter.1 hx).1
    cases e : same3 y x
    · rfl
    · rw [touch_same e, hx'.2] at ht; cases ht
  · cases e : same3 y (mkS g l k t v)
    · simp only [Bool.not_false, Bool.not_true, Bool.true_and]
      refine List.all_eq_false.2 ⟨y, List.mem_filter.2 ⟨List.mem_filter.2 ⟨hy, ht⟩, ?_⟩, by simp [same3]⟩
      have hk := (touch_iff.1 ht).1
      have h2 := same3_no.1 e
      unfold otherS
      by_cases h3 : y.fr = (mkS g l k t v).fr
      · have : y.to ≠ (mkS g l k t v).to := fun h4 => h2 ⟨hk, h3, h4⟩
        simp [this]
      · simp [h3]
    · simp
/-! ### What sessions are, whatever the order -/
structure Good (g : Int) (l : List Chg) (P : List (Int × Int)) : Prop where
  ss : SS l
  ok : ∀ x ∈ l, okS x
  sep : ∀ x ∈ l, ∀ y ∈ l, x.key = y.key → same3 x y = false → x.to + g < y.fr ∨ y.to + g < x.fr
  fr : ∀ x ∈ l, (x.key, x.fr) ∈ P
  to : ∀ x ∈ l, (x.key, x.to) ∈ P
  cov : ∀ k t, (k, t) ∈ P → ∃ x ∈ l, x.key = k ∧ x.fr ≤ t ∧ t ≤ x.to
  con : ∀ x ∈ l, ∀ t, x.fr < t → t ≤ x.to → ∃ p, (x.key, p) ∈ P ∧ t - g ≤ p ∧ p < t
theorem Good.nil (g : Int) : Good g [] [] := ⟨List.Pairwise.nil, by simp, by simp, by simp, by simp, by simp, by simp⟩
theorem Good.put {g : Int} (hg : 1 ≤ g) {l : List Chg} {P : List (Int × Int)} (w : Good g l P) {k t : Int} (v : Int) (h0 : 0 ≤ t) (h1 : t ≤ 2 ^ 40) : Good g (putS g l k t v) ((k, t) :: P) := by
  obtain ⟨a1, a2⟩ := loF_le (found g l k t) t
  obtain ⟨b1, b2⟩ := hiF_ge (found g l k t) t
  have a3 := loF_is (found g l k t) t
  have b3 := hiF_is (found g l k t) t
  have hF : ∀ x, x ∈ found g l k t ↔ x ∈ l ∧ x.key = k ∧ x.fr - g ≤ t ∧ t ≤ x.to + g := fun x => by unfold found; rw [List.mem_filter, touch_iff]
  have hT : ∀ x, touch g k t x = false ↔ ¬ (x.key = k ∧ x.fr - g ≤ t ∧ t ≤ x.to + g) := fun x => by rw [← touch_iff]; cases touch g k t x <;> simp
  have hsep : ∀ x ∈ l, x.key = k → touch g k t x = false → x.to + g < loF t (found g l k t) ∨ hiF t (found g l k t) + g < x.fr := fun x hx hxk hxt => by
    have hn : t < x.fr - g ∨ x.to + g < t := by have := (hT x).1 hxt; omega
    have hxo := w.ok x hx
    have hle := hxo.le
    rcases hn with hn | hn
    · right
      rcases b3 with e | ⟨y, hy, e⟩
      · omega
      · have hy' := (hF y).1 hy
        have hne : same3 y x = false := by
          cases e2 : same3 y x
          · rfl
          · have := same3_iff.1 e2; omega
        have := w.sep y hy'.1 x hx (by omega) hne
        have := (w.ok y hy'.1).le
        omega
    · left
      rcases a3 with e | ⟨y, hy, e⟩
      · omega
      · have hy' := (hF y).1 hy
        have hne : same3 y x = false := by
          cases e2 : same3 y x
          · rfl
          · have := same3_iff.1 e2; omega
        have := w.sep y hy'.1 x hx (by omega) hne
        have := (w.ok y hy'.1).le
        omega
  refine ⟨putS_ss (by omega) w.ss k t v, putS_ok w.ok v h0 h1, fun x hx y hy hk hne => ?_, fun x hx => ?_, fun x hx => ?_, fun k' t' hp => ?_, fun x hx t' h1 h2 => ?_⟩
  · rcases putS_mem.1 hx with rfl | hx <;> rcases putS_mem.1 hy with rfl | hy
    · rw [same3_no] at hne; exact absurd ⟨rfl, rfl, rfl⟩ hne
    · have := hsep y hy.1 hk.symm hy.2
      show hiF _ _ + g < y.fr ∨ y.to + g < loF _ _
      omega
    · have := hsep x hx.1 hk hx.2
      show x.to + g < loF _ _ ∨ hiF _ _ + g < x.fr
      omega
    · exact w.sep x hx.1 y hy.1 hk hne
  · rcases putS_mem.1 hx with rfl | hx
    · rcases a3 with e | ⟨y, hy, e⟩
      · exact List.mem_cons.2 (.inl (by show (k, loF _ _) = _; rw [e]))
      · have hy' := (hF y).1 hy
        refine List.mem_cons.2 (.inr ?_)
        show (k, loF _ _) ∈ P
        rw [e, ← hy'.2.1]; exact w.fr y hy'.1
    · exact List.mem_cons.2 (.inr (w.fr x hx.1))
  · rcases putS_mem.1 hx with rfl | hx
    · rcases b3 with e | ⟨y, hy, e⟩
      · exact List.mem_cons.2 (.inl (by show (k, hiF _ _) = _; rw [e]))
      · have hy' := (hF y).1 hy
        refine List.mem_cons.2 (.inr ?_)
        show (k, hiF _ _) ∈ P
        rw [e, ← hy'.2.1]; exact w.to y hy'.1
    · exact List.mem_cons.2 (.inr (w.to x hx.1))
  · rcases List.mem_cons.1 hp with e | hp
    · cases e
      exact ⟨mkS g l k t v, putS_mem.2 (.inl rfl), rfl, a1, b1⟩
    · obtain ⟨x, hx, e1, e2, e3⟩ := w.cov k' t' hp
      cases ht : touch g k t x
      · exact ⟨x, putS_mem.2 (.inr ⟨hx, ht⟩), e1, e2, e3⟩
      · have hxf : x ∈ found g l k t := List.mem_filter.2 ⟨hx, ht⟩
        have := a2 x hxf
        have := b2 x hxf
        exact ⟨mkS g l k t v, putS_mem.2 (.inl rfl), by rw [← e1]; exact (touch_iff.1 ht).1.symm, by show loF _ _ ≤ t'; omega, by show t' ≤ hiF _ _; omega⟩
  · rcases putS_mem.1 hx with rfl | hx
    · replace h1 : loF t (found g l k t) < t' := h1
      replace h2 : t' ≤ hiF t (found g l k t) := h2
      have key : ∀ p, (k, p) ∈ P ∨ p = t → t' - g ≤ p → p < t' → ∃ p, ((mkS g l k t v).key, p) ∈ (k, t) :: P ∧ t' - g ≤ p ∧ p < t' := fun p hp e1 e2 => by
        refine ⟨p, List.mem_cons.2 ?_, e1, e2⟩
        rcases hp with hp | rfl
        · exact .inr hp
        · exact .inl rfl
      by_cases hle : t' ≤ t
      · rcases a3 with e | ⟨z, hz, e⟩
        · omega
        · have hz' := (hF z).1 hz
          by_cases hzt : t' ≤ z.to
          · obtain ⟨p, hp, e1, e2⟩ := w.con z hz'.1 t' (by omega) hzt
            rw [hz'.2.1] at hp
            exact key p (.inl hp) e1 e2
          · have := w.to z hz'.1
            rw [hz'.2.1] at this
            exact key z.to (.inl this) (by omega) (by omega)
      · rcases b3 with e | ⟨z, hz, e⟩
        · omega
        · have hz' := (hF z).1 hz
          by_cases hzf : z.fr < t'
          · obtain ⟨p, hp, e1, e2⟩ := w.con z hz'.1 t' hzf (by omega)
            rw [hz'.2.1] at hp
            exact key p (.inl hp) e1 e2
          · exact key t (.inr rfl) (by omega) (by omega)
    · obtain ⟨p, hp, e1, e2⟩ := w.con x hx.1 t' h1 h2
      exact ⟨p, List.mem_cons.2 (.inr hp), e1, e2⟩
/-- Of the same times the same spans. -/
theorem Good.spans {g : Int} (hg : 1 ≤ g) {l m : List Chg} {P Q : List (Int × Int)} (w : Good g l P) (u : Good g m Q) (hPQ : ∀ p, p ∈ P ↔ p ∈ Q) : ∀ a ∈ l, ∃ b ∈ m, same3 a b = true := by
  have fr_eq : ∀ {l m : List Chg} {P Q : List (Int × Int)}, Good g l P → Good g m Q → (∀ p, p ∈ P ↔ p ∈ Q) → ∀ a ∈ l, ∃ b ∈ m, b.key = a.key ∧ b.fr = a.fr := fun {l m P Q} w u hPQ a ha => by
    obtain ⟨b, hb, e1, e2, e3⟩ := u.cov a.key a.fr ((hPQ _).1 (w.fr a ha))
    refine ⟨b, hb, e1, ?_⟩
    by_cases hlt : b.fr < a.fr
    · exfalso
      obtain ⟨p, hp, q1, q2⟩ := u.con b hb a.fr hlt e3
      rw [e1] at hp
      obtain ⟨c, hc, d1, d2, d3⟩ := w.cov a.key p ((hPQ _).2 hp)
      have hne : same3 c a = false := by
        cases e : same3 c a
        · rfl
        · have := same3_iff.1 e; omega
      have := w.sep c hc a ha d1 hne
      have := (w.ok a ha).le
      omega
    · omega
  have to_le : ∀ {l m : List Chg} {P Q : List (Int × Int)}, Good g l P → Good g m Q → (∀ p, p ∈ P ↔ p ∈ Q) → ∀ a ∈ l, ∀ b ∈ m, b.key = a.key → b.fr = a.fr → a.to ≤ b.to := fun {l m P Q} w u hPQ a ha b hb hk hf => by
    by_cases hlt : b.to < a.to
    · exfalso
      obtain ⟨c, hc, d1, d2, d3⟩ := u.cov a.key a.to ((hPQ _).1 (w.to a ha))
      have hao := (w.ok a ha).le
      have hbo := (u.ok b hb).le
      have hne : same3 b c = false := by
        cases e : same3 b c
        · rfl
        · have := same3_iff.1 e; omega
      have hs := u.sep b hb c hc (by omega) hne
      have hbc : b.to + g < c.fr := by omega
      obtain ⟨p, hp, q1, q2⟩ := w.con a ha c.fr (by omega) d2
      obtain ⟨d, hd, r1, r2, r3⟩ := u.cov a.key p ((hPQ _).1 hp)
      have hne2 : same3 d c = false := by
        cases e : same3 d c
        · rfl
        · have := same3_iff.1 e; omega
      have := u.sep d hd c hc (by omega) hne2
      have := (u.ok c hc).le
      omega
    · omega
  intro a ha
  obtain ⟨b, hb, e1, e2⟩ := fr_eq w u hPQ a ha
  refine ⟨b, hb, same3_iff.2 ⟨e1.symm, e2.symm, ?_⟩⟩
  have h1 := to_le w u hPQ a ha b hb e1 e2
  have h2 := to_le u w (fun p => (hPQ p).symm) b hb a ha e1.symm e2.symm
  omega
theorem SS.eq_of_mem : ∀ {a b : List Chg}, SS a → SS b → (∀ x, x ∈ a ↔ x ∈ b) → a = b
  | [], [], _, _, _ => rfl
  | [], q :: r, _, _, h => by have := (h q).2 (by simp); cases this
  | q :: r, [], _, _, h => by have := (h q).1 (by simp); cases this
  | p :: r, q :: s, ha, hb, h => by
    have ha' := List.pairwise_cons.1 ha
    have hb' := List.pairwise_cons.1 hb
    have irr : ∀ x : Chg, ¬ lt3 x x := fun x => lt3_irr (same3_iff.2 ⟨rfl, rfl, rfl⟩)
    have hpq : p = q := by
      rcases List.mem_cons.1 ((h p).1 (by simp)) with h1 | h1
      · exact h1
      · rcases List.mem_cons.1 ((h q).2 (by simp)) with h2 | h2
        · exact h2.symm
        · exact absurd (hb'.1 p h1) (lt3_asymm (ha'.1 q h2))
    subst hpq
    congr 1
    refine SS.eq_of_mem ha'.2 hb'.2 fun x => ⟨fun hx => ?_, fun hx => ?_⟩
    · rcases List.mem_cons.1 ((h x).1 (by simp [hx])) with e | e
      · subst e; exact absurd (ha'.1 x hx) (irr x)
      · exact e
    · rcases List.mem_cons.1 ((h x).2 (by simp [hx])) with e | e
      · subst e; exact absurd (hb'.1 x hx) (irr x)
      · exact e
theorem Good.unique {g : Int} (hg : 1 ≤ g) {l m : List Chg} {P Q : List (Int × Int)} (w : Good g l P) (u : Good g m Q) (hPQ : ∀ p, p ∈ P ↔ p ∈ Q) {v : Int} (hl : ∀ x ∈ l, x.val = v) (hm : ∀ x ∈ m, x.val = v) : l = m := by
  have ext : ∀ a b : Chg, same3 a b = true → a.val = b.val → a.del = b.del → a = b := fun a b h h1 h2 => by
    obtain ⟨e1, e2, e3⟩ := same3_iff.1 h
    cases a; cases b; simp_all
  refine w.ss.eq_of_mem u.ss fun x => ⟨fun hx => ?_, fun hx => ?_⟩
  · obtain ⟨b, hb, e⟩ := w.spans hg u hPQ x hx
    rw [ext x b e ((hl x hx).trans (hm b hb).symm) ((w.ok x hx).del.trans (u.ok b hb).del.symm)]
    exact hb
  · obtain ⟨b, hb, e⟩ := u.spans hg w (fun p => (hPQ p).symm) x hx
    rw [ext x b e ((hm x hx).trans (hl b hb).symm) ((u.ok x hx).del.trans (w.ok b hb).del.symm)]
    exact hb
end Go.Proofs.Ytjphnabogfiahaa.Pk
