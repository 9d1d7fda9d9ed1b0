/-
  What functions of the program do, told of abstract states. Conditions: as each theorem says.
-/
import Derived.Test.YtpmmbcifhallbaaDoorExU
import Derived.Test.YtpmmbcifhallbaaDoorAbD
namespace Go.Proofs.YtpmmbcifhallbaaDoor.Pk
open Go Go.Proofs Go.Proofs.YtpmmbcifhallbaaDoor.Ab
set_option linter.unusedVariables false
set_option linter.unusedSimpArgs false

/-! ### Vertices, and what a kind asks -/
structure Vx where
  kind : Int
  frm : List Int
  e : Ex
  n : Int
def encX (v : Vx) : List V := [.int .i64 v.kind, .imm v.frm.length (i64V v.frm)] ++ encE v.e ++ [.int .i64 v.n]
theorem encX_len (v : Vx) : (encX v).length = 6 := by simp [encX, encE_len]
theorem encX_one (v : Vx) : (encX v).all (·.one) = true := by
  have := encE_one v.e
  simp only [encX, List.all_append, this]
  rfl
theorem encX_clo (v : Vx) : CloL (encX v) :=
  ((CloL.cons (Clo.int _ _) (CloL.cons (Clo.imm (i64V_clo _)) CloL.nil)).append (encE_clo v.e)).append (CloL.cons (Clo.int _ _) CloL.nil)
theorem encX_eq (v : Vx) : encX v = [.int .i64 v.kind, .imm v.frm.length (i64V v.frm), .int .i64 v.e.op, .int .i64 v.e.num, .imm v.e.ks.length (v.e.ks.flatMap encE), .int .i64 v.n] := by
  obtain ⟨k, f, ⟨o, m, ks⟩, n⟩ := v
  simp [encX, encE_eq, Ex.op, Ex.num, Ex.ks]
def inR (x : Int) : Prop := -2 ^ 63 ≤ x ∧ x < 2 ^ 63
def OkX (v : Vx) : Prop := OkE v.e ∧ v.frm.length < 2 ^ 47 ∧ inR v.kind ∧ inR v.n ∧ ∀ f ∈ v.frm, inR f
abbrev Need := Int × Int × Int × Int
def needsR : List Need := [(0, 0, 0, 0), (0, 0, 0, 7), (1, 1, 0, 0), (1, 1, 0, 0), (1, 1, 0, 0), (1, 1, 0, 0), (1, 2, 0, 0), (1, 2, 1, 1048576), (1, 2, 1, 1048576), (2, 2, 0, 0), (1, 0, 0, 7)]
def needE (q : Need) : List V := [.int .i64 q.1, .int .i64 q.2.1, .int .i64 q.2.2.1, .int .i64 q.2.2.2]
def needsC : List V := needsR.flatMap needE
def TG (h : AHeap) : Prop := KG h ∧ h.glob 0 = some needsC
theorem TG.keep {h h' : AHeap} {M : Nat → Prop} (hg : TG h) (hk : Keep h h' M) : TG h' := ⟨hg.1.keep hk, by rw [hk.glob]; exact hg.2⟩
theorem TG.or {h hs h' : AHeap} {M : Nat → Prop} (hg : TG hs) (hg2 : TG h) (hk : Keep hs h' M ∨ h' = h) : TG h' := by
  rcases hk with hk | rfl
  · exact hg.keep hk
  · exact hg2
def exprX (e : Ex) (k : Int) : Bool := if k = 0 then (e.op == 0 && (e.num == 0 && e.ks.isEmpty)) else (mayX e && (k == 2 || !useX 5 e))
def meetsX (v : Vx) (q : Need) : Bool := decide ((v.frm.length : Int) = q.1) && (exprX v.e q.2.1 && (decide (q.2.2.1 ≤ v.n) && decide (v.n ≤ q.2.2.2)))
def hasX (v : Vx) : Bool := meetsX v (needsR.getD v.kind.toNat (0, 0, 0, 0))
def kindAt (l : List Vx) (f : Int) : Int := ((l[f.toNat]?).map Vx.kind).getD 0
def takenX (l : List Vx) (i : Nat) (v : Vx) : Bool := (v.kind == 1 || v.kind == 10) && (l.take i).any fun u => u.kind == v.kind && u.n == v.n
def chkV (l : List Vx) (i : Nat) (v : Vx) : Int :=
  if v.kind < 1 ∨ 10 < v.kind then 1 else
  if (v.frm.any fun f => decide (f < 0 ∨ (i : Int) ≤ f)) = true then 2 else
  if hasX v = false then 5 else
  if takenX l i v = true then 12 else
  if (v.frm.any fun f => kindAt l f == 10) = true then 5 else
  if v.kind = 9 ∧ kindAt l (v.frm.getD 1 0) ≠ 6 then 5 else 0
def chkF (l : List Vx) : Nat → List Vx → Int × Int
  | _, [] => (-1, 0)
  | i, v :: r => if chkV l i v = 0 then chkF l (i + 1) r else ((i : Int), chkV l i v)
def chkT (p : Int) (l : List Vx) : Int × Int := if p < 1 ∨ 8 < p ∨ l.length = 0 ∨ 24 < l.length then (-1, 2) else chkF l 0 l
def usF (v : Int) : Nat → List Vx → List Int
  | _, [] => []
  | i, u :: r => (if u.frm.contains v then [(i : Int)] else []) ++ usF v (i + 1) r
theorem usF_snoc (v : Int) (u : Vx) : ∀ (l : List Vx) (j : Nat), usF v j (l ++ [u]) = usF v j l ++ (if u.frm.contains v then [((j + l.length : Nat) : Int)] else [])
  | [], j => by simp [usF]
  | a :: r, j => by
    simp only [List.cons_append, usF, usF_snoc v u r (j + 1), List.length_cons, List.append_assoc]
    rw [show j + 1 + r.length = j + (r.length + 1) by omega]
theorem usF_mem {v k : Int} : ∀ {l : List Vx} {j : Nat}, k ∈ usF v j l ↔ ∃ (m : Nat) (u : Vx), k = ((j + m : Nat) : Int) ∧ l[m]? = some u ∧ v ∈ u.frm
  | [], j => by simp [usF]
  | a :: r, j => by
    simp only [usF, List.mem_append, usF_mem (l := r)]
    constructor
    · rintro (h | ⟨m, u, h1, h2, h3⟩)
      · split at h
        · rename_i hc
          exact ⟨0, a, by simpa using h, rfl, by simpa using hc⟩
        · simp at h
      · exact ⟨m + 1, u, by omega, by simpa using h2, h3⟩
    · rintro ⟨m, u, h1, h2, h3⟩
      cases m with
      | zero =>
        left
        simp at h2
        subst h2
        rw [if_pos (by simpa using h3)]
        simpa using h1
      | succ m => exact .inr ⟨m, u, by omega, by simpa using h2, h3⟩
theorem usF_len {v : Int} : ∀ {l : List Vx} {j : Nat}, (usF v j l).length ≤ l.length
  | [], j => by simp [usF]
  | a :: r, j => by
    have := usF_len (v := v) (l := r) (j := j + 1)
    simp only [usF, List.length_append, List.length_cons]
    split <;> simp <;> omega

/-! ### One more behind -/
theorem chkV_app {l r : List Vx} {i : Nat} {v : Vx} (hi : i ≤ l.length) : chkV (l ++ r) i v = chkV l i v := by
  unfold chkV
  split
  · rfl
  split
  · rfl
  rename_i hr
  have hin : ∀ f ∈ v.frm, kindAt (l ++ r) f = kindAt l f := by
    intro f hf
    have : 0 ≤ f ∧ f < i := by
      have h1 : (v.frm.any fun f => decide (f < 0 ∨ (i : Int) ≤ f)) = false := by simpa using hr
      rw [List.any_eq_false] at h1
      have := h1 f hf
      simp only [decide_eq_true_eq] at this
      omega
    unfold kindAt
    rw [List.getElem?_append_left (by omega)]
  have ht : takenX (l ++ r) i v = takenX l i v := by
    unfold takenX
    rw [List.take_append_of_le_length hi]
  have ha : (v.frm.any fun f => kindAt (l ++ r) f == 10) = v.frm.any fun f => kindAt l f == 10 := by
    rw [Bool.eq_iff_iff, List.any_eq_true, List.any_eq_true]
    constructor
    · rintro ⟨f, hf, h⟩; exact ⟨f, hf, by rw [← hin f hf]; exact h⟩
    · rintro ⟨f, hf, h⟩; exact ⟨f, hf, by rw [hin f hf]; exact h⟩
  rw [ht, ha]
  split
  · rfl
  split
  · rfl
  split
  · rfl
  rename_i hh _ _
  by_cases h9 : v.kind = 9
  · have hl : v.frm.length = 2 := by
      have hh' : hasX v = true := by simpa using hh
      simp only [hasX, h9, meetsX, Bool.and_eq_true, decide_eq_true_eq] at hh'
      have := hh'.1
      simp [needsR] at this
      omega
    have : kindAt (l ++ r) (v.frm.getD 1 0) = kindAt l (v.frm.getD 1 0) := hin _ (by
      rw [List.getD, List.getElem?_eq_getElem (by omega)]
      exact List.getElem_mem _)
    rw [this]
  · rw [if_neg (by simp [h9]), if_neg (by simp [h9])]
theorem chkF_app {l r : List Vx} : ∀ {a : List Vx} {i : Nat}, i + a.length ≤ l.length → chkF (l ++ r) i a = chkF l i a
  | [], i, h => rfl
  | v :: a, i, h => by
    simp only [List.length_cons] at h
    unfold chkF
    rw [chkV_app (by omega), chkF_app (by omega)]
theorem chkF_snoc {l : List Vx} {v : Vx} : ∀ {a : List Vx} {i : Nat}, chkF l i (a ++ [v]) = if (chkF l i a).2 = 0 then (if chkV l (i + a.length) v = 0 then (-1, 0) else (((i + a.length : Nat) : Int), chkV l (i + a.length) v)) else chkF l i a
  | [], i => by simp [chkF]
  | u :: a, i => by
    rw [List.cons_append, chkF, chkF]
    by_cases h : chkV l i u = 0
    · rw [if_pos h, if_pos h, chkF_snoc, List.length_cons, show i + 1 + a.length = i + (a.length + 1) by omega]
    · rw [if_neg h, if_neg h, if_neg h]
theorem chkF_ok {l : List Vx} : ∀ {a : List Vx} {i : Nat}, (chkF l i a).2 = 0 → chkF l i a = (-1, 0) ∧ ∀ k v, a[k]? = some v → chkV l (i + k) v = 0
  | [], i, h => ⟨rfl, by simp⟩
  | u :: a, i, h => by
    unfold chkF at h ⊢
    split at h
    · rename_i h0
      rw [if_pos h0]
      obtain ⟨h1, h2⟩ := chkF_ok h
      refine ⟨h1, fun k v hk => ?_⟩
      cases k with
      | zero => simp at hk; subst hk; exact h0
      | succ k => rw [show i + (k + 1) = i + 1 + k by omega]; exact h2 k v (by simpa using hk)
    · rename_i h0
      exact absurd h h0
theorem chk_snoc (l : List Vx) (v : Vx) : chkF (l ++ [v]) 0 (l ++ [v]) = if (chkF l 0 l).2 = 0 then (if chkV (l ++ [v]) l.length v = 0 then (-1, 0) else ((l.length : Int), chkV (l ++ [v]) l.length v)) else chkF l 0 l := by
  rw [chkF_snoc, chkF_app (by omega), Nat.zero_add]
end Go.Proofs.YtpmmbcifhallbaaDoor.Pk
