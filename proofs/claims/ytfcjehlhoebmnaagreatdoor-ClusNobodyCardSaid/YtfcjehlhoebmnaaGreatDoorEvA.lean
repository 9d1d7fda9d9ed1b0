/-
  An evaluator upon abstract states that the kernel can run, and why what it answers holds. Conditions: as each theorem says.
-/
import Derived.Test.YtfcjehlhoebmnaaGreatDoorAbD
namespace Go.Proofs.YtfcjehlhoebmnaaGreatDoor.Ab
noncomputable section
set_option linter.unusedVariables false

/-! ### A heap that the kernel can run on: a tree by the numbers of blocks -/
inductive Tr (α : Type) where
  | e
  | n (v : Option α) (l r : Tr α)
namespace Tr
variable {α : Type}
theorem bif_eq {α : Type} (b : Bool) (x y : α) : @Bool.rec (fun _ => α) y x b = cond b x y := by cases b <;> rfl
noncomputable def get (t : Tr α) : Nat → Option α :=
  Tr.rec (motive := fun _ => Nat → Option α) (fun _ => none) (fun v _ _ gl gr i => @Bool.rec (fun _ => Option α) (@Bool.rec (fun _ => Option α) (gl (Nat.div i 2)) (gr (Nat.sub (Nat.div i 2) 1)) (Nat.beq (Nat.mod i 2) 0)) v (Nat.beq i 0)) t
noncomputable def single (x : α) (f : Nat) : Nat → Tr α :=
  Nat.rec (motive := fun _ => Nat → Tr α) (fun _ => .n (some x) .e .e) (fun _ g i => @Bool.rec (fun _ => Tr α) (@Bool.rec (fun _ => Tr α) (.n none (g (Nat.div i 2)) .e) (.n none .e (g (Nat.sub (Nat.div i 2) 1))) (Nat.beq (Nat.mod i 2) 0)) (.n (some x) .e .e) (Nat.beq i 0)) f
noncomputable def set (x : α) (t : Tr α) : Nat → Tr α :=
  Tr.rec (motive := fun _ => Nat → Tr α) (fun i => single x i i) (fun v l r sl sr i => @Bool.rec (fun _ => Tr α) (@Bool.rec (fun _ => Tr α) (.n v (sl (Nat.div i 2)) r) (.n v l (sr (Nat.sub (Nat.div i 2) 1))) (Nat.beq (Nat.mod i 2) 0)) (.n (some x) l r) (Nat.beq i 0)) t
theorem get_nn (v : Option α) (l r : Tr α) (i : Nat) : get (.n v l r) i = cond (Nat.beq i 0) v (cond (Nat.beq (i % 2) 0) (r.get (i / 2 - 1)) (l.get (i / 2))) := by rw [← bif_eq, ← bif_eq]; rfl
theorem single_0 (x : α) (i : Nat) : single x 0 i = .n (some x) .e .e := rfl
theorem single_ss (x : α) (f i : Nat) : single x (f + 1) i = cond (Nat.beq i 0) (.n (some x) .e .e) (cond (Nat.beq (i % 2) 0) (.n none .e (single x f (i / 2 - 1))) (.n none (single x f (i / 2)) .e)) := by rw [← bif_eq, ← bif_eq]; rfl
theorem set_e (x : α) (i : Nat) : set x .e i = single x i i := rfl
theorem set_nn (x : α) (v : Option α) (l r : Tr α) (i : Nat) : set x (.n v l r) i = cond (Nat.beq i 0) (.n (some x) l r) (cond (Nat.beq (i % 2) 0) (.n v l (set x r (i / 2 - 1))) (.n v (set x l (i / 2)) r)) := by rw [← bif_eq, ← bif_eq]; rfl
theorem get_e (i : Nat) : get (.e : Tr α) i = none := rfl
theorem beq0 (i : Nat) : Nat.beq i 0 = decide (i = 0) := by
  cases i <;> simp [Nat.beq]
theorem get_n (v : Option α) (l r : Tr α) (i : Nat) : get (.n v l r) i = if i = 0 then v else if i % 2 = 0 then r.get (i / 2 - 1) else l.get (i / 2) := by
  rw [get_nn, beq0, beq0]
  by_cases h : i = 0 <;> by_cases k : i % 2 = 0 <;> simp [h, k]
theorem single_s (x : α) (f i : Nat) : single x (f + 1) i = if i = 0 then .n (some x) .e .e else if i % 2 = 0 then .n none .e (single x f (i / 2 - 1)) else .n none (single x f (i / 2)) .e := by
  rw [single_ss, beq0, beq0]
  by_cases h : i = 0 <;> by_cases k : i % 2 = 0 <;> simp [h, k]
theorem set_n (x : α) (v : Option α) (l r : Tr α) (i : Nat) : set x (.n v l r) i = if i = 0 then .n (some x) l r else if i % 2 = 0 then .n v l (set x r (i / 2 - 1)) else .n v (set x l (i / 2)) r := by
  rw [set_nn, beq0, beq0]
  by_cases h : i = 0 <;> by_cases k : i % 2 = 0 <;> simp [h, k]
theorem get_single (x : α) : ∀ (f i j : Nat), i ≤ f → (single x f i).get j = if j = i then some x else none
  | 0, i, j, h => by
    obtain rfl : i = 0 := by omega
    rw [single_0, get_n]
    by_cases hj : j = 0
    · simp [hj]
    · simp [hj, get_e]
  | f + 1, i, j, h => by
    rw [single_s]
    by_cases hi : i = 0
    · subst hi
      rw [if_pos rfl, get_n]
      by_cases hj : j = 0 <;> simp [hj, get_e]
    · rw [if_neg hi]
      by_cases hm : i % 2 = 0
      · rw [if_pos hm, get_n]
        by_cases hj : j = 0
        · rw [if_pos hj, if_neg (by omega)]
        · rw [if_neg hj]
          by_cases hk : j % 2 = 0
          · rw [if_pos hk, get_single x f _ _ (by omega)]
            by_cases he : j = i
            · rw [if_pos he, if_pos (by rw [he])]
            · rw [if_neg he, if_neg (by omega)]
          · rw [if_neg hk, get_e, if_neg (by omega)]
      · rw [if_neg hm, get_n]
        by_cases hj : j = 0
        · rw [if_pos hj, if_neg (by omega)]
        · rw [if_neg hj]
          by_cases hk : j % 2 = 0
          · rw [if_pos hk, get_e, if_neg (by omega)]
          · rw [if_neg hk, get_single x f _ _ (by omega)]
            by_cases he : j = i
            · rw [if_pos he, if_pos (by rw [he])]
            · rw [if_neg he, if_neg (by omega)]
theorem get_set (x : α) : ∀ (t : Tr α) (i j : Nat), (set x t i).get j = if j = i then some x else t.get j
  | .e, i, j => by rw [set_e, get_single x i i j (Nat.le_refl i), get_e]
  | .n v l r, i, j => by
    rw [set_n]
    by_cases hi : i = 0
    · subst hi
      rw [if_pos rfl, get_n, get_n]
      by_cases hj : j = 0 <;> simp [hj]
    · rw [if_neg hi]
      by_cases hm : i % 2 = 0
      · rw [if_pos hm, get_n, get_n]
        by_cases hj : j = 0
        · rw [if_pos hj, if_pos hj, if_neg (by omega)]
        · rw [if_neg hj, if_neg hj]
          by_cases hk : j % 2 = 0
          · rw [if_pos hk, if_pos hk, get_set x r]
            by_cases he : j = i
            · rw [if_pos he, if_pos (by rw [he])]
            · rw [if_neg he, if_neg (by omega)]
          · rw [if_neg hk, if_neg hk, if_neg (by omega)]
      · rw [if_neg hm, get_n, get_n]
        by_cases hj : j = 0
        · rw [if_pos hj, if_pos hj, if_neg (by omega)]
        · rw [if_neg hj, if_neg hj]
          by_cases hk : j % 2 = 0
          · rw [if_pos hk, if_pos hk, if_neg (by omega)]
          · rw [if_neg hk, if_neg hk, get_set x l]
            by_cases he : j = i
            · rw [if_pos he, if_pos (by rw [he])]
            · rw [if_neg he, if_neg (by omega)]
end Tr

/-- n: how many blocks; t: what they hold; b: the blocks below it are older; w: the older ones that were written. -/
structure SH where
  n : Nat
  t : Tr AObj
  b : Nat
  w : List Nat

def gl (G : List (Nat × List V)) (i : Nat) : Option (List V) := (G.find? fun p => p.1 == i).map (·.2)
def SH.obj (s : SH) (i : Nat) : AObj := match s.t.get i with | some o => o | none => .dead
def SH.a (G : List (Nat × List V)) (s : SH) : AHeap := { n := s.n, get := s.obj, glob := gl G }
abbrev Fr := Tr V
def Fr.a (f : Fr) : AFrame := fun t => match f.get t with | some v => v | none => .top
def Fr.put (f : Fr) (d : Option Tmp) (v : V) : Fr := match d with | some d => f.set v d | none => f
theorem Fr.a_put (f : Fr) (d : Option Tmp) (v : V) : (f.put d v).a = f.a.put d v := by
  funext t
  cases d with
  | none => rfl
  | some d =>
    show (match (Tr.set v f d).get t with | some v => v | none => V.top) = if t = d then v else f.a t
    rw [Tr.get_set]
    by_cases h : t = d <;> simp [h, Fr.a]

/-- What an operation leaves as it was. -/
structure Loc (h h' : AHeap) (W : List Nat) : Prop where
  n : h.n ≤ h'.n
  glob : h'.glob = h.glob
  old : ∀ j, j < h.n → j ∉ W → h'.get j = h.get j
  far : ∀ j, h'.n ≤ j → j ∉ W → h'.get j = h.get j
theorem Loc.refl (h : AHeap) (W : List Nat) : Loc h h W := ⟨Nat.le_refl _, rfl, fun _ _ _ => rfl, fun _ _ _ => rfl⟩
theorem Loc.set (h : AHeap) (i : Nat) (o : AObj) : Loc h (h.set i o) [i] :=
  ⟨Nat.le_refl _, rfl, fun j _ hj => by simp at hj; simp [AHeap.set, hj], fun j _ hj => by simp at hj; simp [AHeap.set, hj]⟩
theorem Loc.push (h : AHeap) (o : AObj) (W : List Nat) : Loc h (h.push o) W :=
  ⟨Nat.le_succ _, rfl, fun j hj _ => by simp only [AHeap.push]; rw [if_neg (by omega)], fun j hj _ => by simp only [AHeap.push] at hj ⊢; rw [if_neg (by omega)]⟩
theorem Loc.trans {a b c : AHeap} {W : List Nat} (x : Loc a b W) (y : Loc b c W) : Loc a c W :=
  ⟨Nat.le_trans x.n y.n, y.glob.trans x.glob, fun j hj hw => (y.old j (Nat.lt_of_lt_of_le hj x.n) hw).trans (x.old j hj hw), fun j hj hw => (y.far j hj hw).trans (x.far j (Nat.le_trans y.n hj) hw)⟩

/-- The new state: blocks that were written, and new ones, are read off. -/
def note (b : Nat) (w : List Nat) (i : Nat) : List Nat := cond (Nat.blt i b && !w.elem i) (i :: w) w
def newB (g : Nat → AObj) : Nat → Nat → Tr AObj → Tr AObj
  | _, 0, t => t
  | i, k + 1, t => newB g (i + 1) k (t.set (g i) i)
def sync (s : SH) (h' : AHeap) (W : List Nat) : SH :=
  { n := h'.n, t := newB h'.get s.n (h'.n - s.n) (W.foldl (fun t i => t.set (h'.get i) i) s.t), b := s.b, w := W.foldl (note s.b) s.w }
def tobj (t : Tr AObj) (i : Nat) : AObj := match t.get i with | some o => o | none => .dead
theorem tobj_set (t : Tr AObj) (o : AObj) (i j : Nat) : tobj (t.set o i) j = if j = i then o else tobj t j := by
  unfold tobj
  rw [Tr.get_set]
  by_cases h : j = i <;> simp [h]
theorem tobj_fold (g : Nat → AObj) : ∀ (W : List Nat) (t : Tr AObj) (j : Nat), tobj (W.foldl (fun t i => t.set (g i) i) t) j = if j ∈ W then g j else tobj t j
  | [], t, j => by simp
  | i :: W, t, j => by
    rw [List.foldl_cons, tobj_fold g W, tobj_set]
    by_cases h1 : j ∈ W
    · simp [h1]
    · by_cases h2 : j = i
      · subst h2; simp [h1]
      · simp [h1, h2]
theorem tobj_new (g : Nat → AObj) : ∀ (k i : Nat) (t : Tr AObj) (j : Nat), tobj (newB g i k t) j = if i ≤ j ∧ j < i + k then g j else tobj t j
  | 0, i, t, j => by rw [newB, if_neg (by omega)]
  | k + 1, i, t, j => by
    rw [newB, tobj_new g k, tobj_set]
    by_cases h1 : j = i
    · subst h1
      rw [if_neg (by omega), if_pos rfl, if_pos (by omega)]
    · rw [if_neg h1]
      by_cases h2 : i ≤ j ∧ j < i + (k + 1)
      · rw [if_pos (by omega), if_pos h2]
      · rw [if_neg (by omega), if_neg h2]
theorem sync_a (G : List (Nat × List V)) (s : SH) (h' : AHeap) (W : List Nat) (l : Loc (s.a G) h' W) : (sync s h' W).a G = h' := by
  obtain ⟨n, get, glob⟩ := h'
  have h1 : ∀ j, tobj (newB get s.n (n - s.n) (W.foldl (fun t i => t.set (get i) i) s.t)) j = get j := fun j => by
    have hn : s.n ≤ n := l.n
    rw [tobj_new, tobj_fold]
    by_cases a : s.n ≤ j ∧ j < s.n + (n - s.n)
    · rw [if_pos a]
    · rw [if_neg a]
      by_cases b : j ∈ W
      · rw [if_pos b]
      · rw [if_neg b]
        by_cases c : j < s.n
        · exact (l.old j c b).symm
        · exact (l.far j (show n ≤ j by omega) b).symm
  have h2 : glob = gl G := l.glob
  show AHeap.mk n (fun j => tobj _ j) (gl G) = _
  rw [h2]
  congr 1
  funext j
  exact h1 j

/-- From one state to a later one. -/
structure Kp (s s' : SH) : Prop where
  n : s.n ≤ s'.n
  b : s'.b = s.b
  w : ∀ j, j ∈ s.w → j ∈ s'.w
  old : ∀ j, j < s.n → j < s.b → j ∉ s'.w → s'.obj j = s.obj j
  far : ∀ j, s'.n ≤ j → s'.obj j = s.obj j
theorem Kp.refl (s : SH) : Kp s s := ⟨Nat.le_refl _, rfl, fun _ h => h, fun _ _ _ _ => rfl, fun _ _ => rfl⟩
theorem Kp.trans {a b c : SH} (x : Kp a b) (y : Kp b c) : Kp a c :=
  ⟨Nat.le_trans x.n y.n, y.b.trans x.b, fun j h => y.w j (x.w j h), fun j hn hb hw => (y.old j (Nat.lt_of_lt_of_le hn x.n) (by rw [x.b]; exact hb) hw).trans (x.old j hn hb fun h => hw (y.w j h)), fun j hj => (y.far j hj).trans (x.far j (Nat.le_trans y.n hj))⟩
theorem note_sub {b i j : Nat} {w : List Nat} (h : j ∈ w) : j ∈ note b w i := by
  unfold note
  cases (Nat.blt i b && !w.elem i)
  · exact h
  · exact List.mem_cons_of_mem _ h
theorem note_mem {b i : Nat} {w : List Nat} (h : i < b) : i ∈ note b w i := by
  unfold note
  have hb : Nat.blt i b = true := by simpa [Nat.blt] using Nat.succ_le_of_lt h
  rw [hb]
  cases he : w.elem i
  · simp
  · simpa using he
theorem notes_sub {b : Nat} : ∀ {W w : List Nat} {j : Nat}, j ∈ w → j ∈ W.foldl (note b) w
  | [], w, j, h => h
  | i :: W, w, j, h => notes_sub (W := W) (note_sub h)
theorem notes_mem {b : Nat} : ∀ {W w : List Nat} {j : Nat}, j ∈ W → j < b → j ∈ W.foldl (note b) w
  | [], w, j, h, _ => by simp at h
  | i :: W, w, j, h, hb => by
    rcases List.mem_cons.1 h with rfl | h
    · exact notes_sub (W := W) (w := note b w j) (note_mem hb)
    · exact notes_mem (W := W) h hb
def inN (W : List Nat) (n : Nat) : Bool := W.all fun i => Nat.blt i n
theorem inN_lt {W : List Nat} {n i : Nat} (h : inN W n = true) (hi : i ∈ W) : i < n := Nat.lt_of_succ_le (by simpa [Nat.blt] using List.all_eq_true.1 h i hi)
theorem sync_kp (G : List (Nat × List V)) (s : SH) (h' : AHeap) (W : List Nat) (l : Loc (s.a G) h' W) (hW : inN W s.n = true) : Kp s (sync s h' W) :=
  ⟨l.n, rfl, fun j h => notes_sub h, fun j hn hb hw => by
    have := congrFun (congrArg AHeap.get (sync_a G s h' W l)) j
    show (sync s h' W).obj j = _
    exact this.trans (l.old j hn fun h => hw (notes_mem h hb)), fun j hj => by
    have := congrFun (congrArg AHeap.get (sync_a G s h' W l)) j
    have l1 : s.n ≤ h'.n := l.n
    exact this.trans (l.far j hj fun h => by have := inN_lt hW h; have : h'.n ≤ j := hj; omega)⟩
end
end Go.Proofs.YtfcjehlhoebmnaaGreatDoor.Ab
