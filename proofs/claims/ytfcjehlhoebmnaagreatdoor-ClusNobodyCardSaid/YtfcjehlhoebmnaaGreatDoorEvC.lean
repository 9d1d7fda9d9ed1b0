/-
  An evaluator upon abstract states that the kernel can run, and why what it answers holds. Conditions: as each theorem says.
-/
import Derived.Test.YtfcjehlhoebmnaaGreatDoorEvQ
namespace Go.Proofs.YtfcjehlhoebmnaaGreatDoor.Ab
noncomputable section
open Go Go.RowKit
set_option linter.unusedVariables false

theorem WRel.weak {ρ : Ren} {B : Nat} {w0 : World} {h h2 : AHeap} {w : World} (R : WRel ρ B w0 h w) (hn : h.n ≤ h2.n) (hg : h2.glob = h.glob) (ho : ∀ i, h2.get i = h.get i ∨ h2.get i = .dead) : WRel ρ B w0 h2 w := by
  have hl : ∀ i, h2.get i ≠ .dead → h2.get i = h.get i := fun i hi => (ho i).resolve_right hi
  refine ⟨⟨fun i hi => R.heap.dom i (by omega), fun i j b c c' hi hj => ?_, fun i => ?_, R.heap.frz, fun g cs h => R.heap.glob g cs (by rw [← hg]; exact h), R.heap.base⟩, R.below⟩
  · rw [hl i hi] at hi; rw [hl j hj] at hj; exact R.heap.inj i j b c c' hi hj
  · rcases ho i with h | h
    · rw [h]; exact R.heap.obj i
    · rw [h]; exact trivial
theorem HRel.deadN {ρ : Ren} {B : Nat} {h : AHeap} {w : World} (H : HRel ρ B h w) {i : Nat} (hi : h.n ≤ i) : h.get i = .dead := by
  have h1 := H.obj i
  have h2 := H.dom i hi
  cases hg : h.get i with
  | dead => rfl
  | cells c e ex => rw [hg] at h1; obtain ⟨b, cp, arr, h3, _⟩ := h1; rw [h2] at h3; cases h3
  | map es cl => rw [hg] at h1; obtain ⟨b, cp, arr, h3, _⟩ := h1; rw [h2] at h3; cases h3
  | iter m since seen st => rw [hg] at h1; obtain ⟨b, cp, bm, cm, h3, _⟩ := h1; rw [h2] at h3; cases h3
  | pin k vs => rw [hg] at h1; obtain ⟨b, cp, arr, h3, _⟩ := h1; rw [h2] at h3; cases h3

/-! ### Rules for a run: rounds of a loop, jumps in a scope, a function by its code -/
section
variable {P : Program} {n : Nat} {Q : AExit → AFrame → AHeap → Prop}
def loopS (P : Program) (n : Nat) (c : Code) (Q : AExit → AFrame → AHeap → Prop) : Nat → AFrame → AHeap → Prop
  | 0, _, _ => False
  | m + 1, f, h => SWp P n c (andThen (loopS P n c Q m) Q) f h
theorem SWp.loopS {c : Code} (m : Nat) {f : AFrame} {h : AHeap} (hs : Ab.loopS P n c Q m f h) : SWp P n (.loop c) Q f h := by
  intro ρ B w0 a w hw hf
  have key : ∀ m f h, Ab.loopS P n c Q m f h → ∀ ρ1 : Ren, ρ.le ρ1 → ∀ a w, WRel ρ1 B w0 h w → FRel ρ1 n f a → Code.rounds P c (CPost n B w0 ρ Q) m a w := by
    intro m
    induction m with
    | zero => intro f h hI; exact hI.elim
    | succ m ih =>
      intro f h hI ρ1 hle a w hw hf
      rw [rounds_succ]
      refine wp_mono (hI ρ1 B w0 a w hw hf) fun e a' w' ⟨ρ', x, f', h', hx, hw', hf', hl, hQ⟩ => ?_
      cases x <;> cases e <;> simp only [XR] at hx
      · exact ih f' h' hQ ρ' (hle.trans hl) a' w' hw' hf'
      · exact ⟨ρ', .exit _, f', h', hx, hw', hf', hle.trans hl, hQ⟩
      · exact ⟨ρ', .goto _, f', h', hx, hw', hf', hle.trans hl, hQ⟩
      · exact ⟨ρ', .ret, f', h', trivial, hw', hf', hle.trans hl, hQ⟩
      · exact ⟨ρ', .panic, f', h', hx, hw', hf', hle.trans hl, hQ⟩
  exact wp_loop_rounds m (key m f h hs ρ (Ren.le.refl ρ) a w hw hf)
def restS (P : Program) (n l : Nat) (c : Code) (Q : AExit → AFrame → AHeap → Prop) : Nat → AFrame → AHeap → Prop
  | 0, _, _ => False
  | m + 1, f, h => SWp P n c (jumpA l (restS P n l c Q m) Q) f h
theorem SWp.scopeS {c r : Code} {l : Nat} (hl : findLabel c l = some r) (m : Nat) {f : AFrame} {h : AHeap} (hs : SWp P n c (jumpA l (restS P n l r Q m) Q) f h) : SWp P n (.scope c) Q f h := by
  intro ρ B w0 a w hw hf
  have key : ∀ m f h, restS P n l r Q m f h → ∀ ρ1 : Ren, ρ.le ρ1 → ∀ a w, WRel ρ1 B w0 h w → FRel ρ1 n f a → scopeRounds P l r (CPost n B w0 ρ Q) m a w := by
    intro m
    induction m with
    | zero => intro f h hI; exact hI.elim
    | succ m ih =>
      intro f h hI ρ1 hle a w hw hf
      refine wp_mono (hI ρ1 B w0 a w hw hf) fun e a' w' ⟨ρ', x', f', h', hx, hw', hf', hl', hQ⟩ => ?_
      cases x' <;> cases e <;> simp only [XR] at hx
      · exact ⟨ρ', .normal, f', h', trivial, hw', hf', hle.trans hl', hQ⟩
      · exact ⟨ρ', .exit _, f', h', hx, hw', hf', hle.trans hl', hQ⟩
      · obtain ⟨rfl, hy⟩ := hQ
        exact ⟨hx.symm, ih f' h' hy ρ' (hle.trans hl') a' w' hw' hf'⟩
      · exact ⟨ρ', .ret, f', h', trivial, hw', hf', hle.trans hl', hQ⟩
      · exact ⟨ρ', .panic, f', h', hx, hw', hf', hle.trans hl', hQ⟩
  refine wp_scope_rounds hl m (wp_mono (hs ρ B w0 a w hw hf) fun e a' w' ⟨ρ', x, f', h', hx, hw', hf', hl', hQ⟩ => ?_)
  cases x <;> cases e <;> simp only [XR] at hx
  · exact ⟨ρ', .normal, f', h', trivial, hw', hf', hl', hQ⟩
  · exact ⟨ρ', .exit _, f', h', hx, hw', hf', hl', hQ⟩
  · obtain ⟨rfl, hy⟩ := hQ
    exact ⟨hx.symm, key m f' h' hy ρ' hl' a' w' hw' hf'⟩
  · exact ⟨ρ', .ret, f', h', trivial, hw', hf', hl', hQ⟩
  · exact ⟨ρ', .panic, f', h', hx, hw', hf', hl', hQ⟩
theorem scope0 {c : Code} {f : AFrame} {h : AHeap} (hs : SWp P n c (fun x f h => Q x f h ∧ ∀ j, x ≠ .goto j) f h) : SWp P n (.scope c) Q f h := by
  intro ρ B w0 a w hw hf
  intro b k cs
  obtain ⟨e, a₁, w₁, ⟨ρ', x, f', h', hx, hw', hf', hl', hQ, hg⟩, harr⟩ := hs ρ B w0 a w hw hf b (.inScope c :: k) cs
  cases x <;> cases e <;> simp only [XR] at hx
  · exact ⟨.normal, a₁, w₁, ⟨ρ', .normal, f', h', trivial, hw', hf', hl', hQ⟩, .head step_scope (Steps.trans harr (.one step_inScope))⟩
  · exact ⟨.exit _, a₁, w₁, ⟨ρ', .exit _, f', h', hx, hw', hf', hl', hQ⟩, fun k' hk => .head step_scope (harr k' (by simp [exitTo, hk]))⟩
  · exact (hg _ rfl).elim
  · exact ⟨.ret, a₁, w₁, ⟨ρ', .ret, f', h', trivial, hw', hf', hl', hQ⟩, .of_steps (.one step_scope) harr⟩
  · exact ⟨.panic _, a₁, w₁, ⟨ρ', .panic, f', h', hx, hw', hf', hl', hQ⟩, .of_steps (.one step_scope) harr⟩
end
theorem SCalls.enterS {P : Program} {fid : FuncId} {fn : Func} {c : Code} (hfn : P.funcs[fid]? = some fn) (hb : fn.body = some c) {args : List V} (hlen : args.length ≤ fn.ntmps)
    {h : AHeap} {R : V → AHeap → Prop} (hq : SWp P fn.ntmps c (retA P fn R fun _ => False) (Ab.enterF args) h) : SCalls P fid args h R := by
  intro ρ B w0 w args' hw ha
  refine calls_of_wp hfn hb ?_
  have fin : ∀ (ρ' : Ren) (f : AFrame) (h' : AHeap) (a' : Act) (w' : World), Ren.le { ρ with dfr := [] } ρ' → WRel ρ' B w0 h' w' → FRel ρ' fn.ntmps f a' → (match resultsA P fn.results.toList f h' with | some r => R r h' | none => False) →
      a'.defers = [] ∧ ∃ v, (results fn a'.tmps).run P w' = .ok v w' ∧ ((∃ (ρ' : Ren) (r : V) (r' : Value) (h' : AHeap), Ending.returned v = .returned r' ∧ VRel ρ' r r' ∧ WRel ρ' B w0 h' w' ∧ ρ.le ρ' ∧ R r h') ∨
        (∃ (ρ' : Ren) (ch : List PanicEntry) (h' : AHeap), Ending.returned v = .panicked ch ∧ OneChain ch ∧ WRel ρ' B w0 h' w' ∧ ρ.le ρ' ∧ False)) := by
    intro ρ' f h' a' w' hl hw' hf' hQ
    refine ⟨hf'.defers.trans hl.dfr, ?_⟩
    cases hra : resultsA P fn.results.toList f h' with
    | none => simp [hra] at hQ
    | some r =>
    simp only [hra] at hQ
    obtain ⟨r', h1, h2⟩ := run_resultsA hw' hf' hra
    exact ⟨r', h1, .inl ⟨_, r, r', h', rfl, h2.dfr ρ.dfr, hw'.dfr ρ.dfr, hl.dfr_back, hQ⟩⟩
  refine wp_mono (hq { ρ with dfr := [] } B w0 _ w (hw.dfr []) (enter_rel (ha.dfr []) hlen rfl)) fun e a' w' ⟨ρ', x, f, h', hx, hw', hf', hl, hQ⟩ => ?_
  cases x <;> cases e <;> simp only [XR] at hx
  · exact fin ρ' f h' a' w' hl hw' hf' hQ
  · exact hQ.elim
  · exact hQ.elim
  · exact fin ρ' f h' a' w' hl hw' hf' hQ
  · exact hQ.elim

/-! ### The run -/
structure Ext (P : Program) (G : List (Nat × List V)) where
  mixed : P.follows .mixedOrders = true
  ext : FuncId → Nat
  extOk : ∀ f, (ext f = 1 → ovOk P f) ∧ (ext f = 2 → ldOk P f) ∧ (ext f = 3 → adOk P f)
  meth : TypeId → String → Option FuncId
  methOk : ∀ t s f, meth t s = some f → methOk P t s f
  isRng : FuncId → Bool
  isDfr : FuncId → Bool
  dfrOk : ∀ g, isDfr g = true → ∀ (vx vy : V) (h : AHeap) (R : AHeap → Prop), R h → SDefR P g [vx, vy] h R
  isOrc : FuncId → Bool
  orc : FuncId → List V → SH → Option (V × SH)
  orcOk : ∀ f a s r s', isOrc f = true → orc f a s = some (r, s') → Kp s s' ∧ SCalls P f a (s.a G) fun x h => x = r ∧ h = s'.a G
abbrev Res := AExit × Fr × SH
def bindR {α β : Type} : List α → (α → Option (List β)) → Option (List β)
  | [], _ => some []
  | x :: l, k => match k x with
    | some a => match bindR l k with
      | some b => some (a ++ b)
      | none => none
    | none => none
theorem bindR_mem {α β : Type} {k : α → Option (List β)} : ∀ {l : List α} {out : List β}, bindR l k = some out → ∀ x ∈ l, ∃ a, k x = some a ∧ ∀ y ∈ a, y ∈ out
  | [], _, _, x, hx => by simp at hx
  | z :: l, out, h, x, hx => by
    unfold bindR at h
    split at h
    case h_2 => cases h
    rename_i a ha
    split at h
    case h_2 => cases h
    rename_i b hb
    obtain rfl := Option.some.inj h
    rcases List.mem_cons.1 hx with rfl | hx
    · exact ⟨a, ha, fun y hy => List.mem_append.2 (.inl hy)⟩
    · obtain ⟨a2, h1, h2⟩ := bindR_mem hb x hx
      exact ⟨a2, h1, fun y hy => List.mem_append.2 (.inr (h2 y hy))⟩
theorem bindR_inv {α β : Type} {k : α → Option (List β)} : ∀ {l : List α} {out : List β}, bindR l k = some out → ∀ y ∈ out, ∃ x ∈ l, ∃ a, k x = some a ∧ y ∈ a
  | [], _, h, y, hy => by
    obtain rfl := Option.some.inj h
    simp at hy
  | z :: l, out, h, y, hy => by
    unfold bindR at h
    split at h
    case h_2 => cases h
    rename_i a ha
    split at h
    case h_2 => cases h
    rename_i b hb
    obtain rfl := Option.some.inj h
    rcases List.mem_append.1 hy with hy | hy
    · exact ⟨z, by simp, a, ha, hy⟩
    · obtain ⟨x, hx, a2, h1, h2⟩ := bindR_inv hb y hy
      exact ⟨x, by simp [hx], a2, h1, h2⟩
def bindF {α β : Type} (l : List α) (k : α → Option (List β)) : Option (List β) := match l with
  | [p] => k p
  | _ => bindR l k
theorem bindF_eq {α β : Type} (l : List α) (k : α → Option (List β)) : bindF l k = bindR l k := by
  unfold bindF
  split
  · rename_i p
    unfold bindR
    cases k p <;> simp [bindR]
  · rfl
theorem bindF_mem {α β : Type} {k : α → Option (List β)} {l : List α} {out : List β} (h : bindF l k = some out) : ∀ x ∈ l, ∃ a, k x = some a ∧ ∀ y ∈ a, y ∈ out := bindR_mem (by rw [← bindF_eq]; exact h)
theorem bindF_inv {α β : Type} {k : α → Option (List β)} {l : List α} {out : List β} (h : bindF l k = some out) : ∀ y ∈ out, ∃ x ∈ l, ∃ a, k x = some a ∧ y ∈ a := bindR_inv (by rw [← bindF_eq]; exact h)
def enterAt : Nat → List V → Fr → Fr
  | _, [], t => t
  | i, v :: l, t => enterAt (i + 1) l (t.set v i)
theorem enterAt_a : ∀ (l : List V) (i : Nat) (t : Fr) (j : Nat), (enterAt i l t).a j = if i ≤ j ∧ j < i + l.length then l.getD (j - i) .top else t.a j
  | [], i, t, j => by rw [enterAt, if_neg (by simp)]
  | v :: l, i, t, j => by
    have hs : Fr.a (Tr.set v t i) = t.a.put (some i) v := Fr.a_put t (some i) v
    rw [enterAt, enterAt_a l, hs]
    show (if _ then _ else if j = i then v else t.a j) = _
    by_cases h1 : j = i
    · subst h1
      rw [if_neg (by omega), if_pos rfl, if_pos ⟨Nat.le_refl _, by simp⟩]
      simp
    · rw [if_neg h1]
      by_cases h2 : i ≤ j ∧ j < i + (v :: l).length
      · rw [List.length_cons] at h2
        rw [if_pos (by omega), if_pos (by simp; omega), show j - i = (j - (i + 1)) + 1 by omega]
        simp
      · rw [List.length_cons] at h2
        rw [if_neg (by omega), if_neg (by simp; omega)]
theorem enter_a (l : List V) : (enterAt 0 l .e).a = enterF l := by
  funext j
  rw [enterAt_a]
  unfold enterF
  by_cases h : j < l.length
  · rw [if_pos (by omega), Nat.sub_zero]
  · rw [if_neg (by omega)]
    simp [List.getD, List.getElem?_eq_none (Nat.le_of_not_lt h), Fr.a, Tr.get]
def SH.enter (s : SH) : SH := { s with b := s.n, w := [] }
def SH.leave (s s1 : SH) : SH := { s1 with b := s.b, w := s1.w.foldl (note s.b) s.w }
theorem enter_kp {s s1 : SH} (k : Kp s.enter s1) : Kp s (s.leave s1) :=
  ⟨k.n, rfl, fun j h => notes_sub h, fun j hn hb hw => k.old j hn hn fun h => hw (notes_mem h hb), fun j hj => k.far j hj⟩
/-- Plain values that are the same. -/
def eqF : V → V → Bool
  | .int .i64 a, .int .i64 b => a == b
  | .bool a, .bool b => a == b
  | .sl i o n c, .sl j p m d => i == j && o == p && n == m && c == d
  | .ptr i o, .ptr j p => i == j && o == p
  | .snil, .snil => true
  | .pnil, .pnil => true
  | .z0, .z0 => true
  | _, _ => false
theorem eqF_eq {a b : V} (h : eqF a b = true) : a = b := by
  unfold eqF at h
  split at h <;> simp_all
def eqL : List V → List V → Bool
  | [], [] => true
  | a :: l, b :: m => eqF a b && eqL l m
  | _, _ => false
theorem eqL_eq : ∀ {a b : List V}, eqL a b = true → a = b
  | [], [], _ => rfl
  | a :: l, b :: m, h => by
    simp only [eqL, Bool.and_eq_true] at h
    rw [eqF_eq h.1, eqL_eq h.2]
  | [], _ :: _, h => by cases h
  | _ :: _, [], h => by cases h
def eqO : AObj → AObj → Bool
  | .cells c e x, .cells d f y => eqL c d && e == f && x == y
  | .dead, .dead => true
  | _, _ => false
theorem eqO_eq {a b : AObj} (h : eqO a b = true) : a = b := by
  unfold eqO at h
  split at h
  · simp only [Bool.and_eq_true, beq_iff_eq] at h
    rw [eqL_eq h.1.1, h.1.2, h.2]
  · rfl
  · cases h
/-- Of what is new only what a result names is kept. -/
def normF (s : SH) (m : Nat) (r : V) (s1 : SH) : SH := { s1 with n := m, t := (wrV r ++ s1.w).foldl (fun t i => t.set (s1.obj i) i) s.t }
def sameR (s : SH) (m : Nat) (r0 : V) (s0 : SH) (p : V × SH) : Bool := eqF p.1 r0 && Nat.ble p.2.n m && p.2.b == s0.b && p.2.w == s0.w && (wrV r0 ++ s0.w).all fun i => eqO (p.2.obj i) (s0.obj i)
def maxN (m : Nat) (l : List (V × SH)) : Nat := l.foldl (fun m p => cond (Nat.ble p.2.n m) m p.2.n) m
def joinR (s : SH) : List (V × SH) → Option (List (V × SH))
  | [] => none
  | [(r, s1)] => some [(r, s.leave s1)]
  | (r, s1) :: l => cond (Nat.ble s1.n (maxN s1.n l) && l.all (sameR s (maxN s1.n l) r s1)) (some [(r, s.leave (normF s (maxN s1.n l) r s1))]) none
theorem fold_congr {g k : Nat → AObj} : ∀ {W : List Nat} {t : Tr AObj}, (∀ i ∈ W, g i = k i) → W.foldl (fun t i => t.set (g i) i) t = W.foldl (fun t i => t.set (k i) i) t
  | [], t, _ => rfl
  | i :: W, t, h => by
    rw [List.foldl_cons, List.foldl_cons, h i (by simp)]
    exact fold_congr fun j hj => h j (by simp [hj])
theorem sameR_norm {s s0 : SH} {m : Nat} {r0 : V} {p : V × SH} (h : sameR s m r0 s0 p = true) : p.1 = r0 ∧ p.2.n ≤ m ∧ normF s m p.1 p.2 = normF s m r0 s0 := by
  obtain ⟨r, n, t, b, w⟩ := p
  obtain ⟨n0, t0, b0, w0⟩ := s0
  simp only [sameR, Bool.and_eq_true, beq_iff_eq, List.all_eq_true] at h
  obtain ⟨⟨⟨⟨h1, h2⟩, h3⟩, h4⟩, h5⟩ := h
  have h1 := eqF_eq h1
  subst h1 h3 h4
  refine ⟨rfl, Nat.le_of_ble_eq_true h2, ?_⟩
  unfold normF
  congr 1
  exact fold_congr fun i hi => eqO_eq (h5 i hi)
theorem norm_obj (s : SH) (m : Nat) (r : V) (s1 : SH) (i : Nat) : (normF s m r s1).obj i = if i ∈ wrV r ++ s1.w then s1.obj i else s.obj i := tobj_fold _ _ _ _
theorem norm_weak {s s1 : SH} {m : Nat} {r : V} (k : Kp s.enter s1) (hd : ∀ i, s.n ≤ i → s.obj i = .dead) (i : Nat) : (normF s m r s1).obj i = s1.obj i ∨ (normF s m r s1).obj i = .dead := by
  rw [norm_obj]
  by_cases h : i ∈ wrV r ++ s1.w
  · rw [if_pos h]; exact .inl rfl
  · rw [if_neg h]
    by_cases hi : i < s.n
    · exact .inl (k.old i hi hi fun hw => h (List.mem_append.2 (.inr hw))).symm
    · exact .inr (hd i (by omega))
theorem norm_kp {s s1 : SH} {m : Nat} {r : V} (hm : s1.n ≤ m) (k : Kp s.enter s1) : Kp s.enter (normF s m r s1) :=
  ⟨Nat.le_trans k.n hm, k.b, k.w, fun j hn hb hw => by
    rw [norm_obj]
    by_cases h : j ∈ wrV r ++ s1.w
    · rw [if_pos h]; exact k.old j hn hb hw
    · rw [if_neg h]; rfl, fun j hj => by
    rw [norm_obj]
    by_cases h : j ∈ wrV r ++ s1.w
    · rw [if_pos h]; exact k.far j (Nat.le_trans hm hj)
    · rw [if_neg h]; rfl⟩
end
end Go.Proofs.YtfcjehlhoebmnaaGreatDoor.Ab
