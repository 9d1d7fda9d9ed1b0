/-
  What functions of the program do, told of abstract states. Conditions: as each theorem says.
-/
import Derived.Test.YtpjfhfmbhjghcaaGreatDoorExB
namespace Go.Proofs.YtpjfhfmbhjghcaaGreatDoor.Pk
open Go Go.Proofs Go.Proofs.YtpjfhfmbhjghcaaGreatDoor.Ab
set_option linter.unusedVariables false
set_option linter.unusedSimpArgs false
theorem Cast.agg {l l2 : List V} {h h2 : AHeap} (a : CastL l h l2 h2) : Cast (.agg l) h (.agg l2) h2 := fun ρ B w0 w r' hw hv => by
  cases hv with
  | agg hs hx =>
    rename_i xs
    obtain ⟨ρ1, l1, w1, v1⟩ := a ρ B w0 w xs.toList hw ⟨by simpa using hs, by simpa using hx⟩
    exact ⟨ρ1, l1, w1, v1.arr'.agg⟩
theorem castE0 (o n : Int) (h : AHeap) : Cast (.agg [.int .i64 o, .int .i64 n, .snil]) h (.agg (encE (.mk o n []))) h := by
  rw [encE_eq]
  exact Pk.Cast.agg (CastL.skip (CastL.skip (CastL.last (Cast.nil0 h))))
theorem castE {h : AHeap} {v : V} {ks : List Ex} (o n : Int) (ho : Own h 27 3 v (ks.flatMap encE)) : ∃ h2, Cast (.agg [.int .i64 o, .int .i64 n, v]) h (.agg (encE (.mk o n ks))) h2 ∧ Keep h h2 (isId v) := by
  obtain ⟨h2, c, k⟩ := Cast.own (n := ks.length) ho (rows_len encE_len ks) (by decide)
  refine ⟨h2, ?_, k⟩
  rw [encE_eq]
  exact Pk.Cast.agg (CastL.cons (Cast.refl _ _) (CastL.cons (Cast.refl _ _) (CastL.cons c (CastL.refl _ _))))
/-- A literal of kids. -/
theorem castEl (o n : Int) (ks : List Ex) (hk : ks.length < 64) (h : AHeap) : ∃ h2, Cast (.agg [.int .i64 o, .int .i64 n, .sl h.n 0 ks.length ks.length]) (h.push (.cells (ks.flatMap encE) 27 none)) (.agg (encE (.mk o n ks))) h2 ∧ Keep h h2 none_ := by
  have ho := Own.fresh' (h := h) (e := 27) (sz := 3) (ks.flatMap encE) ks.length (rows_len encE_len ks) (by unfold unk; omega)
  obtain ⟨h2, c, k⟩ := castE o n ho
  exact ⟨h2, c, (Keep.push h _ none_).trans k fun i hi hid => by simp [isId, idOf] at hid; omega⟩
theorem KG.keep {h h' : AHeap} {M : Nat → Prop} (hg : KG h) (hk : Keep h h' M) : KG h' := by unfold KG; rw [hk.glob]; exact hg
theorem KG.or {h hs h' : AHeap} {M : Nat → Prop} (hg : KG hs) (hg2 : KG h) (hk : Keep hs h' M ∨ h' = h) : KG h' := by
  rcases hk with hk | rfl
  · exact hg.keep hk
  · exact hg2

/-! ### How many, and which operations -/
/-- All lists of kids are shorter than memory. -/
inductive OkE : Ex → Prop
  | mk (o n : Int) (l : List Ex) (hl : l.length < 2 ^ 47) (h : ∀ k ∈ l, OkE k) (ho : -2 ^ 63 ≤ o ∧ o < 2 ^ 63) (hn : -2 ^ 63 ≤ n ∧ n < 2 ^ 63) : OkE (.mk o n l)
theorem OkE.len {e : Ex} (h : OkE e) : e.ks.length < 2 ^ 47 := by cases h; assumption
theorem OkE.kid {e : Ex} (h : OkE e) : ∀ k ∈ e.ks, OkE k := by cases h; assumption
/-- What the cells of an expression that came in are. -/
def QE (l : List V) : Prop := ∃ e : Ex, OkE e ∧ l = encE e
theorem qE : ∀ l, ShQ.fitsQ QE (.cat (.int .i64) (.cat (.int .i64) (.cat (.sl (.ext 3)) .unit))) l → QE l := fun l h => by
  obtain ⟨l1, _, rfl, ⟨o, rfl, w1⟩, l2, _, rfl, ⟨n, rfl, w2⟩, l3, _, rfl, ⟨es, rfl, hn, hes⟩, rfl⟩ := h
  have : ∃ ks : List Ex, (∀ k ∈ ks, OkE k) ∧ es.length = ks.length ∧ es.flatten = ks.flatMap encE := by
    clear hn
    induction es with
    | nil => exact ⟨[], by simp, rfl, rfl⟩
    | cons a r ih =>
      obtain ⟨ks, h1, h2, h3⟩ := ih fun e he => hes e (by simp [he])
      obtain ⟨⟨k, hk, rfl⟩, _⟩ := hes a (by simp)
      refine ⟨k :: ks, fun x hx => ?_, by simp [h2], by simp [h3]⟩
      rcases List.mem_cons.1 hx with rfl | hx
      · exact hk
      · exact h1 x hx
  obtain ⟨ks, h1, h2, h3⟩ := this
  refine ⟨.mk o n ks, .mk o n ks (by omega) h1 (wf_i64 w1) (wf_i64 w2), ?_⟩
  rw [encE_eq, h2, h3]
  rfl
mutual
def szE : Ex → Nat
  | .mk _ _ l => szL l + 1
def szL : List Ex → Nat
  | [] => 0
  | k :: r => szE k + szL r
end
theorem szL_drop {l : List Ex} {i : Nat} (hi : i < l.length) : szL (l.take (i + 1)) = szL (l.take i) + szE l[i] := by
  induction l generalizing i with
  | nil => simp at hi
  | cons a r ih =>
    cases i with
    | zero => simp [szL]
    | succ i => simp only [List.take_succ_cons, szL, List.getElem_cons_succ]; rw [ih (by simpa using hi)]; omega
theorem szE_kid {e : Ex} : ∀ k ∈ e.ks, szE k < szE e := by
  obtain ⟨o, n, l⟩ := e
  have : ∀ (l : List Ex) (k : Ex), k ∈ l → szE k ≤ szL l := fun l => by
    induction l with
    | nil => intro k hk; simp at hk
    | cons a r ih =>
      intro k hk
      rcases List.mem_cons.1 hk with rfl | hk
      · simp [szL]
      · have := ih k hk; simp only [szL]; omega
  intro k hk
  have := this l k hk
  simp only [szE]; omega
theorem wrap_add (a b : Int) : IntKind.i64.wrap (IntKind.i64.wrap a + IntKind.i64.wrap b) = IntKind.i64.wrap (a + b) := by
  rw [IntKind.wrap_i64, IntKind.wrap_i64 a, IntKind.wrap_i64 b, IntKind.wrap_i64 (a + b)]; omega

mutual
def useX (op : Int) : Ex → Bool
  | .mk o _ l => o == op || useL op l
def useL (op : Int) : List Ex → Bool
  | [] => false
  | k :: r => useX op k || useL op r
end
end Go.Proofs.YtpjfhfmbhjghcaaGreatDoor.Pk
