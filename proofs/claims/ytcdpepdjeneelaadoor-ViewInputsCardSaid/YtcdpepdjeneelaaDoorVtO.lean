/-
  What functions of the program do, told of abstract states. Conditions: as each theorem says.
-/
import Derived.Test.YtcdpepdjeneelaaDoorVtN
namespace Go.Proofs.YtcdpepdjeneelaaDoor.Pk
open Go Go.Proofs Go.Proofs.YtcdpepdjeneelaaDoor.Ab Go.Proofs.Vw
set_option linter.unusedVariables false
set_option linter.unusedSimpArgs false
/-! ### ViewInputs: the rows -/
def entM (x : Ent) : List V := if x.kind = 1 then entS x else entE x
theorem entM_len (x : Ent) : (entM x).length = 11 := by unfold entM; split <;> rfl
theorem entM_cast : ∀ (L : List Ent) (h : AHeap) (r : List V), (∀ x ∈ L, x.kind = 1 → bare x) → CastL (L.flatMap entM ++ r) h (L.flatMap entE ++ r) h
  | [], h, r, _ => CastL.refl _ _
  | x :: L, h, r, hx => by
    rw [List.flatMap_cons, List.flatMap_cons, List.append_assoc, List.append_assoc]
    have ih := entM_cast L h r fun y hy => hx y (by simp [hy])
    unfold entM
    split
    · rename_i hk; exact entS_cast (hx x (by simp) hk) ih
    · exact CastL.pre _ ih
/-- The entries, and the three rows of what is wanted. -/
structure IW (h h' : AHeap) (v : V) (cs : List V) (W : Nat → List LR) (ws : List V) : Prop where
  acc : Acc h h' 47 11 v cs
  arr : h'.get h.n = .cells ws 51 none
  ln : ws.length = 3
  nn : h.n < h'.n
  ne : idOf v ≠ some h.n
  own : ∀ k, k < 3 → Own h' 45 3 (ws.getD k .snil) (recL (W k))
  new : ∀ k, k < 3 → ∀ q, idOf (ws.getD k .snil) = some q → h.n < q ∧ idOf v ≠ some q
  apart : ∀ j k, j < 3 → k < 3 → j ≠ k → ∀ q, idOf (ws.getD j .snil) = some q → idOf (ws.getD k .snil) ≠ some q
theorem IW.on {h h1 h2 : AHeap} {v : V} {cs : List V} {W : Nat → List LR} {ws : List V} (w : IW h h1 v cs W ws) (k : Keep h1 h2 none_) : IW h h2 v cs W ws :=
  ⟨w.acc.on k, (k.get h.n w.nn (by simp [none_])).trans w.arr, w.ln, Nat.lt_of_lt_of_le w.nn k.n, w.ne, fun j hj => (w.own j hj).keepN k, w.new, w.apart⟩
theorem IW.appL {h h1 h2 : AHeap} {v v' : V} {cs xs : List V} {W : Nat → List LR} {ws : List V} (w : IW h h1 v cs W ws) (o : Own h2 47 11 v' (cs ++ xs)) (k : Keep h1 h2 (isId v)) (d : NewOr h1 v v') : IW h h2 v' (cs ++ xs) W ws := by
  have hid : ∀ q, q < h1.n → idOf v ≠ some q → idOf v' ≠ some q := fun q hq hh e => by
    rcases d with d | d
    · exact hh (d ▸ e)
    · have := d _ e; omega
  refine ⟨w.acc.step o k d, (k.get h.n w.nn (fun hh => w.ne hh)).trans w.arr, w.ln, Nat.lt_of_lt_of_le w.nn k.n, hid _ w.nn w.ne, fun j hj => (w.own j hj).keep k fun q hq hh => (w.new j hj q hq).2 hh, fun j hj q hq => ⟨(w.new j hj q hq).1, hid q ((w.own j hj).lt q hq) (w.new j hj q hq).2⟩, w.apart⟩
theorem getD_set {ws : List V} {k j : Nat} {v : V} (hk : k < ws.length) : (ws.set k v).getD j .snil = if j = k then v else ws.getD j .snil := by
  unfold List.getD
  rw [List.getElem?_set]
  by_cases h : k = j
  · subst h; simp [hk]
  · simp [h, Ne.symm h]
theorem IW.appW {h h1 h2 : AHeap} {v v' : V} {cs : List V} {W : Nat → List LR} {ws : List V} {k : Nat} {p : LR} (w : IW h h1 v cs W ws) (hk : k < 3) (o : Own h2 45 3 v' (recL (W k ++ [p]))) (kp : Keep h1 h2 (isId (ws.getD k .snil))) (d : NewOr h1 (ws.getD k .snil) v') :
    IW h (h2.set h.n (.cells (ws.set k v') 51 none)) v cs (fun j => if j = k then W k ++ [p] else W j) (ws.set k v') := by
  have kS : Keep h2 (h2.set h.n (.cells (ws.set k v') 51 none)) (· = h.n) := Keep.set _ _ _
  have hln := w.ln
  have n2 := kp.n
  have hnw : ∀ q, isId (ws.getD k .snil) q → q ≠ h.n := fun q hq hh => by have := (w.new k hk q hq).1; omega
  have vid : ∀ q, idOf v' = some q → idOf (ws.getD k .snil) = some q ∨ h1.n ≤ q := fun q hq => by
    rcases d with d | d
    · exact .inl (d ▸ hq)
    · exact .inr (d q hq)
  have nn := w.nn
  have a1 : Own h2 47 11 v cs := w.acc.own.keep kp fun q hq hh => (w.new k hk q hh).2 hq
  refine ⟨⟨a1.keep kS fun q hq hh => w.ne (hh ▸ hq), (w.acc.keep.trans kp fun q hq hh => by have := (w.new k hk q hh).1; omega).trans kS fun q hq hh => by omega, w.acc.new⟩, get_set_same, by rw [List.length_set]; exact hln, by rw [set_n]; omega, w.ne, fun j hj => ?_, fun j hj q hq => ?_, fun i j hi hj hij q h1q h2q => ?_⟩
  · rw [getD_set (by omega)]
    by_cases hjk : j = k
    · simp only [if_pos hjk]
      refine o.keep kS fun q hq hh => ?_
      rcases vid q hq with h3 | h3
      · exact hnw q h3 hh
      · omega
    · simp only [if_neg hjk]
      exact ((w.own j hj).keep kp fun q hq hh => w.apart j k hj hk hjk q hq hh).keep kS fun q hq hh => by have := (w.new j hj q hq).1; omega
  · rw [getD_set (by omega)] at hq
    by_cases hjk : j = k
    · simp only [if_pos hjk] at hq
      rcases vid q hq with h3 | h3
      · exact w.new k hk q h3
      · exact ⟨by omega, fun hh => by have := w.acc.own.lt q hh; omega⟩
    · simp only [if_neg hjk] at hq
      exact w.new j hj q hq
  · rw [getD_set (by omega)] at h1q h2q
    by_cases hik : i = k
    · by_cases hjk : j = k
      · exact hij (hik.trans hjk.symm)
      · simp only [if_pos hik] at h1q
        simp only [if_neg hjk] at h2q
        rcases vid q h1q with h3 | h3
        · exact w.apart k j hk hj (fun e => hjk e.symm) q h3 h2q
        · have := (w.own j hj).lt q h2q; omega
    · simp only [if_neg hik] at h1q
      by_cases hjk : j = k
      · simp only [if_pos hjk] at h2q
        rcases vid q h2q with h3 | h3
        · exact w.apart i k hi hk hik q h1q h3
        · have := (w.own i hi).lt q h1q; omega
      · simp only [if_neg hjk] at h2q
        exact w.apart i j hi hj hij q h1q h2q
theorem IW.cast {h h1 : AHeap} {v : V} {cs cs' : List V} {W W' : Nat → List LR} {ws : List V} (w : IW h h1 v cs W ws) (e : cs = cs') (hw : ∀ k, k < 3 → W k = W' k) : IW h h1 v cs' W' ws := by
  subst e
  exact ⟨w.acc, w.arr, w.ln, w.nn, w.ne, fun k hk => by rw [← hw k hk]; exact w.own k hk, w.new, w.apart⟩
end Go.Proofs.YtcdpepdjeneelaaDoor.Pk
