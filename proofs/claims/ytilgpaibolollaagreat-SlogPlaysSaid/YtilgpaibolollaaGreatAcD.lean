/-
  Abstract values and an abstract heap for Go code, related to the world; the operations on them, and the rules of code. Conditions: none.
-/
import Derived.Test.YtilgpaibolollaaGreatAcC
import Derived.Recover
import Derived.Lib.LaidTab
import Derived.OpenShut
import Derived.Shelf.SlSortCmp.InsertionK
set_option linter.unusedVariables false
set_option linter.unusedSimpArgs false
namespace Go.Proofs.YtilgpaibolollaaGreat.Ab
open Go Go.RowKit
set_option linter.unusedVariables false

/-! ### What came in, of a type that is made of itself: Q tells what its cells are -/
inductive ShQ where
  | bool | int (k : IntKind) | str | sl (s : ShQ) | unit | cat (a b : ShQ) | ext (n : Nat)
def ShQ.width : ShQ → Nat
  | .unit => 0
  | .cat a b => a.width + b.width
  | .ext n => n
  | _ => 1
section
variable {H : Type} {enc : TypeId × Value → H} {P : Program} {w : World} {base : Nat} {spare : Nat → Bool} {held : Bool} {Q : List V → Prop} {T0 : TypeId}

end
end Go.Proofs.YtilgpaibolollaaGreat.Ab

namespace Go.Proofs.YtilgpaibolollaaGreat.Ab
open Go Go.RowKit
set_option linter.unusedVariables false
set_option linter.unusedSimpArgs false

/-! ### A function with one deferred closure -/
end Go.Proofs.YtilgpaibolollaaGreat.Ab

namespace Go.Proofs.YtilgpaibolollaaGreat.Ab
set_option linter.unusedVariables false
/-! ### Blocks laid one behind the other -/
section
variable {h : AHeap} {a b c d o : AObj}
theorem get_push3a : (((h.push a).push b).push c).get h.n = a := by simp [get_push, push_n]; intro hh; omega
theorem get_push3c : (((h.push a).push b).push c).get (h.n + 1 + 1) = c := by simp [get_push, push_n]
theorem set_push3c : (((h.push a).push b).push c).set (h.n + 1 + 1) o = ((h.push a).push b).push o := by
  rw [show h.n + 1 + 1 = ((h.push a).push b).n from rfl, set_push]
end
end Go.Proofs.YtilgpaibolollaaGreat.Ab

namespace Go.Proofs.YtilgpaibolollaaGreat.Ab
open Go Go.RowKit
set_option linter.unusedVariables false
/-! ### Calls from a world that holds package-level variables -/
end Go.Proofs.YtilgpaibolollaaGreat.Ab

namespace Go.Proofs.YtilgpaibolollaaGreat.Ab
open Go Go.RowKit
set_option linter.unusedVariables false
section
variable {H : Type} {enc : TypeId × Value → H} {P : Program} {w : World} {base : Nat} {spare : Nat → Bool} {held : Bool} {Q : List V → Prop} {T0 : TypeId}
end
end Go.Proofs.YtilgpaibolollaaGreat.Ab

namespace Go.Proofs.YtilgpaibolollaaGreat.Ab
open Go Go.RowKit
set_option linter.unusedVariables false
section
variable {P : Program} {t : TypeId}
end
end Go.Proofs.YtilgpaibolollaaGreat.Ab

namespace Go.Proofs.YtilgpaibolollaaGreat.Ab
open Go Go.RowKit
set_option linter.unusedVariables false
/-! ### Values told in a weaker way -/
def WkV (v v2 : V) : Prop := ∀ ρ v', VRel ρ v v' → VRel ρ v2 v'
def WkL (l l2 : List V) : Prop := ∀ ρ l', LRel ρ l l' → LRel ρ l2 l'
theorem WkV.refl (v : V) : WkV v v := fun _ _ h => h
theorem WkL.refl (l : List V) : WkL l l := fun _ _ h => h
theorem WkL.cons {v v2 : V} {l l2 : List V} (a : WkV v v2) (b : WkL l l2) : WkL (v :: l) (v2 :: l2) := fun ρ l' h => by
  obtain ⟨v', t', rfl, h1, h2⟩ := h.uncons
  exact LRel.cons (a ρ v' h1) (b ρ t' h2)
theorem WkL.append {a a2 b b2 : List V} (ha : WkL a a2) (hl : a.length = a2.length) (hb : WkL b b2) : WkL (a ++ b) (a2 ++ b2) := fun ρ l' h => by
  have h1 := h.take a.length
  have h2 := h.drop a.length
  rw [List.take_left] at h1
  rw [List.drop_left] at h2
  have := (ha ρ _ h1).append (hb ρ _ h2)
  rwa [List.take_append_drop] at this
theorem WkV.snil : WkV .snil (.imm 0 []) := fun ρ v' h => by cases h; exact .immZ none 0 (by simp)
theorem WkV.imm {n : Nat} {cs cs2 : List V} (h : WkL cs cs2) (hl : cs.length = cs2.length) : WkV (.imm n cs) (.imm n cs2) := fun ρ v' hv => by
  cases hv with
  | imm o n cap hb hn ho hx =>
    rename_i b arr
    have hL : LRel ρ cs ((arr.toList.drop o).take cs.length) := by
      refine ⟨by simp; omega, fun k v v' h1 h2 => ?_⟩
      rw [List.getElem?_take] at h2
      split at h2
      · rw [List.getElem?_drop] at h2
        exact hx k v v' h1 (by simpa using h2)
      · cases h2
    have h2 := h ρ _ hL
    refine .imm o n cap hb hn (by omega) fun k v v' h3 h4 => ?_
    have hk : k < cs.length := by rw [hl]; exact (List.getElem?_eq_some_iff.1 h3).1
    refine h2.2 k v v' h3 ?_
    rw [List.getElem?_take, if_pos hk, List.getElem?_drop]
    simpa using h4
  | immZ a c ha =>
    have : cs2 = [] := List.eq_nil_of_length_eq_zero (by simpa using hl.symm)
    subst this
    exact .immZ a c ha
theorem WkV.cast {v v2 : V} (a : WkV v v2) (h : AHeap) : Cast v h v2 h := fun ρ B w0 w r' hw hv => ⟨ρ, Ren.le.refl ρ, hw, a ρ r' hv⟩
theorem WkV.agg {l l2 : List V} (h : WkL l l2) : WkV (.agg l) (.agg l2) := fun ρ v' hv => by
  cases hv with
  | agg hs hx => exact (h ρ _ (ARel.list ⟨hs, hx⟩)).arr'.agg
theorem WkV.tuple {l l2 : List V} (h : WkL l l2) : WkV (.tuple l) (.tuple l2) := fun ρ v' hv => by
  cases hv with
  | tuple hs hx => exact (h ρ _ (ARel.list ⟨hs, hx⟩)).arr'.tuple
end Go.Proofs.YtilgpaibolollaaGreat.Ab

namespace Go.Proofs.YtilgpaibolollaaGreat.Ab
open Go Go.RowKit
set_option linter.unusedVariables false
section
variable {P : Program} {t : TypeId} {T : SlT}
end
end Go.Proofs.YtilgpaibolollaaGreat.Ab

namespace Go.Proofs.YtilgpaibolollaaGreat.Ab
open Go Go.RowKit
set_option linter.unusedVariables false
section
variable {H : Type} {enc : TypeId × Value → H} {P : Program} {w : World} {base : Nat} {spare : Nat → Bool} {held : Bool}
end
end Go.Proofs.YtilgpaibolollaaGreat.Ab

namespace Go.Proofs.YtilgpaibolollaaGreat.Ab
open Go Go.RowKit
set_option linter.unusedVariables false
/-! ### What an idle operation reads, along a plan whose effects touch something -/
section
variable {M : Nat → Prop} {ev : Operand → V} {t s : TypeId} {x y z : Operand} {k : Nat}
theorem nne2 {n : Nat} : (n + 1 + 1 = n) = False := eq_false (by omega)
theorem nne3 {n : Nat} : (n + 1 + 1 + 1 = n) = False := eq_false (by omega)
theorem nne4 {n : Nat} : (n + 1 + 1 + 1 + 1 = n) = False := eq_false (by omega)
theorem nne1' {n : Nat} : (n = n + 1) = False := eq_false (by omega)
theorem nne2' {n : Nat} : (n = n + 1 + 1) = False := eq_false (by omega)
theorem nne3' {n : Nat} : (n = n + 1 + 1 + 1) = False := eq_false (by omega)
def mOkV (M : Nat → Prop) (v : V) : Prop := mOk M (ridV v)
theorem mOk_move : mOk M (ridOp ev (.move x)) = True := eq_true (by intro i hi; cases hi)
theorem mOk_assign : mOk M (ridOp ev (.assign x)) = True := eq_true (by intro i hi; cases hi)
theorem mOk_pick : mOk M (ridOp ev (.pick x y z)) = True := eq_true (by intro i hi; cases hi)
theorem mOk_nilCheck : mOk M (ridOp ev (.nilCheck x)) = True := eq_true (by intro i hi; cases hi)
theorem mOk_binOp {op : BinOp} : mOk M (ridOp ev (.binOp op t x y s)) = True := eq_true (by intro i hi; cases hi)
theorem mOk_fieldAddr : mOk M (ridOp ev (.fieldAddr t x k)) = True := eq_true (by intro i hi; cases hi)
theorem mOk_indexAddr : mOk M (ridOp ev (.indexAddr t x y)) = True := eq_true (by intro i hi; cases hi)
theorem mOk_load : mOk M (ridOp ev (.load t x)) = mOkV M (ev x) := rfl
theorem mOk_len {ts : Array TypeId} : mOk M (ridOp ev (.call ⟨.builtin .len, #[x], ts⟩)) = mOkV M (ev x) := rfl
theorem mOkV_ptr {i o : Nat} : mOkV M (.ptr i o) = ¬ M i := propext ⟨fun h => h i rfl, fun h j hj => by cases hj; exact h⟩
theorem mOkV_map {i : Nat} : mOkV M (.map i) = ¬ M i := propext ⟨fun h => h i rfl, fun h j hj => by cases hj; exact h⟩
theorem mOkV_at {cs : List V} : mOkV M (.at cs) = True := eq_true (by intro i hi; cases hi)
theorem mOkV_imm {n : Nat} {cs : List V} : mOkV M (.imm n cs) = True := eq_true (by intro i hi; cases hi)
end
end Go.Proofs.YtilgpaibolollaaGreat.Ab

namespace Go.Proofs.YtilgpaibolollaaGreat.Ab
open Go Go.RowKit
set_option linter.unusedVariables false
section
variable {P : Program} {d : Option Tmp} {K : Kt} {f : AFrame} {h : AHeap}
/-- A call that leaves the memory as it was; what the frame holds behind it is told anew. -/
theorem callI_pureG (R : AFrame → Prop) {fid : FuncId} {args : List V} {v : V} (hc : callable P fid = true) (hs : Pure P fid args h v) (hR : R (f.put d v)) (hk : ∀ f', R f' → @goI K f' h) : @callI P fid args h d K f :=
  callI_pure hc hs (hk _ hR)
end
end Go.Proofs.YtilgpaibolollaaGreat.Ab

namespace Go.Proofs.YtilgpaibolollaaGreat.Ab
open Go Go.RowKit
set_option linter.unusedVariables false
set_option linter.unusedSimpArgs false

/-! ### Maps whose keys are told by an encoding -/
/-- What a kind of keys asks of an encoding. -/
structure KeyEnc (P : Program) (kt : TypeId) (d : TypeDesc) {κ : Type} [DecidableEq κ] (ke : κ → V) : Prop where
  eq : ∀ a b, eqKey P kt d (ke a) (ke b) = some (decide (a = b))
  ok : ∀ b a, keyOk P b kt (ke a) = true
  bits : ∀ a, ∃ v, plainV (ke a) = some v ∧ Instr.sameBits 10000 v v = true

section
variable {P : Program} {t kt et : TypeId} {d : TypeDesc} {κ : Type} [DecidableEq κ] {ke : κ → V} {α : Type} {enc : α → V}
def mapK (ke : κ → V) (enc : α → V) (l : List (Nat × κ × α)) : List (Nat × V × V) := l.map fun e => (e.1, ke e.2.1, enc e.2.2)
/-- What a key has. -/
def kget (l : List (Nat × κ × α)) (k : κ) : Option α :=
  match l with
  | [] => none
  | e :: r => if k = e.2.1 then some e.2.2 else kget r k
/-- The entries, a key being set. -/
def kset (cl : Nat) (l : List (Nat × κ × α)) (k : κ) (a : α) : List (Nat × κ × α) :=
  match l with
  | [] => [(cl, k, a)]
  | e :: r => if k = e.2.1 then (e.1, k, a) :: r else e :: kset cl r k a
def kclk (cl : Nat) (l : List (Nat × κ × α)) (k : κ) : Nat := if (kget l k).isSome then cl else cl + 1
/-- The entries without a key. -/
def kdel (l : List (Nat × κ × α)) (k : κ) : List (Nat × κ × α) :=
  match l with
  | [] => []
  | e :: r => if k = e.2.1 then r else e :: kdel r k

/-- Where a key is, and what the three operations make of it. -/
theorem kfind (H : KeyEnc P kt d ke) (k : κ) : ∀ (l : List (Nat × κ × α)),
    (kget l k = none ∧ aFind P kt d (ke k) (mapK ke enc l) = some none ∧ (∀ cl a, kset cl l k a = l ++ [(cl, k, a)]) ∧ kdel l k = l) ∨
    (∃ j e, aFind P kt d (ke k) (mapK ke enc l) = some (some j) ∧ l[j]? = some e ∧ e.2.1 = k ∧ kget l k = some e.2.2 ∧
      (∀ cl a, mapK ke enc (kset cl l k a) = (mapK ke enc l).modify j fun e => (e.1, ke k, enc a)) ∧ mapK ke enc (kdel l k) = (mapK ke enc l).eraseIdx j)
  | [] => .inl ⟨rfl, rfl, fun _ _ => rfl, rfl⟩
  | e :: l => by
    have hf : aFind P kt d (ke k) (mapK ke enc (e :: l)) = if k = e.2.1 then some (some 0) else (aFind P kt d (ke k) (mapK ke enc l)).map fun (q : Option Nat) => q.map (· + 1) := by
      show (match eqKey P kt d (ke k) (ke e.2.1) with | some true => some (some 0) | some false => (aFind P kt d (ke k) (mapK ke enc l)).map fun (q : Option Nat) => q.map (· + 1) | none => none) = _
      rw [H.eq]
      by_cases hk : k = e.2.1
      · simp [hk]
      · simp [hk]
    by_cases hk : k = e.2.1
    · refine .inr ⟨0, e, by rw [hf, if_pos hk], rfl, hk.symm, by rw [kget, if_pos hk], fun cl a => by rw [kset, if_pos hk]; rfl, by rw [kdel, if_pos hk]; rfl⟩
    · rcases kfind H k l with ⟨h1, h2, h3, h4⟩ | ⟨j, e', h1, h2, h3, h4, h5, h6⟩
      · refine .inl ⟨by rw [kget, if_neg hk, h1], by rw [hf, if_neg hk, h2]; rfl, fun cl a => by rw [kset, if_neg hk, h3]; rfl, by rw [kdel, if_neg hk, h4]⟩
      · refine .inr ⟨j + 1, e', by rw [hf, if_neg hk, h1]; rfl, by simpa using h2, h3, by rw [kget, if_neg hk, h4], fun cl a => ?_, ?_⟩
        · rw [kset, if_neg hk]
          show (e.1, ke e.2.1, enc e.2.2) :: mapK ke enc (kset cl l k a) = _
          rw [h5]
          rfl
        · rw [kdel, if_neg hk]
          show (e.1, ke e.2.1, enc e.2.2) :: mapK ke enc (kdel l k) = _
          rw [h6]
          rfl

/-- m[k] -/
theorem lookup_k (H : KeyEnc P kt d ke) {z : Value} {h : AHeap} {i : Nat} {l : List (Nat × κ × α)} {cl : Nat} {k : κ} {ok : Bool} (hm : mapT P t = some (kt, et, d)) (hz : zeroT P et = some z) (hg : h.get i = .map (mapK ke enc l) cl) :
    aLookup P t (.map i) (ke k) ok h = some (match kget l k with | some a => (if ok then .tuple [enc a, .bool true] else enc a) | none => (if ok then .tuple [absV z, .bool false] else absV z)) := by
  unfold aLookup
  simp only [hm, hz, hg, H.ok, if_true]
  rcases kfind (enc := enc) H k l with ⟨h1, h2, _⟩ | ⟨j, e, h1, h2, h3, h4, _⟩
  · rw [h2, h1]
  · have : (mapK ke enc l)[j]? = some (e.1, ke e.2.1, enc e.2.2) := by simp [mapK, h2]
    rw [h1, h4]
    simp only [this]
    rfl
/-- m[k] = a -/
theorem update_k (H : KeyEnc P kt d ke) {h : AHeap} {i : Nat} {l : List (Nat × κ × α)} {cl : Nat} {k : κ} {a : α} {v : V} (hm : mapT P t = some (kt, et, d)) (hg : h.get i = .map (mapK ke enc l) cl) (hv : v = enc a) :
    aUpdate P t (.map i) (ke k) v h = some (h.set i (.map (mapK ke enc (kset cl l k a)) (kclk cl l k))) := by
  subst hv
  unfold aUpdate kclk
  simp only [hm, hg, H.ok, if_true]
  rcases kfind (enc := enc) H k l with ⟨h1, h2, h3, _⟩ | ⟨j, e, h1, h2, h3, h4, h5, _⟩
  · rw [h2, h1, h3]
    simp [mapK]
  · have : (mapK ke enc l)[j]? = some (e.1, ke e.2.1, enc e.2.2) := by simp [mapK, h2]
    obtain ⟨v, hv, hs⟩ := H.bits k
    rw [h1, h4]
    simp only [this, Option.bind_some, h3, hv, hs, if_true, h5]
    rfl
/-! ### The keys, the stamps, the number -/
theorem kset_has : ∀ {l : List (Nat × κ × α)} {k : κ}, (kget l k).isSome = true → ∀ (cl : Nat) (a : α), (kset cl l k a).map (fun e => (e.1, e.2.1)) = l.map (fun e => (e.1, e.2.1))
  | [], k, h, cl, a => by simp [kget] at h
  | e :: l, k, h, cl, a => by
    unfold kset
    by_cases hk : k = e.2.1
    · rw [if_pos hk]; simp [hk]
    · rw [kget, if_neg hk] at h
      rw [if_neg hk, List.map_cons, List.map_cons, kset_has h]
theorem kset_new : ∀ {l : List (Nat × κ × α)} {k : κ}, kget l k = none → ∀ (cl : Nat) (a : α), kset cl l k a = l ++ [(cl, k, a)]
  | [], k, h, cl, a => rfl
  | e :: l, k, h, cl, a => by
    unfold kset
    by_cases hk : k = e.2.1
    · rw [kget, if_pos hk] at h; cases h
    · rw [kget, if_neg hk] at h
      rw [if_neg hk, kset_new h]; rfl
theorem kget_none : ∀ {l : List (Nat × κ × α)} {k : κ}, kget l k = none ↔ ∀ e ∈ l, e.2.1 ≠ k
  | [], k => by simp [kget]
  | e :: l, k => by
    unfold kget
    by_cases hk : k = e.2.1
    · simp [hk]
    · rw [if_neg hk, kget_none]
      simp [Ne.symm hk]
theorem kget_kset : ∀ (l : List (Nat × κ × α)) (cl : Nat) (k : κ) (a : α) (x : κ), kget (kset cl l k a) x = if x = k then some a else kget l x
  | [], cl, k, a, x => by simp [kset, kget]
  | e :: l, cl, k, a, x => by
    unfold kset
    by_cases hk : k = e.2.1
    · rw [if_pos hk]
      unfold kget
      by_cases hx : x = k
      · simp [hx]
      · have : x ≠ e.2.1 := hk ▸ hx
        simp [hx, this]
    · rw [if_neg hk]
      unfold kget
      by_cases hx : x = e.2.1
      · have : x ≠ k := fun hh => hk (hh ▸ hx)
        simp [hx, Ne.symm hk]
      · rw [if_neg hx, kget_kset l cl k a x, if_neg hx]
def KNodup (l : List (Nat × κ × α)) : Prop := (l.map (·.2.1)).Nodup
omit [DecidableEq κ] in
theorem KNodup.nil : KNodup ([] : List (Nat × κ × α)) := List.nodup_nil
theorem KNodup.set {l : List (Nat × κ × α)} (hn : KNodup l) (cl : Nat) (k : κ) (a : α) : KNodup (kset cl l k a) := by
  unfold KNodup at *
  cases hg : kget l k with
  | some b =>
    have h := kset_has (l := l) (k := k) (by rw [hg]; rfl) cl a
    have h2 := congrArg (List.map Prod.snd) h
    rw [List.map_map, List.map_map] at h2
    have h3 : (kset cl l k a).map (·.2.1) = l.map (·.2.1) := h2
    rw [h3]; exact hn
  | none =>
    rw [kset_new hg, List.map_append, List.nodup_append]
    refine ⟨hn, by simp, fun x hx y hy => ?_⟩
    obtain ⟨e, he, rfl⟩ := List.mem_map.1 hx
    simp at hy
    subst hy
    exact kget_none.1 hg e he
theorem stamps_kset {l : List (Nat × κ × α)} {cl : Nat} {k : κ} {a : α} (h2 : List.map (Prod.fst ∘ fun e => (e.1, e.2.1)) (kset cl l k a) = List.map (Prod.fst ∘ fun e => (e.1, e.2.1)) l) : (mapK ke enc (kset cl l k a)).map (·.1) = (mapK ke enc l).map (·.1) := by
  unfold mapK
  rw [List.map_map, List.map_map]
  exact h2
theorem Stamps.kset {l : List (Nat × κ × α)} {cl : Nat} (hs : Stamps (mapK ke enc l) cl) (k : κ) (a : α) : Stamps (mapK ke enc (kset cl l k a)) (kclk cl l k) := by
  cases hg : kget l k with
  | none =>
    have : kclk cl l k = cl + 1 := by unfold kclk; rw [hg]; rfl
    rw [this, kset_new hg]
    have := hs.snoc (ke k) (enc a)
    simpa [mapK] using this
  | some b =>
    have : kclk cl l k = cl := by unfold kclk; rw [hg]; rfl
    rw [this]
    have h := kset_has (l := l) (k := k) (by rw [hg]; rfl) cl a
    have h2 := congrArg (List.map Prod.fst) h
    rw [List.map_map, List.map_map] at h2
    have h3 := stamps_kset (ke := ke) (enc := enc) h2
    refine ⟨fun e he => ?_, by rw [h3]; exact hs.2⟩
    have : e.1 ∈ (mapK ke enc l).map (·.1) := by rw [← h3]; exact List.mem_map.2 ⟨e, he, rfl⟩
    obtain ⟨e', he', h4⟩ := List.mem_map.1 this
    rw [← h4]; exact hs.1 e' he'
theorem klen_set (l : List (Nat × κ × α)) (cl : Nat) (k : κ) (a : α) : (kset cl l k a).length = if (kget l k).isSome then l.length else l.length + 1 := by
  cases hg : kget l k with
  | some b =>
    have h := congrArg List.length (kset_has (l := l) (k := k) (by rw [hg]; rfl) cl a)
    simpa using h
  | none => rw [kset_new hg]; simp
theorem kmem : ∀ {l : List (Nat × κ × α)}, KNodup l → ∀ {e : Nat × κ × α}, e ∈ l → kget l e.2.1 = some e.2.2
  | [], _, e, he => by cases he
  | x :: l, hn, e, he => by
    have hn' := List.nodup_cons.1 hn
    unfold kget
    rcases List.mem_cons.1 he with rfl | he'
    · rw [if_pos rfl]
    · rw [if_neg fun hh => hn'.1 (List.mem_map.2 ⟨e, he', hh⟩)]
      exact kmem hn'.2 he'
end
end Go.Proofs.YtilgpaibolollaaGreat.Ab

namespace Go.Proofs.YtilgpaibolollaaGreat.Ab
open Go Go.Sort Go.Proofs
set_option linter.unusedVariables false

/-! ### SortFunc of structs: the library's contract, told over the world, as one over an abstract heap -/
theorem Bel.grow {W w' : World} (h : Bel W.heap.size W w') : ∃ q os', w' = Sort.grow (W.drewN q) os' := by
  refine ⟨w'.drawn - W.drawn, w'.heap.extract W.heap.size w'.heap.size, ?_⟩
  obtain ⟨hos, ht, hout, hsz, hb, hd⟩ := h
  have e : w'.heap = W.heap ++ w'.heap.extract W.heap.size w'.heap.size := by
    apply Array.ext_getElem?
    intro k
    rw [Array.getElem?_append]
    by_cases hk : k < W.heap.size
    · rw [if_pos hk]; exact hb k hk
    · rw [if_neg hk, Array.getElem?_extract]
      by_cases h2 : k < w'.heap.size
      · rw [if_pos (by omega), show W.heap.size + (k - W.heap.size) = k by omega]
      · rw [if_neg (by omega), Array.getElem?_eq_none (by omega)]
  have e2 : W.drawn + (w'.drawn - W.drawn) = w'.drawn := by omega
  cases w'
  cases W
  simp only [Sort.grow, World.drewN] at *
  subst hos ht hout
  rw [← e, e2]

section
variable {ρ : Ren} {B : Nat} {w0 : World} {h : AHeap} {w : World}
theorem WRel.putVals (R : WRel ρ B w0 h w) {i b cp : Nat} {c vs : List V} {e : TypeId} {ex : Option Nat} (hg : h.get i = .cells c e ex) (hi : ρ.ren i = some (b, cp)) {d : Array Value} (hv : LRel ρ vs d.toList) (hn : vs.length ≤ c.length) :
    WRel ρ B w0 (h.set i (.cells (vs ++ c.drop vs.length) e ex)) (Sort.putRow id w b 0 d) := by
  have ho := R.heap.obj i
  rw [hg] at ho
  obtain ⟨b', cp', arr, hr, hf, hB, hw, hlen, hrel, hx⟩ := ho
  rw [hi] at hr
  cases hr
  have hlt := (Array.getElem?_eq_some_iff.1 hw).1
  have hds : d.size = vs.length := by have := hv.1; simp at this; omega
  have hheap : ∀ j, (Sort.putRow id w b 0 d).heap[j]? = if b = j then (w.heap[j]?).map (Sort.onCells (Sort.putCells id 0 d)) else w.heap[j]? := fun j => by
    show (w.heap.modify b _)[j]? = _
    rw [Array.getElem?_modify]
  refine R.setO hi (by rw [hg]; simp) (fun j hj => by rw [hheap, if_neg (Ne.symm hj)]) (by rw [Sort.size_putRow]; exact Nat.le_refl _) ⟨rfl, rfl, rfl, by rw [Sort.size_putRow]; exact Nat.le_refl _, fun j hj => by rw [hheap, if_neg (by omega)], Nat.le_refl _⟩ ?_
  have hl : (vs ++ c.drop vs.length).length = c.length := by simp; omega
  refine ⟨b, cp, Sort.putCells id 0 d arr, hi, hf, hB, by rw [hheap, if_pos rfl, hw]; rfl, by rw [hl]; simpa [Sort.putCells] using hlen, ?_, by rw [hl]; simpa [Sort.putCells] using hx⟩
  rw [hl]
  refine ⟨by simp [Sort.putCells]; omega, fun j v v' h1 h2 => ?_⟩
  rw [List.getElem?_take] at h2
  split at h2
  case isFalse => cases h2
  rename_i hj
  rw [Array.getElem?_toList] at h2
  unfold Sort.putCells at h2
  rw [Array.getElem?_mapIdx, Option.map_eq_some_iff] at h2
  obtain ⟨x, hx1, hx2⟩ := h2
  by_cases hjn : j < vs.length
  · rw [if_pos ⟨Nat.zero_le _, by omega⟩] at hx2
    subst hx2
    rw [List.getElem?_append_left hjn] at h1
    refine hv.2 j v _ h1 ?_
    rw [Array.getElem?_toList, Nat.sub_zero, Array.getElem?_eq_getElem (by omega), getElem!_pos d j (by omega)]
    rfl
  · rw [if_neg (by omega)] at hx2
    subst hx2
    rw [List.getElem?_append_right (by omega), List.getElem?_drop, show vs.length + (j - vs.length) = j by omega] at h1
    refine hrel.2 j v x h1 ?_
    rw [List.getElem?_take, if_pos hj, Array.getElem?_toList]
    exact hx1
theorem WRel.holdsV (R : WRel ρ B w0 h w) {i b cp : Nat} {c vs : List V} {e : TypeId} {ex : Option Nat} (hg : h.get i = .cells c e ex) (hi : ρ.ren i = some (b, cp)) (hc : c.take vs.length = vs) :
    ∃ d : Array Value, LRel ρ vs d.toList ∧ Sort.Holds id w b 0 d ∧ b < w.heap.size := by
  have ho := R.heap.obj i
  rw [hg] at ho
  obtain ⟨b', cp', arr, hr, hf, hB, hw, hlen, hrel, hx⟩ := ho
  rw [hi] at hr
  cases hr
  have hcl : vs.length ≤ c.length := by
    have := congrArg List.length hc
    rw [List.length_take] at this
    omega
  refine ⟨(arr.toList.take vs.length).toArray, ?_, fun j hj => ?_, (Array.getElem?_eq_some_iff.1 hw).1⟩
  · have := hrel.take vs.length
    rw [hc, List.take_take, Nat.min_eq_left hcl] at this
    simpa using this
  · simp only [List.size_toArray, List.length_take, Array.length_toList] at hj
    have hja : j < arr.size := by omega
    rw [getElem!_pos _ j (by simp; omega)]
    simp [World.cell?, World.frozen?, hw, Array.getElem?_eq_getElem hja]

/-- What is frozen stays so while a row of the call's own is sorted. -/
theorem WRel.frzSort (R : WRel ρ B w0 h w) {i b cp : Nat} (hl : h.get i ≠ .dead) (hi : ρ.ren i = some (b, cp)) {α : Type} [Inhabited α] (enc : α → List Value) (k m : Nat) (dk : Array α) (os : Array Obj) :
    ∀ b' a, ρ.frz b' = some a → (entryRen (sortWorldK enc k w b 0 m dk os)).frz b' = some a := by
  intro b' a hf
  obtain ⟨e, fz, hw⟩ := R.heap.frz b' a hf
  obtain ⟨b2, cp2, hr, hlt, _, hfb, _⟩ := R.heap.live hl
  rw [hi] at hr
  cases hr
  have hne : b ≠ b' := fun hh => by subst hh; rw [hfb] at hf; cases hf
  have hlt' := (Array.getElem?_eq_some_iff.1 hw).1
  have h1 : (sortWorldK enc k w b 0 m dk os).heap[b']? = w.heap[b']? := by
    show ((w.heap.modify b _) ++ os)[b']? = _
    rw [Array.getElem?_append, if_pos (by simpa using hlt'), Array.getElem?_modify, if_neg hne]
  exact entry_frz (h1.trans hw)
end

theorem SCalls.callsB {P : Program} {fid : FuncId} {args : List V} {v : V} {a : Value} (hc : SCalls P fid args noHeap fun r _ => r = v) (hv : flatV v = some a) {w : World}
    {args' : Array Value} (ha : LRel (entryRen w) args args'.toList) : Calls P fid args' w fun e w' => e = .returned a ∧ Bel w.heap.size w w' :=
  (hc (entryRen w) w.heap.size w w args' (entry_rel w) ha).mono fun e w' hh => by
    rcases hh with ⟨ρ', r, r', h', he, hrr, hw, _, hR⟩ | ⟨_, _, _, _, _, _, _, hE⟩
    · subst hR
      rw [flatV_eq hrr hv] at he
      exact ⟨he, hw.below⟩
    · exact hE.elim

/-- The comparator's contract, as the library's sort asks for it. -/
theorem cmp_lays {P : Program} {g : FuncId} {β : Type} {E : β → List V} {cf : β → β → Int} (hcmp : ∀ a b, SCalls P g [.agg (E a), .agg (E b)] noHeap fun r _ => r = .int .i64 (cf a b)) (hclo : ∀ x, CloL (E x))
    {ρ : Ren} {B : Nat} {w0 : World} {h : AHeap} {w : World} (R : WRel ρ B w0 h w) {i b cp : Nat} (hl : h.get i ≠ .dead) (hi : ρ.ren i = some (b, cp))
    {α : Type} [Inhabited α] (rows : α → β) (enc : α → List Value) (henc : ∀ x, LRel ρ (E (rows x)) (enc x)) (size k : Nat) : CmpLays P g #[] enc k (fun x y => cf (rows x) (rows y)) b 0 size w := by
  intro m os dk hdk x y
  have hf := R.frzSort hl hi enc k m dk os
  have va : ∀ x, VRel (entryRen (sortWorldK enc k w b 0 m dk os)) (.agg (E (rows x))) (.agg (enc x).toArray) := fun x => .agg (by simpa using (henc x).1) fun j v v' h1 h2 => by
    refine hclo (rows x) v (List.mem_of_getElem? h1) ρ _ v' ((henc x).2 j v v' h1 ?_) hf
    simpa using h2
  have hc := (hcmp (rows x) (rows y)).callsB (a := .int .i64 (cf (rows x) (rows y))) rfl (w := sortWorldK enc k w b 0 m dk os) (args' := #[.agg (enc x).toArray, .agg (enc y).toArray]) (LRel.cons (va x) (LRel.cons (va y) (LRel.nil _)))
  rw [Array.append_empty]
  exact hc.mono fun e w' hh => ⟨hh.1, hh.2.grow⟩

theorem flatK_list {α : Type} [Inhabited α] (enc : α → List Value) (k : Nat) (hk : ∀ x, (enc x).length = k) (d : Array α) : (flatK enc k d).toList = d.toList.flatMap enc := by
  have hlen : ∀ l : List α, (l.flatMap enc).length = l.length * k := fun l => by
    induction l with
    | nil => simp
    | cons x l ih => rw [List.flatMap_cons, List.length_append, hk, ih, List.length_cons, Nat.add_mul]; omega
  have hget : ∀ (l : List α) (t : Nat), t < l.length * k → (l.flatMap enc)[t]! = (enc l[t / k]!)[t % k]! := fun l => by
    induction l with
    | nil => intro t ht; simp at ht
    | cons x l ih =>
      intro t ht
      have hk0 : 0 < k := by
        rcases Nat.eq_zero_or_pos k with h0 | h0
        · subst h0; simp at ht
        · exact h0
      rw [List.flatMap_cons]
      by_cases h1 : t < k
      · rw [Nat.div_eq_of_lt h1, Nat.mod_eq_of_lt h1]
        simp [List.getElem!_eq_getElem?_getD, List.getElem?_append_left (show t < (enc x).length by rw [hk]; exact h1)]
      · obtain ⟨u, rfl⟩ : ∃ u, t = u + k := ⟨t - k, by omega⟩
        rw [List.length_cons, Nat.add_mul, Nat.one_mul] at ht
        have := ih u (by omega)
        rw [Nat.add_div_right _ hk0, Nat.add_mod_right]
        simp only [List.getElem!_eq_getElem?_getD, List.getElem?_cons_succ] at this ⊢
        rw [List.getElem?_append_right (by rw [hk]; omega), hk, Nat.add_sub_cancel]
        exact this
  apply List.ext_getElem
  · rw [hlen]; simp
  · intro t h1 h2
    have ht : t < d.size * k := by simpa using h1
    have e1 := get_flatK enc k d t ht
    have e2 := hget d.toList t (by simpa using ht)
    rw [getElem!_pos _ t (by simpa using ht)] at e1
    rw [getElem!_pos _ t h2] at e2
    rw [Array.getElem_toList, e1, e2]
    congr 2
    simp [Array.getElem!_eq_getD, List.getElem!_eq_getElem?_getD, Array.getD_eq_getD_getElem?]

/-- SortFunc of an own slice of structs: some permutation that is sorted. -/
theorem sortF_own {P : Program} {f : FuncId} {g : FuncId} {e : TypeId} {k : Nat} {β : Type} {E : β → List V} {cf : β → β → Int} (hk0 : 0 < k)
    (hk : ∀ x, (E x).length = k) (h1 : ∀ x, (E x).all (·.one) = true) (hclo : ∀ x, CloL (E x)) (hO : SWO (ltOf cf))
    (hcmp : ∀ a b, SCalls P g [.agg (E a), .agg (E b)] noHeap fun r _ => r = .int .i64 (cf a b))
    (hcall : ∀ (n : Nat) (enc : Fin (n + 1) → List Value) (hk : ∀ x, (enc x).length = k) (h1 : ∀ x, ∀ v ∈ enc x, v.oneCell' = true) (cf : Fin (n + 1) → Fin (n + 1) → Int) (hO : SWO (ltOf cf)) (blk cap : Nat) (d : Array (Fin (n + 1))) (w : World),
      CmpLays P g #[] enc k cf blk 0 d.size w → HoldsK enc k w blk 0 d → blk < w.heap.size → d.size < 4611686018427387904 →
      Calls P f #[.slice (some ⟨blk, 0, none⟩) d.size cap, .func (.func g) #[] #[]] w fun e w' => e = .returned (.tuple #[]) ∧ ∃ d' n os, PermIn 0 d.size d d' ∧ SortedIn (ltOf cf) 0 d.size d' ∧ w' = sortWorldK enc k w blk 0 n d' os)
    {h : AHeap} {v : V} {l : List β} (hnone : l = [] → SCalls P f [v, .func (.func g) [] []] h fun r h' => r = .tuple [] ∧ h' = h)
    (ho : Own h e k v (l.flatMap E)) (hl : l.length < 4611686018427387904) :
    SCalls P f [v, .func (.func g) [] []] h fun r h' => r = .tuple [] ∧ Keep h h' (isId v) ∧ ∃ l' : List β, l'.Perm l ∧ (l'.Pairwise fun a b => ltOf cf b a = false) ∧ Own h' e k v (l'.flatMap E) := by
  by_cases hl0 : l = []
  · refine (hnone hl0).mono fun r h' ⟨hr, hh⟩ => ?_
    subst hh
    exact ⟨hr, Keep.refl _ _, l, List.Perm.refl _, by rw [hl0]; exact List.Pairwise.nil, ho⟩
  have hlen := rows_len hk l
  rcases ho with ⟨_, hcs⟩ | ⟨i, len, cap, c, ex, rfl, hilt, hg, hlc, htake, hcap⟩
  · rw [hcs] at hlen
    have : 0 < l.length := List.length_pos_iff.2 hl0
    have := Nat.mul_pos this hk0
    simp at hlen
    omega
  rw [hlen] at hlc
  have hln : l.length = len := Nat.eq_of_mul_eq_mul_right hk0 hlc
  subst hln
  obtain ⟨n, hn⟩ : ∃ n, l.length = n + 1 := ⟨l.length - 1, by have := List.length_pos_iff.2 hl0; omega⟩
  intro ρ B w0 w args' R ha
  obtain ⟨v1, t1, ht1, hv1, ha1⟩ := ha.uncons
  obtain ⟨v2, t2, ht2, hv2, ha2⟩ := ha1.uncons
  have ht3 := ha2.eq_nil
  subst ht3
  have e2 : v2 = .func (.func g) #[] #[] := by
    cases hv2 with
    | func fn hs ht _ _ =>
      rename_i xs' ys' _ _
      have e1 := Array.eq_empty_of_size_eq_zero (xs := xs') hs.symm
      have e2 := Array.eq_empty_of_size_eq_zero (xs := ys') ht.symm
      rw [e1, e2]
  subst e2
  cases hv1 with
  | sl hi _ _ _ hle =>
  rename_i b cp
  have ea : args' = #[.slice (some ⟨b, 0, none⟩) l.length (capOf cp cap), .func (.func g) #[] #[]] := by
    apply Array.toList_inj.1
    rw [ht1, ht2]
  subst ea
  obtain ⟨D, hD, hH, hlt⟩ := R.holdsV hg hi (vs := l.flatMap E) (by rw [hlen]; exact htake)
  have hDs : D.size = l.length * k := by have := hD.1; simp only [Array.length_toList] at this; omega
  let rows : Fin (n + 1) → β := fun x => l[x.1]'(by omega)
  let enc : Fin (n + 1) → List Value := fun x => (D.toList.drop (x.1 * k)).take k
  have hrow : ∀ x : Fin (n + 1), ((l.flatMap E).drop (x.1 * k)).take k = E (rows x) := fun x => by
    rw [rows_drop hk, List.drop_eq_getElem_cons (show x.1 < l.length by omega), List.flatMap_cons, List.take_left' (hk _)]
  have henc : ∀ x, LRel ρ (E (rows x)) (enc x) := fun x => by
    have := (hD.drop (x.1 * k)).take k
    rwa [hrow x] at this
  have hke : ∀ x, (enc x).length = k := fun x => by rw [← (henc x).1, hk]
  have h1e : ∀ x, ∀ v ∈ enc x, v.oneCell' = true := fun x => (henc x).one (h1 _)
  let d : Array (Fin (n + 1)) := (List.finRange (n + 1)).toArray
  have hds : d.size = l.length := by simp [d, hn]
  have hflat : flatK enc k d = D := by
    apply Array.toList_inj.1
    rw [flatK_list enc k hke]
    have key : ∀ (m : Nat) (hm : m ≤ n + 1), (((List.finRange (n + 1)).take m).flatMap enc) = D.toList.take (m * k) := fun m => by
      induction m with
      | zero => intro _; simp
      | succ m ih =>
        intro hm
        rw [List.take_add_one, List.flatMap_append, ih (by omega), List.getElem?_eq_getElem (by simp; omega)]
        simp only [Option.toList_some, List.flatMap_cons, List.flatMap_nil, List.append_nil, List.getElem_finRange, enc]
        rw [Nat.add_mul, Nat.one_mul]
        simp [List.take_add]
    have := key (n + 1) (Nat.le_refl _)
    rw [List.take_of_length_le (by simp)] at this
    show (List.finRange (n + 1)).flatMap enc = _
    rw [this, List.take_of_length_le (by rw [Array.length_toList, hDs, hn]; exact Nat.le_refl _)]
  have hO2 : SWO (ltOf fun x y => cf (rows x) (rows y)) := ⟨fun x => hO.irrefl _, fun x y z => hO.trans _ _ _, fun x y z => hO.ntrans _ _ _⟩
  have hlive : h.get i ≠ .dead := by rw [hg]; simp
  have hcl := cmp_lays hcmp hclo R hlive hi rows enc henc d.size k
  have hcl2 := hcall n enc hke h1e (fun x y => cf (rows x) (rows y)) hO2 b (capOf cp cap) d w hcl (by unfold HoldsK; rw [hflat]; exact hH) hlt (by rw [hds]; exact hl)
  rw [hds] at hcl2
  refine hcl2.mono fun x w' ⟨hx, d', m, os, hp, hs, hw'⟩ => .inl ⟨ρ, .tuple [], .tuple #[], h.set i (.cells ((d'.toList.map rows).flatMap E ++ c.drop ((d'.toList.map rows).flatMap E).length) e ex), hx, .tuple rfl (by simp), ?_, Ren.le.refl ρ, rfl, ?_, d'.toList.map rows, ?_, ?_, ?_⟩
  · subst hw'
    have hd's : d'.size = l.length := by rw [hp.1, hds]
    have hlen' : ((d'.toList.map rows).flatMap E).length = l.length * k := by rw [rows_len hk]; simp [hd's]
    have hcl3 : l.length * k ≤ c.length := by
      have := congrArg List.length htake
      rw [List.length_take, hlen] at this
      omega
    have hv : LRel ρ ((d'.toList.map rows).flatMap E) (flatK enc k d').toList := by
      rw [flatK_list enc k hke]
      have : ∀ q : List (Fin (n + 1)), LRel ρ ((q.map rows).flatMap E) (q.flatMap enc) := fun q => by
        induction q with
        | nil => exact LRel.nil ρ
        | cons a q ih =>
          rw [List.map_cons, List.flatMap_cons, List.flatMap_cons]
          exact (henc a).append ih
      exact this _
    exact ((R.ahead m).putVals hg hi hv (by rw [hlen']; exact hcl3)).grow os
  · exact (Keep.set h i _).mono fun q hq => by simp [isId, idOf, hq]
  · have hd's : d'.size = l.length := by rw [hp.1, hds]
    have h3 := hp.2.2
    have e1 : d'.extract 0 l.length = d' := by rw [← hd's]; simp
    have e2 : d.extract 0 l.length = d := by rw [← hds]; simp
    rw [e1, e2] at h3
    have h4 := h3.map rows
    have e3 : d.toList.map rows = l := by
      apply List.ext_getElem
      · simp [d, hn]
      · intro j h1 h2
        simp [d, rows]
    rwa [e3] at h4
  · have hd's : d'.size = l.length := by rw [hp.1, hds]
    rw [List.pairwise_map, List.pairwise_iff_getElem]
    intro a b' ha hb hab
    have := hs a b' (Nat.zero_le _) hab (by simp at hb; omega)
    rw [getElem!_pos d' b' (by simpa using hb), getElem!_pos d' a (by simpa using ha)] at this
    simpa [ltOf] using this
  · have hd's : d'.size = l.length := by rw [hp.1, hds]
    have hlen' : ((d'.toList.map rows).flatMap E).length = l.length * k := by rw [rows_len hk]; simp [hd's]
    have hcl3 : l.length * k ≤ c.length := by
      have := congrArg List.length htake
      rw [List.length_take, hlen] at this
      omega
    refine .inr ⟨i, l.length, cap, _, ex, rfl, hilt, get_set_same, by rw [hlen'], ?_, ?_⟩
    · rw [List.take_left' hlen']
    · rcases hcap with ⟨h2, h3, h4⟩ | ⟨h2, h3⟩
      · refine .inl ⟨h2, ?_, h4⟩
        rw [List.length_append, List.length_drop, hlen']
        omega
      · exact .inr ⟨h2, h3⟩
end Go.Proofs.YtilgpaibolollaaGreat.Ab

namespace Go.Proofs.YtilgpaibolollaaGreat.Ab
open Go
set_option linter.unusedVariables false

/-! ### Maps with encoded keys, ranged over -/
section
variable {κ α : Type} {ke : κ → V} {enc : α → V}
theorem mapK_mem {l : List (Nat × κ × α)} {e : Nat × V × V} (h : e ∈ mapK ke enc l) : ∃ x ∈ l, e = (x.1, ke x.2.1, enc x.2.2) := by
  obtain ⟨x, hx, rfl⟩ := List.mem_map.1 h
  exact ⟨x, hx, rfl⟩
theorem mapK_in {l : List (Nat × κ × α)} {x : Nat × κ × α} (h : x ∈ l) : (x.1, ke x.2.1, enc x.2.2) ∈ mapK ke enc l := List.mem_map.2 ⟨x, h, rfl⟩
theorem mapK_stamps (l : List (Nat × κ × α)) : (mapK ke enc l).map (·.1) = l.map (·.1) := by
  unfold mapK
  rw [List.map_map]
  rfl
theorem kstamp_inj : ∀ {q : List (Nat × κ × α)}, (q.map (·.1)).Nodup → ∀ {x y}, x ∈ q → y ∈ q → x.1 = y.1 → x = y
  | [], _, x, y, hx, _, _ => by cases hx
  | z :: q, hq, x, y, hx, hy, e => by
    have hq' := List.nodup_cons.1 hq
    rcases List.mem_cons.1 hx with h1 | h1
    · rcases List.mem_cons.1 hy with h2 | h2
      · rw [h1, h2]
      · exact absurd (List.mem_map.2 ⟨y, h2, by rw [← e, h1]⟩) hq'.1
    · rcases List.mem_cons.1 hy with h2 | h2
      · exact absurd (List.mem_map.2 ⟨x, h1, by rw [e, h2]⟩) hq'.1
      · exact kstamp_inj hq'.2 h1 h2 e
/-- What was visited is all, in some order. -/
theorem kvis_perm {l vis : List (Nat × κ × α)} (hn : (l.map (·.1)).Nodup) (hv : (vis.map (·.1)).Nodup) (h1 : ∀ e ∈ vis, e ∈ l) (h2 : ∀ e ∈ l, e.1 ∈ vis.map (·.1)) : vis.Perm l := by
  have nl : l.Nodup := (List.pairwise_map.1 hn).imp fun h e => h (by rw [e])
  have nv : vis.Nodup := (List.pairwise_map.1 hv).imp fun h e => h (by rw [e])
  rw [List.perm_ext_iff_of_nodup nv nl]
  intro a
  refine ⟨h1 a, fun ha => ?_⟩
  obtain ⟨b, hb, hab⟩ := List.mem_map.1 (h2 a ha)
  have hbl := h1 b hb
  rw [← kstamp_inj hn hbl ha hab]; exact hb
theorem kvis_all {l vis : List (Nat × κ × α)} (hleft : remOf (mapK ke enc l) (vis.map (·.1)) = []) : ∀ e ∈ l, e.1 ∈ vis.map (·.1) := fun e he => by
  apply Classical.byContradiction
  intro hns
  have : (e.1, ke e.2.1, enc e.2.2) ∈ remOf (mapK ke enc l) (vis.map (·.1)) := by
    unfold remOf
    exact List.mem_filter.2 ⟨mapK_in he, by simpa using hns⟩
  rw [hleft] at this
  simp at this
/-- The next one to visit. -/
theorem kvis_next {l vis : List (Nat × κ × α)} {e : Nat × V × V} (he : e ∈ remOf (mapK ke enc l) (vis.map (·.1))) : ∃ x ∈ l, e = (x.1, ke x.2.1, enc x.2.2) ∧ x.1 ∉ vis.map (·.1) := by
  obtain ⟨h1, h2⟩ := List.mem_filter.1 he
  obtain ⟨x, hx, rfl⟩ := mapK_mem h1
  exact ⟨x, hx, rfl, by simpa using h2⟩
theorem kvis_snoc {l vis : List (Nat × κ × α)} {x : Nat × κ × α} (hvn : (vis.map (·.1)).Nodup) (hvl : ∀ e ∈ vis, e ∈ l) (hx : x ∈ l) (hxn : x.1 ∉ vis.map (·.1)) :
    ((vis ++ [x]).map (·.1)).Nodup ∧ (∀ e ∈ vis ++ [x], e ∈ l) ∧ vis.length < l.length := by
  have n1 : ((vis ++ [x]).map (·.1)).Nodup := by
    rw [List.map_append, List.nodup_append]
    exact ⟨hvn, by simp, fun a ha b hb => by simp at hb; subst hb; exact fun hh => hxn (hh ▸ ha)⟩
  have n2 : ∀ e ∈ vis ++ [x], e ∈ l := fun e he => by
    rcases List.mem_append.1 he with h | h
    · exact hvl e h
    · simp at h; subst h; exact hx
  have n3 : (vis ++ [x]).Nodup := (List.pairwise_map.1 n1).imp fun h e => h (by rw [e])
  have := n3.length_le_of_subset n2
  rw [List.length_append] at this
  simp at this
  exact ⟨n1, n2, by omega⟩
theorem kget_mem {κ α : Type} [DecidableEq κ] : ∀ {l : List (Nat × κ × α)} {k : κ} {v : α}, kget l k = some v → ∃ e ∈ l, e.2 = (k, v)
  | [], k, v, h => by simp [kget] at h
  | e :: l, k, v, h => by
    unfold kget at h
    split at h
    · rename_i hk
      exact ⟨e, by simp, Prod.ext hk.symm (Option.some.inj h)⟩
    · obtain ⟨x, hx, he⟩ := kget_mem h
      exact ⟨x, List.mem_cons_of_mem _ hx, he⟩
end
theorem Acc.set {h0 h : AHeap} {e : TypeId} {sz : Nat} {v : V} {cs : List V} (a : Acc h0 h e sz v cs) {i : Nat} (hi : h0.n ≤ i) (hv : idOf v ≠ some i) (o : AObj) : Acc h0 (h.set i o) e sz v cs :=
  ⟨a.own.keep (Keep.set _ _ _) fun k hk he => hv (by rw [hk, he]), a.keep.setNew hi o, a.new⟩
end Go.Proofs.YtilgpaibolollaaGreat.Ab

namespace Go.Proofs.YtilgpaibolollaaGreat.Ab
open Go
set_option linter.unusedVariables false
/-! ### An empty slice: nil, or not -/
theorem VRel.imm0 {ρ : Ren} {v' : Value} (h : VRel ρ (.imm 0 []) v') : VRel ρ .snil v' ∨ VRel ρ .e0 v' := by
  rcases h.imm_inv with ⟨_, _, a, ca, ha, rfl⟩ | ⟨b, o, cap, arr, hb, hn, ho, hx, rfl⟩
  · cases a with
    | none => rw [ha rfl]; exact .inl .snil
    | some a => exact .inr (.e0 a ca)
  · exact .inr (.e0 _ _)
theorem SCallsE.imm0 {P : Program} {f : FuncId} {rest : List V} {h : AHeap} {R : V → AHeap → Prop} {E : AHeap → Prop} (h1 : SCallsE P f (.snil :: rest) h R E) (h2 : SCallsE P f (.e0 :: rest) h R E) : SCallsE P f (.imm 0 [] :: rest) h R E := by
  intro ρ B w0 w args' hw ha
  obtain ⟨v', t, ht, hv, hr⟩ := ha.uncons
  rcases hv.imm0 with hv | hv
  · exact h1 ρ B w0 w args' hw (by rw [ht]; exact LRel.cons hv hr)
  · exact h2 ρ B w0 w args' hw (by rw [ht]; exact LRel.cons hv hr)
theorem SCalls.imm0 {P : Program} {f : FuncId} {rest : List V} {h : AHeap} {R : V → AHeap → Prop} (h1 : SCalls P f (.snil :: rest) h R) (h2 : SCalls P f (.e0 :: rest) h R) : SCalls P f (.imm 0 [] :: rest) h R := SCallsE.imm0 h1 h2
theorem Cast.snil0 (h : AHeap) : Cast .snil h (.imm 0 []) h := fun ρ B w0 w r' hw hv => ⟨ρ, Ren.le.refl ρ, hw, by cases hv; exact .immZ none 0 fun _ => rfl⟩
theorem Cast.e0 (h : AHeap) : Cast .e0 h (.imm 0 []) h := fun ρ B w0 w r' hw hv => ⟨ρ, Ren.le.refl ρ, hw, by cases hv; exact .immZ _ _ fun e => by cases e⟩
theorem castAgg {l l2 : List V} {h h2 : AHeap} (a : CastL l h l2 h2) : Cast (.agg l) h (.agg l2) h2 := fun ρ B w0 w r' hw hv => by
  cases hv with
  | agg hs hx =>
    obtain ⟨ρ1, l1, w1, v1⟩ := a ρ B w0 w _ hw (ARel.list ⟨hs, hx⟩)
    exact ⟨ρ1, l1, w1, v1.arr'.agg⟩
section
variable {P : Program} {t : TypeId} {xo yo : Operand}
theorem e0_nil_eql (h : kindT P t = some 1) : aBin P .eql t xo yo .e0 .snil = some (.bool false) := aBin_nil_eql h (.inl rfl) (.inr ⟨rfl, rfl⟩)
theorem imm_nil_eql {n : Nat} {cs : List V} (h : kindT P t = some 1) (hn : n ≠ 0) : aBin P .eql t xo yo (.imm n cs) .snil = some (.bool false) := aBin_nil_eql h (.inl rfl) (.inr ⟨by simp [refKind, hn], rfl⟩)
theorem nilEq_run1 (h : kindT P t = some 1) : pureRun P (Op.equal t (.slice none 0 0) (.slice none 0 0)) = some true := by
  obtain ⟨d, hu, hd⟩ := kindT_eq h
  unfold Op.equal Op.maxDepth Op.equalIn
  rw [pureRun_bind, pureRun_underlying hu]
  cases d <;> simp [descKind] at hd
  rfl
theorem snil_nil_eql (h : kindT P t = some 1) : aBin P .eql t xo yo .snil .snil = some (.bool true) := by
  refine aBin_flat (v := .bool true) rfl rfl rfl ?_
  show pureRun P (do pure (Value.bool (← Op.equal t (.slice none 0 0) (.slice none 0 0)))) = _
  rw [pureRun_bind, nilEq_run1 h]
  rfl
theorem e0_src {h : AHeap} {sz : Nat} (hk : kindT P t = some 1) : aSrc P sz t .e0 h = some (0, []) := by
  obtain ⟨d, hd, hk'⟩ : ∃ d, P.underlying t = some d ∧ descKind d = some 1 := by
    unfold kindT at hk
    cases hu : P.underlying t with
    | none => rw [hu] at hk; cases hk
    | some d => rw [hu] at hk; exact ⟨d, rfl, hk⟩
  cases d <;> simp [descKind] at hk'
  simp only [aSrc, hd]
end
end Go.Proofs.YtilgpaibolollaaGreat.Ab
namespace Go.Proofs.YtilgpaibolollaaGreat.Ab
open Go
/-! ### Maps whose keys are integers -/
theorem KeyEnc.ofInt {P : Program} {t kt et : TypeId} {kk : IntKind} (hm : mapT P t = some (kt, et, .int kk)) : KeyEnc P kt (.int kk) (V.int kk) where
  eq a b := by rw [eqKey_int rfl]; rfl
  ok b a := checkKey_int (mapT_eq hm).2 rfl
  bits a := ⟨_, rfl, by simp [Instr.sameBits]⟩
end Go.Proofs.YtilgpaibolollaaGreat.Ab
namespace Go.Proofs.YtilgpaibolollaaGreat.Ab
section
variable {M : Nat → Prop} {ev : Operand → V} {t : TypeId} {m k : Operand} {b : Bool}
theorem mOk_lookup : mOk M (ridOp ev (.lookup t m k b)) = mOkV M (ev m) := rfl
end
end Go.Proofs.YtilgpaibolollaaGreat.Ab

namespace Go.Proofs.YtilgpaibolollaaGreat.Ab
open Go Go.RowKit
set_option linter.unusedVariables false
/-! ### What lies in a block, told otherwise -/
/-- What a block holds is told otherwise, where it lies. -/
theorem Cast.cellC {h h1 : AHeap} {X : Nat} {c c2 : List V} {e : TypeId} {ex : Option Nat} (hg : h.get X = .cells c e ex) (hcl : CastL c h c2 h1) (hg1 : h1.get X = .cells c e ex) (hle : c2.length = c.length) (r : V) :
    Cast r h r (h1.set X (.cells c2 e ex)) := fun ρ B w0 w r' hw hv => by
  have ho := hw.heap.obj X
  rw [hg] at ho
  obtain ⟨b, cp, arr, hr, hf, hB, hW, hc, hl, hx⟩ := ho
  obtain ⟨ρ1, le1, hw1, hl1⟩ := hcl ρ B w0 w _ hw hl
  have ho1 := hw1.heap.obj X
  rw [hg1] at ho1
  obtain ⟨b1, cp1, arr1, hr1, hf1, hB1, hW1, hc1, hl2, hx1⟩ := ho1
  have e1 := le1.ren _ _ hr
  rw [hr1] at e1
  simp only [Option.some.injEq, Prod.mk.injEq] at e1
  obtain ⟨rfl, rfl⟩ := e1
  rw [hW1] at hW
  simp only [Option.some.injEq, Obj.cells.injEq] at hW
  obtain ⟨rfl, -, -⟩ := hW
  have sg : ∀ j, j ≠ X → (h1.set X (.cells c2 e ex)).get j = h1.get j := fun j hj => by simp [AHeap.set, hj]
  have sx : (h1.set X (.cells c2 e ex)).get X = .cells c2 e ex := by simp [AHeap.set]
  have live : ∀ j, (h1.set X (.cells c2 e ex)).get j ≠ .dead → h1.get j ≠ .dead := fun j hj => by
    by_cases hjX : j = X
    · subst hjX; rw [hg1]; intro q; cases q
    · rwa [sg j hjX] at hj
  refine ⟨ρ1, le1, ⟨⟨hw1.heap.dom, fun i j b c c' hi hj h2 h3 => hw1.heap.inj i j b c c' (live i hi) (live j hj) h2 h3, fun j => ?_, hw1.heap.frz, hw1.heap.glob, hw1.heap.base⟩, hw1.below⟩, hv.mono le1⟩
  by_cases hj : j = X
  · subst hj
    rw [sx]
    rw [← hle] at hl1
    exact ⟨_, _, _, hr1, hf1, hB1, hW1, by rw [hle]; exact hc1, hl1, by rw [hle]; exact hx1⟩
  · rw [sg j hj]; exact hw1.heap.obj j
/-- After a call, what a block holds is told otherwise. -/
theorem Pure.cellC {P : Program} {f : FuncId} {args : List V} {h h1 : AHeap} {v : V} (hp : Pure P f args h v) {X : Nat} {c c2 : List V} {e : TypeId} {ex : Option Nat} (hg : h.get X = .cells c e ex) (hcl : CastL c h c2 h1) (hg1 : h1.get X = .cells c e ex) (hle : c2.length = c.length) :
    SCalls P f args h (fun r h' => r = v ∧ h' = h1.set X (.cells c2 e ex)) :=
  SCalls.cast (hp.mono fun r h' ⟨e1, e2⟩ => ⟨v, _, by subst e1; subst e2; exact Cast.cellC hg hcl hg1 hle _, rfl, rfl⟩)
end Go.Proofs.YtilgpaibolollaaGreat.Ab
namespace Go.Proofs.YtilgpaibolollaaGreat.Ab
open Go Go.RowKit
section
variable {P : Program} {h : AHeap} {s : TypeId}
end
end Go.Proofs.YtilgpaibolollaaGreat.Ab
namespace Go.Proofs.YtilgpaibolollaaGreat.Ab
open Go Go.RowKit
/-! ### A slice of slices: what was appended last is told otherwise -/
end Go.Proofs.YtilgpaibolollaaGreat.Ab

namespace Go.Proofs.YtilgpaibolollaaGreat.Ab
open Go Go.RowKit
set_option linter.unusedVariables false
set_option linter.unusedSimpArgs false
/-! ### m[k] op= v -/
section
variable {P : Program} {t kt et : TypeId} {d : TypeDesc} {κ : Type} [DecidableEq κ] {ke : κ → V} {α : Type} {enc : α → V}
end
end Go.Proofs.YtilgpaibolollaaGreat.Ab

namespace Go.Proofs.YtilgpaibolollaaGreat.Ab
open Go Go.RowKit
set_option maxRecDepth 10000
def bWUp := PLift.up (And.intro (And.intro (And.intro (And.intro (And.intro (And.intro (And.intro (And.intro @wpA_skip @wpA_region) (And.intro @wpA_seq @wpA_cond)) (And.intro (And.intro @wpA_block @wpA_exit) @wpA_goto)) (And.intro (And.intro (And.intro @wpA_label @wpA_ret) @wpA_loop) (And.intro (And.intro @wpA_scope @wpA_draw) @condI_true))) (And.intro (And.intro (And.intro (And.intro @condI_false @seqQ_normal) (And.intro @seqQ_exit @seqQ_goto)) (And.intro (And.intro @seqQ_ret @blkQ_normal) @blkQ_exit)) (And.intro (And.intro (And.intro @blkQ_ret @endI_mk) @goE) (And.intro (And.intro @andThen_normal @andThen_exit) @andThen_ret)))) (And.intro (And.intro (And.intro (And.intro (And.intro @goI_out @goI_ops) (And.intro @goI_mk @opsA_nil)) (And.intro (And.intro @opsA_cons @opsA_guardS) @gvI_same)) (And.intro (And.intro (And.intro @gvI_tf @gvI_ft) @gvI_u) (And.intro (And.intro @slotAt_zero @slotAt_succ) @stepA_move))) (And.intro (And.intro (And.intro (And.intro @stepA_assign @stepA_pick) (And.intro @stepA_alloc @stepA_box)) (And.intro (And.intro @stepA_build @stepA_buildSlice) @stepA_load)) (And.intro (And.intro (And.intro @stepA_store @stepA_nilCheck) @stepA_binOp) (And.intro (And.intro @stepA_unOp @stepA_convert) @stepA_makeMap))))) (And.intro (And.intro (And.intro (And.intro (And.intro (And.intro @stepA_makeSlice @stepA_slice) (And.intro @stepA_fieldAddr @stepA_indexAddr)) (And.intro (And.intro @stepA_index @stepA_lookup) @stepA_mapUpdate)) (And.intro (And.intro (And.intro @stepA_range @stepA_next) @stepA_entry) (And.intro (And.intro @stepA_extract @stepA_makeInterface) @stepA_makeFunc))) (And.intro (And.intro (And.intro (And.intro @stepA_len @stepA_append) (And.intro @stepA_copy @stepA_clear)) (And.intro (And.intro @stepA_min @stepA_max) @stepA_call)) (And.intro (And.intro (And.intro @stepA_callv @stepA_inv) @callvI_func) (And.intro (And.intro @ifcV_false @thenV_some) @thenC_some)))) (And.intro (And.intro (And.intro (And.intro (And.intro @thenH_some @thenS_some) (And.intro @pickV_true @pickV_false)) (And.intro (And.intro @nilV_ptr @extV_zero) @extV_succ)) (And.intro (And.intro (And.intro @eval_tmp @eval_const) @eval_func) (And.intro (And.intro @put_some @put_none) @enterF_zero))) (And.intro (And.intro (And.intro (And.intro @enterF_succ @aBin_add) @aBin_sub) (And.intro (And.intro @aBin_mul @aBin_eql) @aBin_neq)) (And.intro (And.intro (And.intro @aBin_lss @aBin_leq) @aBin_gtr) (And.intro (And.intro @aBin_geq @aBin_and) @aBin_or)))))) (And.intro (And.intro (And.intro (And.intro (And.intro (And.intro (And.intro @aBin_xor @aBin_andNot) (And.intro @aUn_not @aBin_bool_neq)) (And.intro (And.intro @aBin_str_eql @aBin_str_neq) @aConv_int)) (And.intro (And.intro (And.intro @mmV_min @mmV_max) @ptr_nil_eql) (And.intro (And.intro @ptr_nil_neq @nil_nil_eql) @absV_int))) (And.intro (And.intro (And.intro (And.intro @absV_bool @absV_str) (And.intro @absV_pnil @absV_snil)) (And.intro (And.intro @cells_int @cells_bool) @cells_ptr)) (And.intro (And.intro (And.intro @cells_imm @cells_map) @cells_iface) (And.intro (And.intro @cells_agg @one_int) @one_bool)))) (And.intro (And.intro (And.intro (And.intro (And.intro @one_snil @one_imm) (And.intro @all_nil @all_cons)) (And.intro (And.intro @aField_eq @fieldGo_ptr) @fieldGo_at)) (And.intro (And.intro (And.intro @aLoad_eq @loadGo_one) @loadGo_row) (And.intro (And.intro @aPlace_ptr @aPlace_at) @dropC_cells))) (And.intro (And.intro (And.intro (And.intro @aStore_eq @storeGo_ptr) (And.intro @setC_row @setAll_nil)) (And.intro (And.intro @setAll_cons @aAlloc_eq) @aBox_eq)) (And.intro (And.intro (And.intro @aLen_imm @makeMap_nil) @aBuild_go) (And.intro (And.intro @aFill_nil @aFill_cons) @fillGo_some))))) (And.intro (And.intro (And.intro (And.intro (And.intro (And.intro @buildGo_struct @push_n) (And.intro @set_n @get_push_new)) (And.intro (And.intro @get_set_same @set_set) @set_push)) (And.intro (And.intro (And.intro @get_push2 @get_push2') @set_push2) (And.intro (And.intro @set_push2' @get_push3a) @get_push3c))) (And.intro (And.intro (And.intro (And.intro @set_push3c @List.getElem?_cons_zero.{0}) (And.intro @List.getElem?_cons_succ.{0} @bne_self_eq_false.{0})) (And.intro (And.intro @beq_self_eq_true.{0} @Option.some.injEq.{0}) @Bool.false_eq_true)) (And.intro (And.intro (And.intro @decide_true @decide_false) @List.map_cons.{0,0}) (And.intro (And.intro @List.map_nil.{0,0} @Option.map_some.{0,0}) @Option.map_none.{0,0})))) (And.intro (And.intro (And.intro (And.intro (And.intro @Nat.add_zero @Nat.zero_add) (And.intro @Nat.zero_le @List.length_cons.{0})) (And.intro (And.intro @List.length_nil.{0} @List.drop_zero.{0}) @List.drop_succ_cons.{0})) (And.intro (And.intro (And.intro @List.take_succ_cons.{0} @List.take_zero.{0}) @List.take_nil.{0}) (And.intro (And.intro @List.set_cons_zero.{0} @List.set_cons_succ.{0}) @List.nil_append.{0}))) (And.intro (And.intro (And.intro (And.intro @List.append_nil.{0} @List.cons_append.{0}) @and_true) (And.intro (And.intro @true_and @and_self) @if_true.{1})) (And.intro (And.intro (And.intro @if_false.{1} @Bool.true_and) @Bool.and_self) (And.intro (And.intro @Bool.not_true @Bool.not_false) @Nat.le_refl)))))))
theorem bW : type_of% bWUp.down := bWUp.down
def bSUp := PLift.up (And.intro (And.intro (And.intro (And.intro (And.intro (And.intro @false_implies @siI_done) @siI_stop) (And.intro @siI_q @siI_a)) (And.intro (And.intro @siI_e @sqI_some) (And.intro @saI_some @seI_some))) (And.intro (And.intro (And.intro (And.intro @mOk_none' @keepT1) @true_implies) (And.intro @implies_true.{0} @qI_nil)) (And.intro (And.intro @qI_cons @qI_guard) (And.intro @qgI_same @qgI_tf)))) (And.intro (And.intro (And.intro (And.intro (And.intro @qgI_ft @qgI_u) @thenQ_some) (And.intro @q_move @q_assign)) (And.intro (And.intro @q_pick @q_load) (And.intro @q_build @q_nilCheck))) (And.intro (And.intro (And.intro (And.intro @q_binOp @q_unOp) @q_convert) (And.intro @q_slice @q_fieldAddr)) (And.intro (And.intro @q_indexAddr @q_lookup) (And.intro @q_extract @q_len)))))
theorem bS : type_of% bSUp.down := bSUp.down
def bMUp := PLift.up (And.intro (And.intro (And.intro (And.intro (And.intro @mOk_move @mOk_assign) @mOk_pick) (And.intro @mOk_nilCheck @mOk_binOp)) (And.intro (And.intro (And.intro @mOk_fieldAddr @mOk_indexAddr) @mOk_load) (And.intro @mOk_len @mOkV_ptr))) (And.intro (And.intro (And.intro (And.intro @mOkV_map @mOkV_at) @mOkV_imm) (And.intro @nne2 @nne3)) (And.intro (And.intro (And.intro @nne4 @nne1') @nne2') (And.intro @nne3' @not_false_eq_true))))
theorem bM : type_of% bMUp.down := bMUp.down
end Go.Proofs.YtilgpaibolollaaGreat.Ab
