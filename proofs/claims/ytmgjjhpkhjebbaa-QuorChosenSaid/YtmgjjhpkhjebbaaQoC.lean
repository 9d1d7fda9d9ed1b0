/-
  What functions of the program do, told of abstract states. Conditions: as each theorem says.
-/
import Derived.Test.YtmgjjhpkhjebbaaSoE
namespace Go.Proofs.Ytmgjjhpkhjebbaa.Pk
open Go Go.Proofs Go.Proofs.Ytmgjjhpkhjebbaa.Ab Go.Sort
set_option linter.unusedVariables false
set_option linter.unusedSimpArgs false
/-! ### Merge: cells by their slots -/
abbrev EntQ := List (Nat × Int × (V × List Cel))
def qE (m : EntQ) : List (Nat × V × V) := mapK (V.int .i64) Prod.fst m
def atOf (cs : List Cel) (k : Int) : List Cel := cs.filter fun c => c.at_ == k
theorem atOf_snoc (cs : List Cel) (c : Cel) (k : Int) : atOf (cs ++ [c]) k = if c.at_ = k then atOf cs k ++ [c] else atOf cs k := by
  unfold atOf
  rw [List.filter_append]
  by_cases h : c.at_ = k <;> simp [h]
theorem mpq : ∃ et, mapT Try.prog 64 = some (3, et, .int .i64) ∧ zeroT Try.prog et = some (.slice none 0 0) := by
  have h : (mapT Try.prog 64).map (fun q => (q.1, q.2.1)) = some (3, 39) := by kernel_rfl
  have hu : Try.prog.underlying 3 = some (.int .i64) := Try.underlying3
  cases hm : mapT Try.prog 64 with
  | none => rw [hm] at h; cases h
  | some q =>
    rw [hm] at h
    obtain ⟨a, b, d⟩ := q
    simp only [Option.map_some, Option.some.injEq, Prod.mk.injEq] at h
    obtain ⟨rfl, rfl⟩ := h
    have := (mapT_eq hm).2
    rw [hu] at this
    cases this
    exact ⟨_, rfl, by kernel_rfl⟩
/-- What a slot has so far. -/
def cur (m : EntQ) (k : Int) : V × List Cel := (kget m k).getD (.snil, [])
theorem lookQ {h : AHeap} {i cl : Nat} (m : EntQ) (k : Int) (hg : h.get i = .map (qE m) cl) : aLookup Try.prog 64 (.map i) (.int .i64 k) false h = some (cur m k).1 := by
  obtain ⟨et, hm, hz⟩ := mpq
  have := lookup_k (enc := (Prod.fst : V × List Cel → V)) (ok := false) (KeyEnc.ofInt hm) (k := k) hm hz hg
  rw [this]
  unfold cur
  cases kget m k <;> rfl
theorem updQ {h : AHeap} {i cl : Nat} (m : EntQ) (k : Int) (v : V) (l : List Cel) (hg : h.get i = .map (qE m) cl) : aUpdate Try.prog 64 (.map i) (.int .i64 k) v h = some (h.set i (.map (qE (kset cl m k (v, l))) (kclk cl m k))) := by
  obtain ⟨et, hm, hz⟩ := mpq
  exact update_k (enc := (Prod.fst : V × List Cel → V)) (KeyEnc.ofInt hm) (k := k) hm hg rfl
structure Bag (h0 h : AHeap) (mi : Nat) (cs : List Cel) (m : EntQ) (cl : Nat) : Prop where
  keep : Keep h0 h none_
  lo : h0.n ≤ mi
  lt : mi < h.n
  get : h.get mi = .map (qE m) cl
  st : Stamps (qE m) cl
  nd : KNodup m
  own : ∀ k a, kget m k = some a → Own h 36 3 a.1 (a.2.flatMap celE) ∧ (∀ i, idOf a.1 = some i → h0.n ≤ i ∧ i ≠ mi)
  apart : ∀ k k' a a' i, kget m k = some a → kget m k' = some a' → k ≠ k' → idOf a.1 = some i → idOf a'.1 ≠ some i
  has : ∀ k a, kget m k = some a → a.2 = atOf cs k ∧ a.2 ≠ []
  non : ∀ k, kget m k = none → atOf cs k = []
  len : m.length ≤ cs.length
theorem Bag.start {h0 h : AHeap} (k : Keep h0 h none_) : Bag h0 (h.push (.map [] 0)) h.n [] [] 0 :=
  ⟨k.then_push _, k.n, Nat.lt_succ_self _, get_push_new, Stamps.nil 0, KNodup.nil, fun _ _ h => (by cases h), fun _ _ _ _ _ h => (by cases h), fun _ _ h => (by cases h), fun _ _ => rfl, Nat.le_refl _⟩
theorem Bag.on {h0 h h' : AHeap} {mi cl : Nat} {cs : List Cel} {m : EntQ} (w : Bag h0 h mi cs m cl) (k : Keep h h' none_) : Bag h0 h' mi cs m cl :=
  ⟨w.keep.trans' k, w.lo, Nat.lt_of_lt_of_le w.lt k.n, (k.get mi w.lt (fun h => h)).trans w.get, w.st, w.nd, fun q a hq => ⟨(w.own q a hq).1.keepN k, (w.own q a hq).2⟩, w.apart, w.has, w.non, w.len⟩
theorem Bag.cur_own {h0 h : AHeap} {mi cl : Nat} {cs : List Cel} {m : EntQ} (w : Bag h0 h mi cs m cl) (k : Int) : Own h 36 3 (cur m k).1 ((cur m k).2.flatMap celE) ∧ (cur m k).2 = atOf cs k ∧ (∀ i, idOf (cur m k).1 = some i → h0.n ≤ i ∧ i ≠ mi) := by
  unfold cur
  cases hk : kget m k with
  | none => exact ⟨Own.snil _ _ _, (w.non k hk).symm, fun i hi => by cases hi⟩
  | some a => exact ⟨(w.own k a hk).1, (w.has k a hk).1, (w.own k a hk).2⟩
/-- A cell more: its slot's slice is appended to, and laid down again. -/
theorem Bag.add {h0 h h' : AHeap} {mi cl : Nat} {cs : List Cel} {m : EntQ} (w : Bag h0 h mi cs m cl) (c : Cel) {v : V} (kp : Keep h h' (isId (cur m c.at_).1)) (o : Own h' 36 3 v (((cur m c.at_).2 ++ [c]).flatMap celE)) (nw : NewOr h (cur m c.at_).1 v) :
    Bag h0 (h'.set mi (.map (qE (kset cl m c.at_ (v, (cur m c.at_).2 ++ [c]))) (kclk cl m c.at_))) mi (cs ++ [c]) (kset cl m c.at_ (v, (cur m c.at_).2 ++ [c])) (kclk cl m c.at_) := by
  obtain ⟨o0, e0, i0⟩ := w.cur_own c.at_
  have kS : ∀ o, Keep h' (h'.set mi o) (fun q => q = mi) := fun o => Keep.set _ _ _
  have hv : ∀ i, idOf v = some i → h0.n ≤ i ∧ i ≠ mi := fun i hi => by
    rcases nw with e | e
    · exact i0 i (e ▸ hi)
    · have := e i hi; have := w.keep.n; have := w.lt; omega
  have other : ∀ k a, kget m k = some a → k ≠ c.at_ → ∀ i, idOf a.1 = some i → idOf (cur m c.at_).1 ≠ some i := fun k a hk hne i hi => by
    unfold cur
    cases hc : kget m c.at_ with
    | none => simp [idOf]
    | some b => exact w.apart k c.at_ a b i hk hc hne hi
  have kall : Keep h0 (h'.set mi (.map (qE (kset cl m c.at_ (v, (cur m c.at_).2 ++ [c]))) (kclk cl m c.at_))) none_ :=
    (w.keep.trans kp fun q hq e => by have := (i0 q e).1; omega).trans (kS _) fun q hq e => by have := w.lo; omega
  refine ⟨kall, w.lo, Nat.lt_of_lt_of_le w.lt (Nat.le_trans kp.n (kS (.map (qE (kset cl m c.at_ (v, (cur m c.at_).2 ++ [c]))) (kclk cl m c.at_))).n), get_set_same, w.st.kset _ _, w.nd.set _ _ _, fun k a hk => ?_, fun k k' a a' i hk hk' hne hi => ?_, fun k a hk => ?_, fun k hk => ?_, ?_⟩
  · rw [kget_kset] at hk
    split at hk
    · cases hk
      exact ⟨o.keep (kS _) fun i hi e => (hv i hi).2 e, hv⟩
    · rename_i hne
      obtain ⟨o1, i1⟩ := w.own k a hk
      exact ⟨(o1.keep kp fun i hi e => other k a hk hne i hi e).keep (kS _) fun i hi e => (i1 i hi).2 e, i1⟩
  · rw [kget_kset] at hk hk'
    split at hk
    · rename_i e1
      split at hk'
      · rename_i e2; exact absurd (e1.trans e2.symm) hne
      · rename_i e2
        cases hk
        intro hi'
        rcases nw with e | e
        · exact other k' a' hk' e2 i hi' (e ▸ hi)
        · have := e i hi
          have := (w.own k' a' hk').1.lt i hi'
          omega
    · rename_i e1
      split at hk'
      · cases hk'
        intro hi'
        rcases nw with e | e
        · exact other k a hk e1 i hi (e ▸ hi')
        · have := e i hi'
          have := (w.own k a hk).1.lt i hi
          omega
      · exact w.apart k k' a a' i hk hk' hne hi
  · rw [kget_kset] at hk
    rw [atOf_snoc]
    split at hk
    · rename_i e1
      cases hk
      rw [if_pos e1.symm, e1, e0]
      exact ⟨rfl, by simp⟩
    · rename_i e1
      rw [if_neg fun e => e1 e.symm]
      exact w.has k a hk
  · rw [kget_kset] at hk
    rw [atOf_snoc]
    split at hk
    · cases hk
    · rename_i e1
      rw [if_neg fun e => e1 e.symm]
      exact w.non k hk
  · rw [klen_set, List.length_append]
    have := w.len
    split <;> simp <;> omega
/-! ### What is told -/
structure IsMerge (cs out : List Cel) : Prop where
  mem : ∀ c, c ∈ out ↔ bestOf (atOf cs c.at_) = some c
  up : out.Pairwise fun a b => a.at_ < b.at_
theorem bestF_mem {t : Option Cel} {c d : Cel} (h : bestF t c = some d) : d = c ∨ t = some d := by
  cases t with
  | none => left; exact (Option.some.inj h).symm
  | some t =>
    unfold bestF at h
    simp only at h
    split at h
    · left; exact (Option.some.inj h).symm
    · right; exact h
theorem bestOf_fold_mem : ∀ (l : List Cel) (t : Option Cel) {d : Cel}, l.foldl bestF t = some d → d ∈ l ∨ t = some d
  | [], t, d, h => .inr h
  | c :: l, t, d, h => by
    rcases bestOf_fold_mem l (bestF t c) h with h | h
    · exact .inl (List.mem_cons_of_mem _ h)
    · rcases bestF_mem h with h | h
      · exact .inl (by rw [h]; exact List.mem_cons_self)
      · exact .inr h
theorem bestOf_mem {l : List Cel} {d : Cel} (h : bestOf l = some d) : d ∈ l := by
  rcases bestOf_fold_mem l none h with h | h
  · exact h
  · cases h
theorem bestOf_ne {l : List Cel} (h : l ≠ []) : ∃ d, bestOf l = some d := by
  obtain ⟨q, c, rfl⟩ : ∃ q c, l = q ++ [c] := ⟨l.dropLast, l.getLast h, (List.dropLast_concat_getLast h).symm⟩
  rw [bestOf_snoc]
  exact bestF_some _ _
theorem atOf_mem {cs : List Cel} {k : Int} {c : Cel} : c ∈ atOf cs k ↔ c ∈ cs ∧ c.at_ = k := by unfold atOf; rw [List.mem_filter]; simp
theorem bag_told {cs : List Cel} {m vis : EntQ} (st : KNodup m) (has : ∀ k a, kget m k = some a → a.2 = atOf cs k ∧ a.2 ≠ []) (non : ∀ k, kget m k = none → atOf cs k = []) (hp : vis.Perm m) {out : List Cel}
    (ho : out.Perm (vis.map fun e => (bestOf e.2.2.2).getD cel0)) (hs : out.Pairwise fun a b => ¬ b.at_ < a.at_) : IsMerge cs out := by
  have key : ∀ e ∈ m, ∃ d, bestOf e.2.2.2 = some d ∧ d.at_ = e.2.1 ∧ e.2.2.2 = atOf cs e.2.1 := fun e he => by
    obtain ⟨h1, h2⟩ := has e.2.1 e.2.2 (kmem st he)
    obtain ⟨d, hd⟩ := bestOf_ne h2
    have := bestOf_mem hd
    rw [h1] at this
    exact ⟨d, hd, (atOf_mem.1 this).2, h1⟩
  have hmem : ∀ c, c ∈ out ↔ bestOf (atOf cs c.at_) = some c := fun c => by
    rw [ho.mem_iff, List.mem_map]
    constructor
    · rintro ⟨e, he, rfl⟩
      obtain ⟨d, hd, h1, h2⟩ := key e (hp.subset he)
      rw [hd]
      show bestOf (atOf cs d.at_) = some d
      rw [h1, ← h2, hd]
    · intro h
      cases hk : kget m c.at_ with
      | none =>
        rw [non c.at_ hk] at h
        cases h
      | some a =>
        obtain ⟨e, he, hee⟩ := kget_mem hk
        have e1 : e.2.1 = c.at_ := congrArg Prod.fst hee
        obtain ⟨d, hd, h1, h2⟩ := key e he
        refine ⟨e, hp.symm.subset he, ?_⟩
        rw [hd]
        rw [e1] at h2
        rw [h2, h] at hd
        exact (Option.some.inj hd).symm
  refine ⟨hmem, ?_⟩
  have nd : (out.map (·.at_)).Nodup := by
    rw [(ho.map (·.at_)).nodup_iff, List.map_map]
    have e1 : vis.map ((fun c : Cel => c.at_) ∘ fun e => (bestOf e.2.2.2).getD cel0) = vis.map (·.2.1) := by
      apply List.map_congr_left
      intro e he
      obtain ⟨d, hd, h1, _⟩ := key e (hp.subset he)
      show ((bestOf e.2.2.2).getD cel0).at_ = e.2.1
      rw [hd]; exact h1
    rw [e1]
    exact ((hp.map (fun e : Nat × Int × (V × List Cel) => e.2.1)).nodup_iff).2 st
  exact (hs.and (List.pairwise_map.1 nd)).imp fun {a b} ⟨h1, h2⟩ => by omega
end Go.Proofs.Ytmgjjhpkhjebbaa.Pk
