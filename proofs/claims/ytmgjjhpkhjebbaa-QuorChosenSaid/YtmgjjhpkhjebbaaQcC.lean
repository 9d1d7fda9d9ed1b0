/-
  What functions of the program do, told of abstract states. Conditions: as each theorem says.
-/
import Derived.Test.YtmgjjhpkhjebbaaQcB
import Derived.Test.YtmgjjhpkhjebbaaQoE
namespace Go.Proofs.Ytmgjjhpkhjebbaa.Pk
open Go Go.Proofs Go.Proofs.Ytmgjjhpkhjebbaa.Ab Go.Sort
set_option linter.unusedVariables false
set_option linter.unusedSimpArgs false
theorem app1Q {h : AHeap} {s : V} {cs : List Cel} (o : Own h 36 3 s (cs.flatMap celE)) (hl : cs.length ≤ 2 ^ 30) (c : Cel) :
    ∃ s' h', aAppend Try.prog 39 39 s (.sl h.n 0 1 1) (h.push (.cells (celE c) 36 none)) = some (s', h') ∧ Own h' 36 3 s' ((cs ++ [c]).flatMap celE) ∧ Keep h h' (isId s) ∧ NewOr h s s' := by
  have kp : Keep h (h.push (.cells (celE c) 36 none)) none_ := Keep.push _ _ _
  have oj : Own (h.push (.cells (celE c) 36 none)) 36 3 (.sl h.n 0 1 1) (celE c) := Own.fresh' (celE c) 1 (celE_len c) (by decide)
  have hsrc := own_src (P := Try.prog) (t := 39) kt_39 oj (n := 1) (celE_len c) (by decide) (celE_one c)
  obtain ⟨s', h', ea, oa, ka, na⟩ := append_ownM (P := Try.prog) (t := 39) (tx := 39) sl_39 (by decide) (o.keepN kp) hsrc (celE_len c) (fun m hm => by
    change m * 3 = _ at hm
    rw [rows_len celE_len, celE_len] at hm
    exact ⟨by simp only [lim]; omega, by simp only [lim]; omega⟩)
  refine ⟨s', h', ea, ?_, (kp.up).trans' ka, ?_⟩
  · rw [List.flatMap_append]
    simpa using oa
  · rcases na with na | na
    · exact .inl na
    · exact .inr fun q hq => Nat.le_trans kp.n (na q hq)
def rowV (l : List Cel) : V := .imm l.length (l.flatMap celE)
theorem rows_map (rows : List (List Cel)) : rows.flatMap rowE = rows.map rowV := by
  induction rows with
  | nil => rfl
  | cons r rs ih => rw [List.flatMap_cons, ih]; rfl
def cntR (rows : List (List Cel)) (i : Nat) : Nat := (rows.take i).flatten.length
theorem cntR_succ {rows : List (List Cel)} {i : Nat} (hi : i < rows.length) : cntR rows (i + 1) = cntR rows i + rows[i].length := by
  unfold cntR
  rw [List.take_succ_eq_append_getElem hi, List.flatten_append, List.length_append]
  simp
theorem cntR_le {rows : List (List Cel)} (h : ∀ r ∈ rows, r.length ≤ 1) : ∀ i, cntR rows i ≤ rows.length := fun i => by
  unfold cntR
  have : ∀ l : List (List Cel), (∀ r ∈ l, r.length ≤ 1) → l.flatten.length ≤ l.length := fun l => by
    induction l with
    | nil => simp
    | cons r rs ih =>
      intro hl
      have h1 := hl r (by simp)
      have h2 := ih fun x hx => hl x (by simp [hx])
      simp only [List.flatten_cons, List.length_append, List.length_cons]
      omega
  have h1 := this (rows.take i) fun r hr => h r (List.mem_of_mem_take hr)
  rw [List.length_take] at h1
  omega
theorem best_same (c : Cel) : ∀ q, bestOf (List.replicate (q + 1) c) = some c := by
  intro q
  unfold bestOf
  rw [List.replicate_succ, List.foldl_cons]
  have h0 : bestF none c = some c := rfl
  rw [h0]
  induction q with
  | zero => rfl
  | succ q ih =>
    rw [List.replicate_succ, List.foldl_cons]
    have h1 : bestF (some c) c = some c := by unfold bestF; simp
    rw [h1]
    exact ih
def esV (c : Cel) (q : Nat) : EntV := if q = 0 then [] else [(0, voteF c, (q : Int))]
def clV (q : Nat) : Nat := if q = 0 then 0 else 1
theorem esV_get (c : Cel) (q : Nat) : (kget (esV c q) (voteF c)).getD 0 = (q : Int) := by
  unfold esV
  split
  · rename_i h; subst h; rfl
  · simp [kget]
theorem esV_set (c : Cel) (q : Nat) : kset (clV q) (esV c q) (voteF c) ((q : Int) + 1) = esV c (q + 1) ∧ kclk (clV q) (esV c q) (voteF c) = clV (q + 1) := by
  unfold esV clV
  by_cases h : q = 0
  · subst h
    exact ⟨rfl, rfl⟩
  · rw [if_neg h, if_neg h, if_neg (by omega), if_neg (by omega)]
    simp [kset, kclk, kget]
theorem esV_st (c : Cel) (q : Nat) : Stamps (vtE (esV c q)) (clV q) := by
  unfold esV clV
  split
  · exact Stamps.nil _
  · exact ⟨by simp [vtE, mapK], by simp [vtE, mapK]⟩
end Go.Proofs.Ytmgjjhpkhjebbaa.Pk
