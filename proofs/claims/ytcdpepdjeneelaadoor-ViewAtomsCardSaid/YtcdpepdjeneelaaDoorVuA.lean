/-
  What functions of the program do, told of abstract states. Conditions: as each theorem says.
-/
import Derived.Test.YtcdpepdjeneelaaDoorVtS
import Derived.Test.YtcdpepdjeneelaaDoorVtB
import Derived.Test.YtcdpepdjeneelaaDoorVtN
namespace Go.Proofs.YtcdpepdjeneelaaDoor.Pk
open Go Go.Proofs Go.Proofs.YtcdpepdjeneelaaDoor.Ab Go.Proofs.Vw
set_option linter.unusedVariables false
set_option linter.unusedSimpArgs false
/-! ### ViewAtoms: the model -/
def datE (t k : Int) (r : Rcd) : Ent := ⟨2, t, 0, 0, k, r, false, [], []⟩
/-- An open record of one task's first transaction. -/
def DatE (t : Int) (x : Ent) : Prop := ∃ k r, x = datE t k r ∧ (0 ≤ k ∧ k < 5) ∧ (0 ≤ r.t ∧ r.t ≤ 1099511627776)
theorem datE_may {t k : Int} {r : Rcd} (h1 : 0 ≤ t ∧ t < 256) (hk : 0 ≤ k ∧ k < 5) (ht : 0 ≤ r.t ∧ r.t ≤ 1099511627776) : mayB (datE t k r) = true := by
  rw [may_iff]
  refine ⟨⟨by simp [datE], by simp [datE]⟩, (fit_iff _).2 ?_, rfl, rfl, (fit_iff _).2 ?_, (time_iff _).2 ht, by simp [datE], by simp [datE], by simp [datE], by simp [datE], ?_⟩
  · show 0 ≤ t ∧ t ≤ 1048576; omega
  · show 0 ≤ k ∧ k ≤ 1048576; omega
  · simp [useB, datE]
def endE (t : Int) (c : Bool) : Ent := ⟨if c then 3 else 4, t, 0, 0, 0, zR, false, [], []⟩
theorem endE_may {t : Int} {c : Bool} (h1 : 0 ≤ t ∧ t < 256) : mayB (endE t c) = true := by
  rw [may_iff]
  refine ⟨by cases c <;> simp [endE], (fit_iff _).2 ?_, rfl, rfl, rfl, rfl, by simp [endE], by simp [endE], by simp [endE], by simp [endE], ?_⟩
  · show 0 ≤ t ∧ t ≤ 1048576; omega
  · cases c <;> simp [useB, endE]
section
variable {t : Int} {L : List Ent} (ht : 0 ≤ t ∧ t < 256) (hL : ∀ x ∈ L, DatE t x)
include ht hL
theorem dat_en : ∀ x ∈ L, enOf x = toEn x := fun x hx => by
  obtain ⟨k, r, rfl, hk, hr⟩ := hL x hx
  unfold enOf
  rw [if_pos (datE_may ht hk hr)]
theorem dat_run : (∀ u, (stOf L).tasks u = if u = t ∧ L ≠ [] then some { (job0 : Job LR) with opn := (L.map toEn).zipIdx 0 } else none) ∧ ∀ n, (stOf L).logs n = [] := by
  have e : L.map enOf = L.map toEn := List.map_congr_left (dat_en ht hL)
  have h1 := run_own (R := LR) t (L.map toEn) st0 0 (fun x hx => by
    obtain ⟨y, hy, rfl⟩ := List.mem_map.1 hx
    obtain ⟨k, r, rfl, _⟩ := hL y hy
    exact ⟨rfl, by show 2 ≤ (2 : Int).toNat ∧ (2 : Int).toNat ≤ 5; decide⟩)
  have h2 := runJ_data (R := LR) (L.map toEn) job0 0 (fun x hx => by
    obtain ⟨y, hy, rfl⟩ := List.mem_map.1 hx
    obtain ⟨k, r, rfl, _⟩ := hL y hy
    exact ⟨rfl, rfl, rfl⟩)
  unfold stOf
  rw [e]
  rw [show jobOf (st0 : St LR) t = job0 from rfl, h2] at h1
  refine ⟨fun u => ?_, fun n => ?_⟩
  · rw [h1.1]
    by_cases hh : u = t ∧ L ≠ []
    · rw [if_pos hh, if_pos ⟨hh.1, by simpa using hh.2⟩]; rfl
    · rw [if_neg hh, if_neg (fun q => hh ⟨q.1, by simpa using q.2⟩)]; rfl
  · rw [h1.2]; rfl
theorem dat_job : jobOf (stOf L) t = { (job0 : Job LR) with opn := (L.map toEn).zipIdx 0 } := by
  unfold jobOf
  rw [(dat_run ht hL).1]
  by_cases h : L = []
  · rw [if_neg (fun hh => hh.2 h), h]; rfl
  · rw [if_pos ⟨rfl, h⟩]; rfl
theorem dat_logs : logsOf L = [] := by
  apply List.eq_nil_iff_forall_not_mem.2
  intro p hp
  have := ((told_mem L).1 p).1 hp
  exact this.2 (this.1.trans ((dat_run ht hL).2 p.1))
theorem dat_task : (taskAt (tasksOf L) t).opn = L.length := by
  rw [taskAt_told, dat_job ht hL]
  simp [tvJ]
theorem dat_stable {v : Nat} (h : MinAt L.length v (IsOpen (readV L))) : v = 0 := by
  cases hl : L with
  | nil => have := h.1; rw [hl] at this; simp at this; exact this
  | cons x r =>
    have h1 := (dat_run ht hL).1 t
    rw [if_pos ⟨rfl, by rw [hl]; simp⟩] at h1
    have h2 : (readV L).st.tasks t = some { (job0 : Job LR) with opn := (L.map toEn).zipIdx 0 } := by rw [read_st]; exact h1
    change ((readV L).tasks t).map Jb.m = _ at h2
    cases hj : (readV L).tasks t with
    | none => rw [hj] at h2; cases h2
    | some j =>
      rw [hj] at h2
      injection h2 with h2
      have h3 := congrArg Job.opn h2
      change (j.opn.map fun p => (toEn p.1, p.2)) = (L.map toEn).zipIdx 0 at h3
      have h4 : (toEn x, 0) ∈ (j.opn.map fun p => (toEn p.1, p.2)) := by rw [h3, hl]; simp
      obtain ⟨p, hp, e⟩ := List.mem_map.1 h4
      have h5 : p.2 = 0 := congrArg Prod.snd e
      have := h.2.1 p ⟨t, j, hj, hp⟩
      omega
theorem end_run (c : Bool) : (∀ u, (stOf (L ++ [endE t c])).tasks u = if u = t then some ⟨0, 1, [], [], []⟩ else none) ∧ ∀ n, (stOf (L ++ [endE t c])).logs n = if c then recsAt ((L.map toEn).zipIdx 0) n else [] := by
  have h1 := dat_job ht hL
  have h2 := dat_run ht hL
  have hen : enOf (endE t c) = toEn (endE t c) := by unfold enOf; rw [if_pos (endE_may ht)]
  unfold stOf at h1 h2 ⊢
  rw [List.map_append, run_append, List.map_cons, List.map_nil, hen, run, run]
  generalize run st0 0 (L.map enOf) = s at h1 h2
  have hs := step_own s (toEn (endE t c)) (0 + (L.map enOf).length) (by
    cases c
    · show 2 ≤ (4 : Int).toNat ∧ (4 : Int).toNat ≤ 5; decide
    · show 2 ≤ (3 : Int).toNat ∧ (3 : Int).toNat ≤ 5; decide)
  have et : (toEn (endE t c)).task = t := rfl
  rw [et, h1] at hs
  have hJ : stepJ { (job0 : Job LR) with opn := (L.map toEn).zipIdx 0 } (toEn (endE t c)) (0 + (L.map enOf).length) = (⟨0, 1, [], [], []⟩, if c then (L.map toEn).zipIdx 0 else []) := by
    cases c <;> rfl
  rw [hJ] at hs
  refine ⟨fun u => ?_, fun n => ?_⟩
  · rw [hs.1]
    show (if u = t then _ else s.tasks u) = _
    by_cases hu : u = t
    · rw [if_pos hu, if_pos hu]
    · rw [if_neg hu, if_neg hu, h2.1, if_neg (fun hh => hu hh.1)]
  · rw [hs.2, h2.2]
    cases c <;> rfl
/-- What a log has in the end. -/
theorem end_log (c : Bool) (n : Int) : logAt (logsOf (L ++ [endE t c])) n = if c then (L.filter fun x => x.log == n).map (fun x => (x.r, x.del)) else [] := by
  rw [logAt_told, (end_run ht hL c).2]
  cases c
  · rfl
  · simp only [if_true]
    unfold recsAt
    clear hL
    have : ∀ (l : List Ent) (k : Nat), (((l.map toEn).zipIdx k).filter fun p => p.1.log == n).map (fun p => p.1.rec_) = (l.filter fun x => x.log == n).map fun x => (x.r, x.del) := by
      intro l
      induction l with
      | nil => intro k; rfl
      | cons x l ih =>
        intro k
        rw [List.map_cons, List.zipIdx_cons]
        by_cases h : x.log = n
        · rw [List.filter_cons_of_pos (by show (x.log == n) = true; simpa using h), List.filter_cons_of_pos (by show (x.log == n) = true; simpa using h), List.map_cons, List.map_cons, ih]
          rfl
        · rw [List.filter_cons_of_neg (by show ¬ (x.log == n) = true; simpa using h), List.filter_cons_of_neg (by show ¬ (x.log == n) = true; simpa using h), ih]
    exact this L 0
theorem end_task (c : Bool) : (taskAt (tasksOf (L ++ [endE t c])) t).tx = 1 := by
  rw [taskAt_told]
  unfold jobOf
  rw [(end_run ht hL c).1, if_pos rfl]
  rfl
theorem end_stable (c : Bool) {v : Nat} (h : MinAt (L ++ [endE t c]).length v (IsOpen (readV (L ++ [endE t c])))) : v = (L ++ [endE t c]).length := by
  rcases h.2.2 with h3 | ⟨p, ⟨u, j, hj, hp⟩, _⟩
  · exact h3
  · have h1 := (end_run ht hL c).1 u
    have h2 : (readV (L ++ [endE t c])).st.tasks u = (stOf (L ++ [endE t c])).tasks u := by rw [read_st]; rfl
    rw [h1] at h2
    change ((readV (L ++ [endE t c])).tasks u).map Jb.m = _ at h2
    rw [hj] at h2
    split at h2
    · injection h2 with h2
      have h3 := congrArg Job.opn h2
      change (j.opn.map fun p => (toEn p.1, p.2)) = [] at h3
      have : j.opn = [] := by simpa using h3
      rw [this] at hp
      cases hp
    · cases h2
end
/-- How many of them have a log below. -/
def cntB (L : List Ent) (i : Nat) : Nat := (L.filter fun x => decide (x.log < (i : Int))).length
theorem cntB_zero {t : Int} {L : List Ent} (hL : ∀ x ∈ L, DatE t x) : cntB L 0 = 0 := by
  unfold cntB
  rw [List.filter_eq_nil_iff.2 (fun x hx => by obtain ⟨k, r, rfl, hk, _⟩ := hL x hx; show ¬ decide (k < ((0 : Nat) : Int)) = true; simp; omega)]
  rfl
theorem cntB_five {t : Int} {L : List Ent} (hL : ∀ x ∈ L, DatE t x) : cntB L 5 = L.length := by
  unfold cntB
  rw [List.filter_eq_self.2 (fun x hx => by obtain ⟨k, r, rfl, hk, _⟩ := hL x hx; show decide (k < ((5 : Nat) : Int)) = true; simp; omega)]
theorem cntB_succ (L : List Ent) (i : Nat) : cntB L (i + 1) = cntB L i + (L.filter fun x => x.log == (i : Int)).length := by
  unfold cntB
  induction L with
  | nil => rfl
  | cons x L ih =>
    by_cases h1 : x.log < (i : Int)
    · rw [List.filter_cons_of_pos (by simp; omega), List.filter_cons_of_pos (by simpa using h1), List.filter_cons_of_neg (by simp; omega)]
      simp only [List.length_cons]
      omega
    · by_cases h2 : x.log = (i : Int)
      · rw [List.filter_cons_of_pos (by simp; omega), List.filter_cons_of_neg (by simpa using h1), List.filter_cons_of_pos (by simpa using h2)]
        simp only [List.length_cons]
        omega
      · rw [List.filter_cons_of_neg (by simp; omega), List.filter_cons_of_neg (by simpa using h1), List.filter_cons_of_neg (by simpa using h2)]
        exact ih
theorem cntB_le (L : List Ent) (i : Nat) : cntB L i ≤ L.length := List.length_filter_le _ _
/-- Where an entry stands among those of its log. -/
theorem filter_at {L : List Ent} {j : Nat} (hj : j < L.length) (n : Int) (hn : L[j].log = n) : ∃ hk : ((L.take j).filter fun x => x.log == n).length < ((L.filter fun x => x.log == n).map fun x => (x.r, x.del)).length, ((L.filter fun x => x.log == n).map fun x => (x.r, x.del))[((L.take j).filter fun x => x.log == n).length] = (L[j].r, L[j].del) := by
  have e : L.filter (fun x => x.log == n) = (L.take j).filter (fun x => x.log == n) ++ L[j] :: (L.drop (j + 1)).filter (fun x => x.log == n) := by
    conv => lhs; rw [← List.take_append_drop j L, List.filter_append, List.drop_eq_getElem_cons hj, List.filter_cons_of_pos (by simpa using hn)]
  refine ⟨by rw [e]; simp, ?_⟩
  simp only [e, List.map_append, List.map_cons]
  rw [List.getElem_append_right (by simp)]
  simp
end Go.Proofs.YtcdpepdjeneelaaDoor.Pk
