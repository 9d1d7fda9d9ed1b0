/-
  What functions of the program do, told of abstract states. Conditions: as each theorem says.
-/
import Derived.Test.YtcdpepdjeneelaaDoorVtG
import Derived.Test.YtcdpepdjeneelaaDoorVsQ
namespace Go.Proofs.YtcdpepdjeneelaaDoor.Pk
open Go Go.Proofs Go.Proofs.YtcdpepdjeneelaaDoor.Ab Go.Proofs.Vw
set_option linter.unusedVariables false
set_option linter.unusedSimpArgs false
/-! ### What is told of a log and of a task, in words of the plain model -/
def stOf (l : List Ent) : St LR := run st0 0 (l.map enOf)
theorem logAt_told (l : List Ent) (n : Int) : logAt (logsOf l) n = (stOf l).logs n := by
  have hm := (told_mem l).1
  unfold logAt
  cases hf : (logsOf l).find? fun c => c.1 == n with
  | none =>
    rw [List.find?_eq_none] at hf
    show [] = _
    cases hs : (stOf l).logs n with
    | nil => rfl
    | cons a r =>
      have := hf (n, (stOf l).logs n) ((hm _).2 ⟨rfl, by rw [hs]; simp⟩)
      simp at this
  | some p =>
    have h1 := List.find?_some hf
    have h2 := (hm p).1 (List.mem_of_find?_eq_some hf)
    have h3 : p.1 = n := by simpa using h1
    show p.2 = _
    rw [h2.1, h3]
    rfl
theorem taskAt_told (l : List Ent) (n : Int) : taskAt (tasksOf l) n = tvJ n (jobOf (stOf l) n) := by
  have hm := (told_mem l).2
  unfold taskAt jobOf
  cases hf : (tasksOf l).find? fun c => c.t == n with
  | none =>
    rw [List.find?_eq_none] at hf
    cases hs : (stOf l).tasks n with
    | none => rfl
    | some j =>
      have := hf (tvJ n j) ((hm _).2 ⟨j, hs, rfl⟩)
      simp [tvJ] at this
  | some p =>
    have h1 := List.find?_some hf
    obtain ⟨j, h2, h4⟩ := (hm p).1 (List.mem_of_find?_eq_some hf)
    have h3 : p.t = n := by simpa using h1
    subst h3
    change (stOf l).tasks p.t = some j at h2
    rw [h2]
    exact h4
theorem logs_mem {l : List Ent} {p : Int × List LR} (h : p ∈ logsOf l) : p.2 = (stOf l).logs p.1 := (((told_mem l).1 p).1 h).1
theorem tasks_mem {l : List Ent} {x : TV} (h : x ∈ tasksOf l) : x = tvJ x.t (jobOf (stOf l) x.t) := by
  obtain ⟨j, h1, h2⟩ := ((told_mem l).2 x).1 h
  have : jobOf (stOf l) x.t = j := by unfold jobOf; rw [show (stOf l).tasks x.t = some j from h1]; rfl
  rw [this]
  exact h2
/-- Offsets are few. -/
theorem offs_step {s : VM} (b : ∀ t j, s.tasks t = some j → j.offs.length ≤ 8) (x : Ent) (i : Nat) : ∀ t j, (stepE s x i).tasks t = some j → j.offs.length ≤ 8 := by
  have jo : (jbOf s x.task).offs.length ≤ 8 := by
    unfold jbOf
    cases h : s.tasks x.task with
    | none => exact Nat.zero_le _
    | some j => exact b _ j h
  intro t j
  unfold stepE
  split
  · exact b t j
  rename_i hm
  split
  · exact b t j
  split
  · intro h
    simp only at h
    split at h
    · injection h with h; subst h; unfold fenJ; split
      · exact jo
      · exact jo
    · exact b t j h
  split
  · exact b t j
  have hm' : mayB x = true := by simpa using hm
  have ho := ((may_iff x).1 hm').2.2.2.2.2.2.1
  intro h
  simp only at h
  split at h
  · injection h with h; subst h; unfold stepB
    split
    · exact jo
    split
    · exact jo
    split
    · exact ho
    · exact jo
  · exact b t j h
theorem offs_run : ∀ (l : List Ent) (s : VM) (i : Nat), (∀ t j, s.tasks t = some j → j.offs.length ≤ 8) → ∀ t j, (runE s i l).tasks t = some j → j.offs.length ≤ 8
  | [], s, i, h => h
  | x :: l, s, i, h => offs_run l _ _ (offs_step h x i)
theorem tdOk (l : List Ent) (hl : l.length ≤ 2 ^ 14) : TdOk (toldOf l) := by
  have bd := vbd_read _ l rfl
  have hs : l.length * l.length ≤ 2 ^ 14 * 2 ^ 14 := Nat.mul_le_mul hl hl
  have it := isTold l
  have fr := from_read _ l rfl
  refine ⟨?_, ?_, fun p hp => ?_, fun x hx => ?_⟩
  · show (logsOf l).length ≤ _
    have h1 : ((logsOf l).map (·.1)).length ≤ (l.map (·.log)).length := List.Nodup.length_le_of_subset (List.pairwise_map.2 (it.lu.imp fun h => by omega)) fun k hk => by
      obtain ⟨p, hp, rfl⟩ := List.mem_map.1 hk
      have := (it.lm p).1 hp
      exact fr.lg _ (this.1 ▸ this.2)
    simp at h1
    omega
  · show (tasksOf l).length ≤ _
    have h1 : ((tasksOf l).map (·.t)).length ≤ (l.map (·.task)).length := List.Nodup.length_le_of_subset (List.pairwise_map.2 (it.tu.imp fun h => by omega)) fun k hk => by
      obtain ⟨p, hp, rfl⟩ := List.mem_map.1 hk
      obtain ⟨j, h1, h2⟩ := (it.tm p).1 hp
      exact (fr.tk _ _ h1).1
    simp at h1
    omega
  · have := ((it.lm p).1 hp).1
    rw [this]
    have := bd.lg p.1
    omega
  · obtain ⟨j, h1, h2⟩ := (it.tm x).1 hx
    have h3 := offs_run l vm0 0 (fun t j h => by cases h) _ _ h1
    have h4 := bd.ord _ _ h1
    rw [h2]
    exact ⟨by show j.offs.length ≤ _; omega, by show j.ord.length ≤ _; omega⟩
/-! ### At most 200, and rows that are put together -/
set_option maxRecDepth 10000 in
theorem pFew (l : List Ent) (hl : l.length ≤ 2 ^ 47) (h : AHeap) : Pure Tryd.prog 10 [.imm l.length (l.flatMap entE)] h (.imm (l.take 200).length ((l.take 200).flatMap entE)) := by
  refine Pure.val (Clo.imm (rows_clo entE_clo _)) ?_
  refine SCalls.enterI (c := _) Tryd.func10 rfl (by kernel_rfl) (by simp) ?_
  by_cases c : 200 < l.length
  · have d1 : decide ((200 : Int) < ((l.length : Nat) : Int)) = true := decide_eq_true (by omega)
    have e : (l.take 200).length = 200 := by rw [List.length_take]; omega
    have s1 : aSlice Tryd.prog 22 (.imm l.length (l.flatMap entE)) none (some (.int .i64 200)) none = some (.imm (l.take 200).length ((l.take 200).flatMap entE)) := by
      rw [slice_imm_hi ss_22 (by omega) (by omega) (rows_len entE_len l), e, ← rows_take entE_len]
      rfl
    simp only [wpA_region, wpA_seq, wpA_cond, wpA_ret, condI_true, seqQ_normal, seqQ_ret, endI_mk, goI_out, goI_ops, opsA_nil, opsA_cons, stepA_move, stepA_assign, stepA_binOp, stepA_slice, stepA_len, thenV_some, eval_tmp, eval_const, put_some, enterF_zero, enterF_succ, aBin_gtr, absV_int, absV_snil, aLen_imm, Nat.reduceEqDiff, reduceCtorEq, Option.map_some, Option.map_none, if_true, if_false, kt_22, d1, s1, retA_ret, Tryd.results10, resultsA_1]
    exact hid_mk ⟨rfl, Keep.refl _ _⟩
  · have d1 : decide ((200 : Int) < ((l.length : Nat) : Int)) = false := decide_eq_false (by omega)
    rw [List.take_of_length_le (by omega)]
    simp only [wpA_skip, wpA_region, wpA_seq, wpA_cond, wpA_ret, condI_false, seqQ_normal, endI_mk, goI_out, goI_ops, opsA_nil, opsA_cons, stepA_move, stepA_assign, stepA_binOp, stepA_len, thenV_some, eval_tmp, eval_const, put_some, enterF_zero, enterF_succ, aBin_gtr, absV_int, absV_snil, aLen_imm, Nat.reduceEqDiff, reduceCtorEq, if_true, if_false, kt_22, d1, retA_ret, Tryd.results10, resultsA_1]
    exact hid_mk ⟨rfl, Keep.refl _ _⟩
theorem lit0e (h : AHeap) : aBuildSlice Tryd.prog 22 0 [] h = some (.sl h.n 0 0 0, h.push (.cells [] 47 none)) := by rw [buildSlice_go sl_22]; rfl
theorem acc0e (h : AHeap) : Acc h (h.push (.cells [] 47 none)) 47 11 (.sl h.n 0 0 0) (([] : List Ent).flatMap entE) :=
  ⟨.inr ⟨h.n, 0, 0, [], none, rfl, Nat.lt_succ_self _, get_push_new, rfl, rfl, .inl ⟨by simp [unk], Nat.le_refl _, Nat.le_refl _⟩⟩, Keep.push _ _ _, fun k hk => by simp [idOf] at hk; omega⟩
theorem entE_one (x : Ent) : (entE x).all (·.one) = true := rfl
/-- Entries more, behind. -/
theorem accE {h0 h : AHeap} {s : V} {a : List Ent} (r : List Ent) (o : Acc h0 h 47 11 s (a.flatMap entE)) (hl : a.length + r.length ≤ 2 ^ 30) :
    ∃ s' h', aAppend Tryd.prog 22 22 s (.imm r.length (r.flatMap entE)) h = some (s', h') ∧ Acc h0 h' 47 11 s' ((a ++ r).flatMap entE) := by
  obtain ⟨s', h', ea, oa⟩ := Acc.appM (P := Tryd.prog) (tx := 22) sl_22 o (by decide) (imm_src kt_22 (rows_len entE_len r) (rows_one entE_one r)) (rows_len entE_len r) (fun m hm => by
    change m * 11 = _ at hm
    rw [rows_len entE_len, rows_len entE_len] at hm
    exact ⟨by simp only [lim]; omega, by simp only [lim]; omega⟩)
  exact ⟨s', h', ea, by rw [List.flatMap_append]; exact oa⟩
end Go.Proofs.YtcdpepdjeneelaaDoor.Pk
