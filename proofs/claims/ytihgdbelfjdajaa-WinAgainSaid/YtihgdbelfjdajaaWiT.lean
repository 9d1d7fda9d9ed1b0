/-
  What functions of the program do, told of abstract states. Conditions: as each theorem says.
-/
import Derived.Test.YtihgdbelfjdajaaWiS
namespace Go.Proofs.Ytihgdbelfjdajaa.Pk
open Go Go.Proofs Go.Proofs.Ytihgdbelfjdajaa.Ab
set_option linter.unusedVariables false
set_option linter.unusedSimpArgs false
structure Deed where
  kind : Int
  key : Int
  time : Int
  val : Int
  c : Chg
def dE (d : Deed) : List V := [.int .i64 d.kind, .int .i64 d.key, .int .i64 d.time, .int .i64 d.val, .int .i64 d.c.key, .int .i64 d.c.fr, .int .i64 d.c.to, .int .i64 d.c.val, .bool d.c.del]
theorem dE_len (d : Deed) : (dE d).length = 9 := rfl
theorem fdE1 (d : Deed) (r : List V) : (if 1 ≤ (dE d ++ r).length then some (V.at (List.drop 1 (dE d ++ r))) else none) = some (.at (.int .i64 d.key :: .int .i64 d.time :: .int .i64 d.val :: (chgE d.c ++ r))) := by rw [if_pos (by rw [List.length_append, dE_len]; omega)]; rfl
theorem fdE2 (d : Deed) (r : List V) : (if 2 ≤ (dE d ++ r).length then some (V.at (List.drop 2 (dE d ++ r))) else none) = some (.at (.int .i64 d.time :: .int .i64 d.val :: (chgE d.c ++ r))) := by rw [if_pos (by rw [List.length_append, dE_len]; omega)]; rfl
theorem fdE3 (d : Deed) (r : List V) : (if 3 ≤ (dE d ++ r).length then some (V.at (List.drop 3 (dE d ++ r))) else none) = some (.at (.int .i64 d.val :: (chgE d.c ++ r))) := by rw [if_pos (by rw [List.length_append, dE_len]; omega)]; rfl
theorem deed_ix {l : List Deed} {k : Nat} (hk : k < l.length) : ∃ r, aIndexAddr Try.prog 23 (.imm l.length (l.flatMap dE)) (.int .i64 (k : Int)) = some (.at (dE l[k] ++ r)) := ⟨_, rows_ix dE_len hk ss_23⟩
/-- A store that some puts have made. -/
structure WinSt (h : AHeap) (i m : Nat) (n : Int) (l : Ent) (cl : Nat) : Prop where
  k : IsWin h i m 1024 n (wE l) cl
  st : Stamps (wE l) cl
  nd : KNodup l
  fr : ∀ e ∈ l, 0 ≤ e.2.1.2 ∧ e.2.1.2 ≤ 2 ^ 41
theorem kset_mem : ∀ {l : Ent} {cl : Nat} {k : Int × Int} {a : Int} {e : Nat × (Int × Int) × Int}, e ∈ kset cl l k a → e.2.1 = k ∨ e ∈ l
  | [], cl, k, a, e, h => by simp [kset] at h; exact .inl (by rw [h])
  | x :: l, cl, k, a, e, h => by
    unfold kset at h
    split at h
    · rcases List.mem_cons.1 h with rfl | h
      · exact .inl rfl
      · exact .inr (List.mem_cons_of_mem _ h)
    · rcases List.mem_cons.1 h with rfl | h
      · exact .inr List.mem_cons_self
      · rcases kset_mem h with h | h
        · exact .inl h
        · exact .inr (List.mem_cons_of_mem _ h)
/-- Put, whatever the time: the store is one that puts have made. -/
theorem winPutAny (h : AHeap) (i m cl : Nat) (n key time val : Int) (l : Ent) (w : WinSt h i m n l cl) (hl : l.length < 1024) :
    SCalls Try.prog 10 [.ptr i 0, .int .i64 key, .int .i64 time, .int .i64 val] h (fun r h' => ∃ (l' : Ent) (cl' : Nat) (c : Chg) (e : Int), r = .tuple [.agg (chgE c), .int .i64 e] ∧ WinSt h' i m n l' cl' ∧ l'.length ≤ l.length + 1) := by
  by_cases hb : time < 0 ∨ 1099511627776 < time
  · exact (winPutBad h i m cl 1024 n key time val _ w.k hb).mono fun r h' ⟨e, e2⟩ => ⟨l, cl, _, _, e, e2 ▸ w, Nat.le_succ _⟩
  · have h0 : 0 ≤ time := by omega
    obtain ⟨f0, f1, f2⟩ := frW_rng h0 w.k.s1
    refine (winPutOk h i m cl 1024 n key time val l w.k (.inr (by omega)) h0 (by omega)).mono fun r h' ⟨e, k, _⟩ => ⟨_, _, _, _, e, ⟨k, w.st.kset _ _, w.nd.set _ _ _, fun e he => ?_⟩, ?_⟩
    · rcases kset_mem he with h | h
      · rw [h]; exact ⟨f0, by show frW n time ≤ _; omega⟩
      · exact w.fr e h
    · rw [klen_set]; split <;> omega
end Go.Proofs.Ytihgdbelfjdajaa.Pk
