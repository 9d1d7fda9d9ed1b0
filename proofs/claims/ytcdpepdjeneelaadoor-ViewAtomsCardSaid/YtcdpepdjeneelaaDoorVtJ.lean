/-
  What functions of the program do, told of abstract states. Conditions: as each theorem says.
-/
import Derived.Test.YtcdpepdjeneelaaDoorVtH
namespace Go.Proofs.YtcdpepdjeneelaaDoor.Pk
open Go Go.Proofs Go.Proofs.YtcdpepdjeneelaaDoor.Ab Go.Proofs.Vw
set_option linter.unusedVariables false
set_option linter.unusedSimpArgs false
/-! ### ViewFences: the model -/
theorem step_zero {s : St LR} {x : En LR} {i : Nat} (h : x.kind = 0) : Vw.step s x i = s := by
  unfold Vw.step
  rw [h, if_neg (by omega), if_neg (by omega), if_neg (by omega)]
theorem fences0 {t e : Int} : ∀ (late : List (En LR)) (s : St LR) (i : Nat), (∀ x ∈ late, x.kind = 0 ∨ (x.task = t ∧ (2 ≤ x.kind ∧ x.kind ≤ 5) ∧ x.ep ≤ e)) → e < (jobOf s t).ep → (s.tasks t).isSome = true → run s i late = s
  | [], s, i, _, _, _ => rfl
  | x :: r, s, i, h, hs, hn => by
    rcases h x (by simp) with h0 | ⟨h1, h2, h3⟩
    · rw [run, step_zero h0]
      exact fences0 r s _ (fun y hy => h y (by simp [hy])) hs hn
    · rw [run, step_late h1 h2 h3 hs hn]
      exact fences0 r s _ (fun y hy => h y (by simp [hy])) hs hn
def fenE (t e : Int) : Ent := ⟨5, t, e, 0, 0, zR, false, [], []⟩
theorem fenE_may {t e : Int} (h1 : 0 ≤ t ∧ t < 256) (h2 : 0 ≤ e ∧ e ≤ 256) : mayB (fenE t e) = true := by
  rw [may_iff]
  refine ⟨⟨by simp [fenE], by simp [fenE]⟩, (fit_iff _).2 ?_, (fit_iff _).2 ?_, rfl, rfl, rfl, by simp [fenE], by simp [fenE], by simp [fenE], by simp [fenE], ?_⟩
  · show 0 ≤ t ∧ t ≤ 1048576; omega
  · show 0 ≤ e ∧ e ≤ 1048576; omega
  · simp [useB, fenE]
/-- Behind the fence. -/
theorem fence_st {l : List Ent} {t e : Int} (h1 : 0 ≤ t ∧ t < 256) (h2 : 0 ≤ e ∧ e < 256) : e < (jobOf (stOf (l ++ [fenE t (1 + e)])) t).ep ∧ ((stOf (l ++ [fenE t (1 + e)])).tasks t).isSome = true := by
  have hen : enOf (fenE t (1 + e)) = toEn (fenE t (1 + e)) := by unfold enOf; rw [if_pos (fenE_may h1 (by omega))]
  unfold stOf
  rw [List.map_append, run_append, List.map_cons, List.map_nil, hen, run, run]
  generalize run st0 0 (l.map enOf) = s
  unfold Vw.step
  rw [if_neg (show ¬ (toEn (fenE t (1 + e))).kind = 1 from (by decide : ¬ (5 : Nat) = 1)), if_pos (show (toEn (fenE t (1 + e))).kind = 5 from rfl)]
  constructor
  · rw [jobOf_setJ, if_pos (show t = (toEn (fenE t (1 + e))).task from rfl)]
    unfold fenceJ
    split
    · show e < 1 + e; omega
    · rename_i hh
      change ¬ _ < 1 + e at hh
      show e < (jobOf s t).ep
      change ¬ (jobOf s t).ep < 1 + e at hh
      omega
  · simp [setJ, toEn, fenE]
theorem fence_same {l K : List Ent} {t e : Int} (h1 : 0 ≤ t ∧ t < 256) (h2 : 0 ≤ e ∧ e < 256) (hK : ∀ x ∈ K, x.task = t ∧ (2 ≤ x.kind ∧ x.kind ≤ 5) ∧ x.epoch ≤ e) : stOf (l ++ [fenE t (1 + e)] ++ K) = stOf (l ++ [fenE t (1 + e)]) := by
  obtain ⟨q1, q2⟩ := fence_st (l := l) h1 h2
  conv => lhs; unfold stOf
  rw [List.map_append, run_append]
  refine fences0 _ _ _ (fun x hx => ?_) q1 q2
  obtain ⟨y, hy, rfl⟩ := List.mem_map.1 hx
  obtain ⟨k1, k2, k3⟩ := hK y hy
  unfold enOf
  split
  · exact .inr ⟨k1, by show 2 ≤ y.kind.toNat ∧ y.kind.toNat ≤ 5; omega, k3⟩
  · exact .inl rfl
theorem told_st {l m : List Ent} (h : stOf l = stOf m) : logsOf l = logsOf m ∧ tasksOf l = tasksOf m := by
  refine told_eq (fun n => by rw [show run st0 0 (l.map enOf) = run st0 0 (m.map enOf) from h]) fun t => ?_
  rw [show run st0 0 (l.map enOf) = run st0 0 (m.map enOf) from h]
  cases hq : (run st0 0 (m.map enOf)).tasks t with
  | none => exact .inl ⟨rfl, rfl⟩
  | some j => exact .inr ⟨j, j, rfl, rfl, rfl⟩
/-! ### Own rows, told otherwise -/
theorem CastL.pre : ∀ (a : List V) {r r2 : List V} {h h2 : AHeap}, CastL r h r2 h2 → CastL (a ++ r) h (a ++ r2) h2
  | [], _, _, _, _, c => c
  | x :: a, _, _, _, _, c => CastL.cons (Cast.refl _ _) (CastL.pre a c)
theorem castOwn {h : AHeap} {e : TypeId} {sz : Nat} {v : V} {cs es : List V} (o : Own h e sz v cs) (hcl : ∀ r, CastL (cs ++ r) h (es ++ r) h) (hle : es.length = cs.length) : ∃ h2, Cast v h v h2 ∧ Own h2 e sz v es ∧ Keep h h2 (isId v) := by
  rcases o with ⟨hv, hc⟩ | ⟨i, len, cap, c, ex, rfl, hi, hg, hlen, htake, hcap⟩
  · subst hc
    have : es = [] := List.length_eq_zero_iff.1 hle
    subst this
    exact ⟨h, Cast.refl _ _, .inl ⟨hv, rfl⟩, Keep.refl _ _⟩
  · have hcc : c = cs ++ c.drop (len * sz) := by rw [← htake, List.take_append_drop]
    have h1 : h.get i = .cells (cs ++ c.drop (len * sz)) e ex := by rw [← hcc]; exact hg
    refine ⟨h.set i (.cells (es ++ c.drop (len * sz)) e ex), Cast.cellC h1 (hcl _) h1 (by rw [List.length_append, List.length_append, hle]) _, .inr ⟨i, len, cap, es ++ c.drop (len * sz), ex, rfl, hi, get_set_same, by rw [hle, hlen], ?_, ?_⟩, (Keep.set _ _ _).mono fun q hq => by rw [isId]; simp [idOf, hq]⟩
    · have : len * sz = es.length := by rw [hle, hlen]
      rw [this, List.take_left']
      rfl
    · have hl : (es ++ c.drop (len * sz)).length = c.length := by conv => rhs; rw [hcc]
                                                                  rw [List.length_append, List.length_append, hle]
      rw [hl]
      exact hcap
end Go.Proofs.YtcdpepdjeneelaaDoor.Pk
