/-
  What functions of the program do, told of abstract states. Conditions: as each theorem says.
-/
import Derived.Test.YtcdpepdjeneelaaDoorVtL
import Derived.Test.YtcdpepdjeneelaaDoorAbD
import Derived.Test.YtcdpepdjeneelaaDoorAbD
namespace Go.Proofs.YtcdpepdjeneelaaDoor.Pk
open Go Go.Proofs Go.Proofs.YtcdpepdjeneelaaDoor.Ab Go.Proofs.Vw
set_option linter.unusedVariables false
set_option linter.unusedSimpArgs false
/-! ### A row whose room is known: it stays as it was when something is appended behind it -/
def OwnR (h : AHeap) (e : TypeId) (sz : Nat) (v : V) (cs : List V) : Prop := ((v = .snil ∨ v = .z0) ∧ cs = []) ∨ ∃ i len cap c ex, v = .sl i 0 len cap ∧ OwnK h e sz i len cap c ex cs
theorem OwnR.own {h : AHeap} {e : TypeId} {sz : Nat} {v : V} {cs : List V} (o : OwnR h e sz v cs) : Own h e sz v cs := by
  rcases o with o | ⟨i, len, cap, c, ex, rfl, o⟩
  · exact .inl o
  · exact o.own
theorem OwnR.keep {h h' : AHeap} {e : TypeId} {sz : Nat} {v : V} {cs : List V} {own : Nat → Prop} (o : OwnR h e sz v cs) (k : Keep h h' own) (hn : ∀ q, idOf v = some q → ¬ own q) : OwnR h' e sz v cs := by
  rcases o with o | ⟨i, len, cap, c, ex, rfl, o1, o2, o3⟩
  · exact .inl o
  · exact .inr ⟨i, len, cap, c, ex, rfl, Nat.lt_of_lt_of_le o1 k.n, (k.get i o1 (hn i rfl)).trans o2, o3⟩
theorem SWp.roomR {P : Program} {n : Nat} {c : Code} {Q : AExit → AFrame → AHeap → Prop} {f : AFrame} {h : AHeap} {t : Tmp} {e : TypeId} {sz : Nat} {cs : List V} (o : Own h e sz (f t) cs)
    (hk : ∀ f' h', (∀ k, k ≠ t → f' k = f k) → OwnR h' e sz (f' t) cs → Keep h h' (isId (f t)) → idOf (f' t) = idOf (f t) → SWp P n c Q f' h') : SWp P n c Q f h := by
  rcases o with o | ⟨i, len, cap, c0, ex, hv, hi, hg, hlen, htake, ⟨h1, h2, h3⟩ | ⟨rfl, rfl⟩⟩
  · exact hk f h (fun _ _ => rfl) (.inl o) (Keep.refl _ _) rfl
  · exact hk f h (fun _ _ => rfl) (.inr ⟨i, len, cap, c0, ex, hv, hi, hg, hlen, htake, h1, h2, h3⟩) (Keep.refl _ _) rfl
  · refine SWp.room hv hg fun C a b cc => ?_
    have ft : (f.put (some t) (.sl i 0 len C)) t = .sl i 0 len C := by simp [AFrame.put]
    have hcl : len * sz ≤ c0.length := by
      have := congrArg List.length htake
      rw [List.length_take, hlen] at this
      omega
    refine hk _ _ (fun k hk => by simp [AFrame.put, hk]) (.inr ⟨i, len, C, c0 ++ List.replicate (C * sz - c0.length) .top, none, ft, ?_, get_set_same, hlen, ?_, ?_, ?_, a⟩) ((Keep.set _ _ _).mono fun q hq => by subst hq; rw [hv]; simp [isId, idOf]) (by rw [ft, hv]; rfl)
    · rw [set_n]; exact hi
    · rw [List.take_append_of_le_length hcl]; exact htake
    · simp only [unk]; omega
    · rw [List.length_append, List.length_replicate]; omega
theorem OwnR.cast {h : AHeap} {e : TypeId} {sz : Nat} {v : V} {cs es : List V} (o : OwnR h e sz v cs) (hcl : ∀ r, CastL (cs ++ r) h (es ++ r) h) (hle : es.length = cs.length) : ∃ h2, Cast v h v h2 ∧ OwnR h2 e sz v es ∧ Keep h h2 (isId v) := by
  rcases o with ⟨hv, hc⟩ | ⟨i, len, cap, c, ex, rfl, hi, hg, hlen, htake, k1, k2, k3⟩
  · subst hc
    have : es = [] := List.length_eq_zero_iff.1 hle
    subst this
    exact ⟨h, Cast.refl _ _, .inl ⟨hv, rfl⟩, Keep.refl _ _⟩
  · have hcc : c = cs ++ c.drop (len * sz) := by rw [← htake, List.take_append_drop]
    have h1 : h.get i = .cells (cs ++ c.drop (len * sz)) e ex := by rw [← hcc]; exact hg
    have hl : (es ++ c.drop (len * sz)).length = c.length := by
      conv => rhs; rw [hcc]
      rw [List.length_append, List.length_append, hle]
    refine ⟨h.set i (.cells (es ++ c.drop (len * sz)) e ex), Cast.cellC h1 (hcl _) h1 (by rw [List.length_append, List.length_append, hle]) _, .inr ⟨i, len, cap, es ++ c.drop (len * sz), ex, rfl, hi, get_set_same, by rw [hle, hlen], ?_, k1, by rw [hl]; exact k2, k3⟩, (Keep.set _ _ _).mono fun q hq => by rw [isId]; simp [idOf, hq]⟩
    have : len * sz = es.length := by rw [hle, hlen]
    rw [this, List.take_left']
    rfl
/-- An element more, behind a row of known room: the row itself is as it was. -/
theorem OwnR.elem {P : Program} {t : TypeId} {T : SlT} (hT : slT P t = some T) {h : AHeap} {v : V} {cs xs : List V} (o : OwnR h T.e T.sz v cs) (hpos : 0 < T.sz) (hl : xs.length = T.sz) (hone : xs.all (·.one) = true)
    (hm : ∀ m, m * T.sz = cs.length + T.sz → m * T.bs ≤ lim ∧ m ≤ lim) :
    ∃ v' h', aAppend P t t v (.sl h.n 0 1 1) (h.push (.cells xs T.e none)) = some (v', h') ∧ Own h' T.e T.sz v' (cs ++ xs) ∧ Own h' T.e T.sz v cs ∧ Keep h h' (isId v) ∧ NewOr h v v' := by
  obtain ⟨v', h', ea, o1, k1, d1⟩ := append_elemM hT hpos o.own hl hone hm
  refine ⟨v', h', ea, o1, ?_, k1, d1⟩
  rcases o with ⟨hv, hc⟩ | ⟨i, len, cap, c, ex, rfl, hi, hg, hlen, htake, q1, q2, q3⟩
  · exact .inl ⟨hv, hc⟩
  · obtain ⟨he, hz, hsz, hbs, hzs, hu⟩ := slT_eq hT
    have hk := Keep.push h (.cells xs T.e none) none_
    have hgH : (h.push (.cells xs T.e none)).get i = .cells c T.e ex := (get_push_lt hi).trans hg
    have hnH : i < (h.push (.cells xs T.e none)).n := by rw [push_n]; omega
    have hcl : len * T.sz ≤ c.length := by
      have := congrArg List.length htake
      rw [List.length_take, hlen] at this
      omega
    have hsrc : aSrc P T.sz t (.sl h.n 0 1 1) (h.push (.cells xs T.e none)) = some (1, xs) := by
      simp only [aSrc, hu, AHeap.push, if_true, Nat.one_mul, Nat.zero_add, List.drop_zero]
      rw [List.take_of_length_le (by omega), if_pos ⟨by omega, hone⟩]
    unfold aAppend at ea
    simp only [he, hz, hsz, hbs, hzs, if_true, hsrc, hgH, q1] at ea
    split at ea
    · injection ea with ea
      injection ea with e1 e2
      subst e2
      exact .inr ⟨i, len, cap, c, ex, rfl, hnH, hgH, hlen, htake, .inl ⟨q1, q2, q3⟩⟩
    split at ea
    · split at ea
      · split at ea
        · injection ea with ea
          injection ea with e1 e2
          subst e2
          refine .inr ⟨i, len, cap, _, ex, rfl, hnH, get_set_same, hlen, ?_, .inl ⟨q1, ?_, q3⟩⟩
          · rw [Nat.zero_add]
            unfold Ab.lay
            rw [List.append_assoc, List.take_append_of_le_length (by rw [List.length_take]; omega), List.take_take, Nat.min_self]
            exact htake
          · rename_i hfit
            rw [length_lay _ _ _ (by rw [hl]; rw [Nat.add_mul] at hfit; omega)]
            exact q2
        · cases ea
      · split at ea
        · injection ea with ea
          injection ea with e1 e2
          subst e2
          exact .inr ⟨i, len, cap, c, ex, rfl, by rw [push_n]; omega, (get_push_lt hnH).trans hgH, hlen, htake, .inl ⟨q1, q2, q3⟩⟩
        · cases ea
    · cases ea
end Go.Proofs.YtcdpepdjeneelaaDoor.Pk
