/-
  What functions of the program do, told of abstract states. Conditions: as each theorem says.
-/
import Derived.Test.YtihgdbelfjdajaaWiU
namespace Go.Proofs.Ytihgdbelfjdajaa.Pk
open Go Go.Proofs Go.Proofs.Ytihgdbelfjdajaa.Ab
set_option linter.unusedVariables false
set_option linter.unusedSimpArgs false
/-! ### A store, and another one that does what the first one tells -/
structure StW (h : AHeap) (i m : Nat) (n : Int) (l : Ent) (cl : Nat) : Prop where
  k : IsWin h i m 1024 n (wE l) cl
  st : Stamps (wE l) cl
  nd : KNodup l
  fr : ∀ e ∈ l, 0 ≤ e.2.1.2 ∧ e.2.1.2 ≤ 1099511627776 ∧ frW n e.2.1.2 = e.2.1.2
theorem StW.keep {h h' : AHeap} {i m : Nat} {n : Int} {l : Ent} {cl : Nat} {own : Nat → Prop} (w : StW h i m n l cl) (hk : Keep h h' own) (hi : ¬ own i) (hm : ¬ own m) : StW h' i m n l cl :=
  ⟨⟨(hk.get i w.k.lt hi).trans w.k.get, (hk.get m w.k.ml hm).trans w.k.map, w.k.ne, Nat.lt_of_lt_of_le w.k.lt hk.n, Nat.lt_of_lt_of_le w.k.ml hk.n, w.k.s1, w.k.s2⟩, w.st, w.nd, w.fr⟩
theorem StW.keepN {h h' : AHeap} {i m : Nat} {n : Int} {l : Ent} {cl : Nat} (w : StW h i m n l cl) (hk : Keep h h' none_) : StW h' i m n l cl := w.keep hk (fun h => h) (fun h => h)
theorem frE {n t : Int} (h0 : 0 ≤ t) : frW n t = t - t % n := by unfold frW; rw [Int.tmod_eq_emod_of_nonneg h0]
theorem frW_idem {n t : Int} (h0 : 0 ≤ t) (h1 : 1 ≤ n) : frW n (frW n t) = frW n t := by
  have h2 : 0 ≤ frW n t := (frW_rng h0 h1).1
  rw [frE h2, frE h0]
  have : (t - t % n) % n = 0 := Int.emod_eq_zero_of_dvd (Int.dvd_self_sub_of_emod_eq rfl)
  omega
theorem StW.set {h : AHeap} {i m : Nat} {n : Int} {l : Ent} {cl : Nat} {key fr val : Int} (k : IsWin h i m 1024 n (wE (kset cl l (key, fr) val)) (kclk cl l (key, fr))) (st : Stamps (wE l) cl) (nd : KNodup l)
    (hf : ∀ e ∈ l, 0 ≤ e.2.1.2 ∧ e.2.1.2 ≤ 1099511627776 ∧ frW n e.2.1.2 = e.2.1.2) (h0 : 0 ≤ fr) (h1 : fr ≤ 1099511627776) (h2 : frW n fr = fr) : StW h i m n (kset cl l (key, fr) val) (kclk cl l (key, fr)) :=
  ⟨k, st.kset _ _, nd.set _ _ _, fun e he => by
    rcases kset_mem he with h | h
    · rw [h]; exact ⟨h0, h1, h2⟩
    · exact hf e h⟩
theorem putW (h : AHeap) (i m cl : Nat) (n key time val : Int) (l : Ent) (w : StW h i m n l cl) (hl : l.length < 1024) :
    SCalls Try.prog 10 [.ptr i 0, .int .i64 key, .int .i64 time, .int .i64 val] h (fun r h' => ∃ (l' : Ent) (cl' : Nat) (c : Chg) (e : Int), r = .tuple [.agg (chgE c), .int .i64 e] ∧ StW h' i m n l' cl' ∧ Keep h h' (fun q => q = m) ∧
      (((e == 0) = false ∧ l' = l) ∨ ((e == 0) = true ∧ ∃ fr, 0 ≤ fr ∧ fr ≤ 1099511627776 ∧ frW n fr = fr ∧ c = ⟨key, fr, fr + n, val, false⟩ ∧ l' = kset cl l (key, fr) val))) := by
  by_cases hb : time < 0 ∨ 1099511627776 < time
  · exact (winPutBad h i m cl 1024 n key time val _ w.k hb).mono fun r h' ⟨e, e2⟩ => ⟨l, cl, _, _, e, e2 ▸ w, e2 ▸ Keep.refl _ _, .inl ⟨rfl, rfl⟩⟩
  · have h0 : 0 ≤ time := by omega
    obtain ⟨f0, f1, f2⟩ := frW_rng h0 w.k.s1
    have fi := frW_idem h0 w.k.s1
    exact (winPutOk h i m cl 1024 n key time val l w.k (.inr (by omega)) h0 (by omega)).mono fun r h' ⟨e, k, kp⟩ => ⟨_, _, _, _, e, StW.set k w.st w.nd w.fr f0 (by omega) fi, kp, .inr ⟨rfl, _, f0, by omega, fi, rfl, rfl⟩⟩
theorem doSetW (h : AHeap) (i m cl : Nat) (n key fr val : Int) (l : Ent) (w : StW h i m n l cl) (hl : l.length < 1024) (h0 : 0 ≤ fr) (h1 : fr ≤ 1099511627776) (h2 : frW n fr = fr) :
    SCalls Try.prog 9 [.ptr i 0, .agg (chgE ⟨key, fr, fr + n, val, false⟩)] h (fun r h' => r = .int .i64 0 ∧ ∃ cl', StW h' i m n (kset cl l (key, fr) val) cl' ∧ Keep h h' (fun q => q = m)) :=
  (winDoSet h i m cl 1024 n key fr val l w.k h0 h1 h2 (.inr (by omega))).mono fun r h' ⟨e, k, kp⟩ => ⟨e, _, StW.set k w.st w.nd w.fr h0 h1 h2, kp⟩
theorem doDelW (h : AHeap) (i m cl : Nat) (n key fr : Int) (l : Ent) (w : StW h i m n l cl) (h0 : 0 ≤ fr) (h1 : fr ≤ 1099511627776) (h2 : frW n fr = fr) (hg : (kget l (key, fr)).isSome = true) :
    SCalls Try.prog 9 [.ptr i 0, .agg (chgE ⟨key, fr, fr + n, 0, true⟩)] h (fun r h' => r = .int .i64 0 ∧ StW h' i m n (kdel l (key, fr)) cl ∧ Keep h h' (fun q => q = m)) :=
  (winDoDel h i m cl 1024 n key fr l w.k h0 h1 h2 hg).mono fun r h' ⟨e, k, kp⟩ => ⟨e, ⟨k, w.st.kdel _, w.nd.del _, fun e he => w.fr e ((kdel_sub _ _).subset he)⟩, kp⟩
/-! ### What two stores have, key by key -/
theorem kget_mem : ∀ {l : Ent} {k : Int × Int} {v : Int}, kget l k = some v → ∃ e ∈ l, e.2 = (k, v)
  | [], k, v, h => by simp [kget] at h
  | e :: l, k, v, h => by
    unfold kget at h
    split at h
    · rename_i hk
      exact ⟨e, by simp, Prod.ext (by first | exact hk | exact hk.symm) (Option.some.inj h)⟩
    · obtain ⟨x, hx, he⟩ := kget_mem h
      exact ⟨x, List.mem_cons_of_mem _ hx, he⟩
theorem kperm {a b : Ent} (na : KNodup a) (nb : KNodup b) (h : ∀ x, kget a x = kget b x) : (a.map (·.2)).Perm (b.map (·.2)) := by
  have nn : ∀ {l : Ent}, KNodup l → (l.map (·.2)).Nodup := fun {l} hl => by
    unfold KNodup at hl
    have : l.map (·.2.1) = (l.map (·.2)).map (·.1) := by rw [List.map_map]; rfl
    rw [this] at hl
    exact (List.pairwise_map.1 hl).imp fun h e => h (by rw [e])
  rw [List.perm_ext_iff_of_nodup (nn na) (nn nb)]
  have key : ∀ {a b : Ent}, KNodup a → (∀ x, kget a x = kget b x) → ∀ p, p ∈ a.map (·.2) → p ∈ b.map (·.2) := fun {a b} na h p hp => by
    obtain ⟨e, he, rfl⟩ := List.mem_map.1 hp
    have := kmem na he
    rw [h] at this
    obtain ⟨x, hx, hxe⟩ := kget_mem this
    exact List.mem_map.2 ⟨x, hx, hxe⟩
  exact fun p => ⟨key na h p, key nb (fun x => (h x).symm) p⟩
theorem kget_filter (n before : Int) : ∀ (l : Ent) (x : Int × Int), kget (l.filter fun e => !gnW n before e) x = if x.2 + n ≤ before then none else kget l x
  | [], x => by simp [kget]
  | e :: l, x => by
    have ih := kget_filter n before l x
    by_cases hg : gnW n before e = true
    · rw [List.filter_cons_of_neg (by simp [hg]), ih]
      have hg' : e.2.1.2 + n ≤ before := by simpa [gnW] using hg
      by_cases hx : x.2 + n ≤ before
      · rw [if_pos hx, if_pos hx]
      · rw [if_neg hx, if_neg hx]
        conv => rhs; unfold kget
        rw [if_neg (fun hh => hx (by first | (rw [← hh]; exact hg') | (rw [hh]; exact hg')))]
    · have hg' : ¬ e.2.1.2 + n ≤ before := by simpa [gnW] using hg
      rw [List.filter_cons_of_pos (by simp [hg])]
      conv => lhs; unfold kget
      conv => rhs; unfold kget
      by_cases hk : x = e.2.1
      · subst hk
        simp [hg']
      · have hk' : ¬ e.2.1 = x := fun h => hk h.symm
        simp only [hk, hk', if_false]
        exact ih
/-- The changes of what has ended: each tells a place of its own. -/
theorem gone_facts {n before : Int} {l : Ent} (hk : KNodup l) {lc : List Chg} (p : lc.Perm ((l.filter (gnW n before)).map (goneW n))) :
    (lc.map plC).Nodup ∧ (∀ c ∈ lc, ∃ e ∈ l, c = ⟨e.2.1.1, e.2.1.2, e.2.1.2 + n, 0, true⟩ ∧ e.2.1.2 + n ≤ before) ∧ ∀ x, x.2 + n ≤ before → (kget l x).isSome = true → x ∈ lc.map plC := by
  refine ⟨?_, fun c hc => ?_, fun x hx hs => ?_⟩
  · rw [(p.map plC).nodup_iff, List.map_map]
    have : (plC ∘ goneW n) = fun e : Nat × (Int × Int) × Int => e.2.1 := rfl
    rw [this]
    exact List.Nodup.sublist (List.filter_sublist.map _) hk
  · obtain ⟨e, he, rfl⟩ := List.mem_map.1 (p.subset hc)
    obtain ⟨h1, h2⟩ := List.mem_filter.1 he
    exact ⟨e, h1, rfl, by simpa [gnW] using h2⟩
  · obtain ⟨v, hv⟩ := Option.isSome_iff_exists.1 hs
    obtain ⟨e, he, hee⟩ := kget_mem hv
    refine ((p.map plC).mem_iff).2 (List.mem_map.2 ⟨goneW n e, List.mem_map.2 ⟨e, List.mem_filter.2 ⟨he, ?_⟩, rfl⟩, ?_⟩)
    · have : e.2.1 = x := congrArg Prod.fst hee
      simp only [gnW, decide_eq_true_eq, this]; exact hx
    · exact congrArg Prod.fst hee
end Go.Proofs.Ytihgdbelfjdajaa.Pk
