/-
  What functions of the program do, told of abstract states. Conditions: as each theorem says.
-/
import Derived.Test.YthnleejpeocaeaaDoorExE
namespace Go.Proofs.YthnleejpeocaeaaDoor.Pk
open Go Go.Proofs Go.Proofs.YthnleejpeocaeaaDoor.Ab
set_option linter.unusedVariables false
set_option linter.unusedSimpArgs false

theorem Cast.agg {l l2 : List V} {h h2 : AHeap} (a : CastL l h l2 h2) : Cast (.agg l) h (.agg l2) h2 := fun ρ B w0 w r' hw hv => by
  cases hv with
  | agg hs hx =>
    rename_i xs
    obtain ⟨ρ1, l1, w1, v1⟩ := a ρ B w0 w xs.toList hw ⟨by simpa using hs, by simpa using hx⟩
    exact ⟨ρ1, l1, w1, v1.arr'.agg⟩
theorem castE0 (o n : Int) (h : AHeap) : Cast (.agg [.int .i64 o, .int .i64 n, .snil]) h (.agg (encE (.mk o n []))) h := by
  rw [encE_eq]
  exact Pk.Cast.agg (CastL.skip (CastL.skip (CastL.last (Cast.nil0 h))))
theorem castE {h : AHeap} {v : V} {ks : List Ex} (o n : Int) (ho : Own h 40 3 v (ks.flatMap encE)) : ∃ h2, Cast (.agg [.int .i64 o, .int .i64 n, v]) h (.agg (encE (.mk o n ks))) h2 ∧ Keep h h2 (isId v) := by
  obtain ⟨h2, c, k⟩ := Cast.own (n := ks.length) ho (rows_len encE_len ks) (by decide)
  refine ⟨h2, ?_, k⟩
  rw [encE_eq]
  exact Pk.Cast.agg (CastL.cons (Cast.refl _ _) (CastL.cons (Cast.refl _ _) (CastL.cons c (CastL.refl _ _))))
/-- A literal of kids. -/
theorem castEl (o n : Int) (ks : List Ex) (hk : ks.length < 64) (h : AHeap) : ∃ h2, Cast (.agg [.int .i64 o, .int .i64 n, .sl h.n 0 ks.length ks.length]) (h.push (.cells (ks.flatMap encE) 40 none)) (.agg (encE (.mk o n ks))) h2 ∧ Keep h h2 none_ := by
  have ho := Own.fresh' (h := h) (e := 40) (sz := 3) (ks.flatMap encE) ks.length (rows_len encE_len ks) (by unfold unk; omega)
  obtain ⟨h2, c, k⟩ := castE o n ho
  exact ⟨h2, c, (Keep.push h _ none_).trans k fun i hi hid => by simp [isId, idOf] at hid; omega⟩
theorem litE2 (h : AHeap) (a b : Ex) : aBuildSlice Tryd.prog 38 2 [(0, .agg (encE a)), (1, .agg (encE b))] h = some (.sl h.n 0 2 2, h.push (.cells ([a, b].flatMap encE) 40 none)) := by
  rw [buildSlice_go sl_38]; cases a; cases b; rfl
theorem litE3 (h : AHeap) (a b c : Ex) : aBuildSlice Tryd.prog 38 3 [(0, .agg (encE a)), (1, .agg (encE b)), (2, .agg (encE c))] h = some (.sl h.n 0 3 3, h.push (.cells ([a, b, c].flatMap encE) 40 none)) := by
  rw [buildSlice_go sl_38]; cases a; cases b; cases c; rfl
theorem KG.keep {h h' : AHeap} {M : Nat → Prop} (hg : KG h) (hk : Keep h h' M) : KG h' := by unfold KG; rw [hk.glob]; exact hg
theorem KG.or {h hs h' : AHeap} {M : Nat → Prop} (hg : KG hs) (hg2 : KG h) (hk : Keep hs h' M ∨ h' = h) : KG h' := by
  rcases hk with hk | rfl
  · exact hg.keep hk
  · exact hg2

def evO : Option Int → V
  | some n => .tuple [.int .i64 n, .int .i64 0]
  | none => .tuple [.int .i64 0, .int .i64 10]
theorem pEvalM (e : Ex) (rk rv rt acc : Int) (o : Option Int) (hm : mayX e = true) (hv : valF rk rv rt acc 16 e = o) (h : AHeap) (hg : KG h) :
    Pure Tryd.prog 14 [.agg (encE e), .agg [.int .i64 rk, .int .i64 rv, .int .i64 rt], .int .i64 acc] h (evO o) := by
  have := pEval e rk rv rt acc h hg
  rw [hm, hv] at this
  cases o <;> exact this
/-- The same, with kids that the caller has just laid. -/
theorem sEvalK (op n : Int) (ks : List Ex) (rk rv rt acc : Int) (o : Option Int) (hm : mayX (.mk op n ks) = true) (hv : valF rk rv rt acc 16 (.mk op n ks) = o) (hk : ks.length < 64) (m : Nat) (hkm : ks.length = m) (h : AHeap) (hg : KG h) :
    SCalls Tryd.prog 14 [.agg [.int .i64 op, .int .i64 n, .sl h.n 0 m m], .agg [.int .i64 rk, .int .i64 rv, .int .i64 rt], .int .i64 acc] (h.push (.cells (ks.flatMap encE) 40 none)) (fun r h' => r = evO o ∧ Keep h h' none_) := by
  subst hkm
  obtain ⟨h2, c, k⟩ := castEl op n ks hk h
  refine SCalls.args (CastL.cons c (CastL.refl _ _)) ((pEvalM _ rk rv rt acc o hm hv h2 (hg.keep k)).mono fun r h' ⟨e1, e2⟩ => ⟨e1, e2 ▸ k⟩)
/-! ### Values told in a weaker way -/
def WkV (v v2 : V) : Prop := ∀ ρ v', VRel ρ v v' → VRel ρ v2 v'
def WkL (l l2 : List V) : Prop := ∀ ρ l', LRel ρ l l' → LRel ρ l2 l'
theorem WkV.refl (v : V) : WkV v v := fun _ _ h => h
theorem WkL.refl (l : List V) : WkL l l := fun _ _ h => h
theorem WkL.cons {v v2 : V} {l l2 : List V} (a : WkV v v2) (b : WkL l l2) : WkL (v :: l) (v2 :: l2) := fun ρ l' h => by
  obtain ⟨v', t', rfl, h1, h2⟩ := h.uncons
  exact LRel.cons (a ρ v' h1) (b ρ t' h2)
theorem WkL.append {a a2 b b2 : List V} (ha : WkL a a2) (hl : a.length = a2.length) (hb : WkL b b2) : WkL (a ++ b) (a2 ++ b2) := fun ρ l' h => by
  have h1 := h.take a.length
  have h2 := h.drop a.length
  rw [List.take_left] at h1
  rw [List.drop_left] at h2
  have := (ha ρ _ h1).append (hb ρ _ h2)
  rwa [List.take_append_drop] at this
theorem WkV.snil : WkV .snil (.imm 0 []) := fun ρ v' h => by cases h; exact .immZ none 0 (by simp)
theorem WkV.imm {n : Nat} {cs cs2 : List V} (h : WkL cs cs2) (hl : cs.length = cs2.length) : WkV (.imm n cs) (.imm n cs2) := fun ρ v' hv => by
  cases hv with
  | imm o n cap hb hn ho hx =>
    rename_i b arr
    have hL : LRel ρ cs ((arr.toList.drop o).take cs.length) := by
      refine ⟨by simp; omega, fun k v v' h1 h2 => ?_⟩
      rw [List.getElem?_take] at h2
      split at h2
      · rw [List.getElem?_drop] at h2
        exact hx k v v' h1 (by simpa using h2)
      · cases h2
    have h2 := h ρ _ hL
    refine .imm o n cap hb hn (by omega) fun k v v' h3 h4 => ?_
    have hk : k < cs.length := by rw [hl]; exact (List.getElem?_eq_some_iff.1 h3).1
    refine h2.2 k v v' h3 ?_
    rw [List.getElem?_take, if_pos hk, List.getElem?_drop]
    simpa using h4
  | immZ a c ha =>
    have : cs2 = [] := List.eq_nil_of_length_eq_zero (by simpa using hl.symm)
    subst this
    exact .immZ a c ha
theorem WkV.cast {v v2 : V} (a : WkV v v2) (h : AHeap) : Cast v h v2 h := fun ρ B w0 w r' hw hv => ⟨ρ, Ren.le.refl ρ, hw, a ρ r' hv⟩
theorem wkE0 (o n : Int) : WkL [.int .i64 o, .int .i64 n, .snil] (encE (.mk o n [])) := by
  rw [encE_eq]
  exact WkL.cons (.refl _) (.cons (.refl _) (.cons .snil (.refl _)))
/-- Kids that the caller has just laid, some of them bare. -/
theorem sEvalW (op n : Int) (ks : List Ex) {cs : List V} (hw : WkL cs (ks.flatMap encE)) (hcl : cs.length = ks.length * 3) (rk rv rt acc : Int) (o : Option Int) (hm : mayX (.mk op n ks) = true) (hv : valF rk rv rt acc 16 (.mk op n ks) = o) (hk : ks.length < 64) (m : Nat) (hkm : ks.length = m) (h : AHeap) (hg : KG h) :
    SCalls Tryd.prog 14 [.agg [.int .i64 op, .int .i64 n, .sl h.n 0 m m], .agg [.int .i64 rk, .int .i64 rv, .int .i64 rt], .int .i64 acc] (h.push (.cells cs 40 none)) (fun r h' => r = evO o ∧ Keep h h' none_) := by
  subst hkm
  obtain ⟨h2, c, k⟩ := Cast.lit (h := h) (c := cs) (e := 40) (n := ks.length) (sz := 3) hcl (by unfold unk; omega) (by decide)
  have c2 : Cast (.agg [.int .i64 op, .int .i64 n, .sl h.n 0 ks.length ks.length]) (h.push (.cells cs 40 none)) (.agg (encE (.mk op n ks))) h2 := by
    rw [encE_eq]
    exact Pk.Cast.agg (CastL.cons (Cast.refl _ _) (CastL.cons (Cast.refl _ _) (CastL.cons (c.trans ((WkV.imm hw (by rw [hcl, rows_len encE_len])).cast h2)) (CastL.refl _ _))))
  refine SCalls.args (CastL.cons c2 (CastL.refl _ _)) ((pEvalM _ rk rv rt acc o hm hv h2 (hg.keep k)).mono fun r h' ⟨e1, e2⟩ => ⟨e1, e2 ▸ k⟩)
/-- A literal of kids of which the first is bare. -/
theorem litE3b (h : AHeap) (o n : Int) (b c : Ex) : aBuildSlice Tryd.prog 38 3 [(0, .agg [.int .i64 o, .int .i64 n, .snil]), (1, .agg (encE b)), (2, .agg (encE c))] h = some (.sl h.n 0 3 3, h.push (.cells ([.int .i64 o, .int .i64 n, .snil] ++ [b, c].flatMap encE) 40 none)) := by
  rw [buildSlice_go sl_38]; cases b; cases c; rfl
end Go.Proofs.YthnleejpeocaeaaDoor.Pk
