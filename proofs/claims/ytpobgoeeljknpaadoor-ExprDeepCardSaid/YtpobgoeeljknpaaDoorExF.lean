/-
  What functions of the program do, told of abstract states. Conditions: as each theorem says.
-/
import Derived.Test.YtpobgoeeljknpaaDoorExE
namespace Go.Proofs.YtpobgoeeljknpaaDoor.Pk
open Go Go.Proofs Go.Proofs.YtpobgoeeljknpaaDoor.Ab
set_option linter.unusedVariables false
set_option linter.unusedSimpArgs false

theorem Cast.agg {l l2 : List V} {h h2 : AHeap} (a : CastL l h l2 h2) : Cast (.agg l) h (.agg l2) h2 := fun ρ B w0 w r' hw hv => by
  cases hv with
  | agg hs hx =>
    rename_i xs
    obtain ⟨ρ1, l1, w1, v1⟩ := a ρ B w0 w xs.toList hw ⟨by simpa using hs, by simpa using hx⟩
    exact ⟨ρ1, l1, w1, v1.arr'.agg⟩
theorem castE0 (o n : Int) (h : AHeap) : Cast (.agg [.int .i64 o, .int .i64 n, .snil]) h (.agg (encE (.mk o n []))) h := by
  rw [encE_eq]
  exact Pk.Cast.agg (CastL.skip (CastL.skip (CastL.last (Cast.nil0 h))))
theorem castE {h : AHeap} {v : V} {ks : List Ex} (o n : Int) (ho : Own h 25 3 v (ks.flatMap encE)) : ∃ h2, Cast (.agg [.int .i64 o, .int .i64 n, v]) h (.agg (encE (.mk o n ks))) h2 ∧ Keep h h2 (isId v) := by
  obtain ⟨h2, c, k⟩ := Cast.own (n := ks.length) ho (rows_len encE_len ks) (by decide)
  refine ⟨h2, ?_, k⟩
  rw [encE_eq]
  exact Pk.Cast.agg (CastL.cons (Cast.refl _ _) (CastL.cons (Cast.refl _ _) (CastL.cons c (CastL.refl _ _))))
/-- A literal of kids. -/
theorem castEl (o n : Int) (ks : List Ex) (hk : ks.length < 64) (h : AHeap) : ∃ h2, Cast (.agg [.int .i64 o, .int .i64 n, .sl h.n 0 ks.length ks.length]) (h.push (.cells (ks.flatMap encE) 25 none)) (.agg (encE (.mk o n ks))) h2 ∧ Keep h h2 none_ := by
  have ho := Own.fresh' (h := h) (e := 25) (sz := 3) (ks.flatMap encE) ks.length (rows_len encE_len ks) (by unfold unk; omega)
  obtain ⟨h2, c, k⟩ := castE o n ho
  exact ⟨h2, c, (Keep.push h _ none_).trans k fun i hi hid => by simp [isId, idOf] at hid; omega⟩
theorem litE2 (h : AHeap) (a b : Ex) : aBuildSlice Tryd.prog 23 2 [(0, .agg (encE a)), (1, .agg (encE b))] h = some (.sl h.n 0 2 2, h.push (.cells ([a, b].flatMap encE) 25 none)) := by
  rw [buildSlice_go sl_23]; cases a; cases b; rfl
theorem litE3 (h : AHeap) (a b c : Ex) : aBuildSlice Tryd.prog 23 3 [(0, .agg (encE a)), (1, .agg (encE b)), (2, .agg (encE c))] h = some (.sl h.n 0 3 3, h.push (.cells ([a, b, c].flatMap encE) 25 none)) := by
  rw [buildSlice_go sl_23]; cases a; cases b; cases c; rfl
theorem KG.keep {h h' : AHeap} {M : Nat → Prop} (hg : KG h) (hk : Keep h h' M) : KG h' := by unfold KG; rw [hk.glob]; exact hg
theorem KG.or {h hs h' : AHeap} {M : Nat → Prop} (hg : KG hs) (hg2 : KG h) (hk : Keep hs h' M ∨ h' = h) : KG h' := by
  rcases hk with hk | rfl
  · exact hg.keep hk
  · exact hg2

theorem pCon (n : Int) (h : AHeap) : Pure Tryd.prog 17 [.int .i64 n] h (.agg (encE (.mk 1 n []))) := by
  refine Pure.of (Clo.agg (encE_clo _)) ?_
  refine SCalls.enterI (c := _) Tryd.func17 rfl (by kernel_rfl) (by simp) ?_
  simp only [wpA_region, wpA_seq, wpA_ret, seqQ_normal, endI_mk, goI_out, goI_ops, opsA_nil, opsA_cons, stepA_move, stepA_alloc, stepA_build, stepA_store, thenV_some, thenH_some, thenS_some, eval_tmp, eval_const, put_some, put_none, enterF_zero, enterF_succ, absV_int, cells_int, cells_agg, one_int, one_snil, all_nil, all_cons, aLoad_eq, loadGo_row, aPlace_ptr, dropC_cells, aStore_eq, storeGo_ptr, setC_row, setAll_nil, setAll_cons, aAlloc_eq, aBuild_go, aFill_nil, aFill_cons, fillGo_some, buildGo_struct, get_push_new, set_push, List.getElem?_cons_zero, List.getElem?_cons_succ, Nat.reduceEqDiff, Nat.reduceAdd, Nat.reduceLeDiff, reduceCtorEq, List.map_cons, List.map_nil, Option.map_some, Nat.zero_add, Nat.zero_le, List.length_cons, List.length_nil, List.drop_zero, List.take_succ_cons, List.take_nil, List.set_cons_zero, List.set_cons_succ, and_self, if_true, if_false, Bool.and_self, Nat.le_refl, lt_25, pl_25, zc_25, zt_25, resultsC_1, retA_ret, Tryd.results17, resultsC_1, resultA_cell]
  exact hid_mk ⟨_, castE0 1 n _, Keep.push _ _ _⟩
theorem pTwo (op : Int) (a b : Ex) (h : AHeap) : Pure Tryd.prog 16 [.int .i64 op, .agg (encE a), .agg (encE b)] h (.agg (encE (.mk op 0 [a, b]))) := by
  refine Pure.of (Clo.agg (encE_clo _)) ?_
  refine SCalls.enterI (c := _) Tryd.func16 rfl (by kernel_rfl) (by simp) ?_
  have hc : ∀ e : Ex, (V.agg (encE e)).cells = some (encE e) := fun _ => rfl
  have hdr : ∀ e : Ex, dropC (AObj.cells (encE e) 25 none) 0 = some (encE e) := fun e => by cases e; rfl
  have hld : ∀ e : Ex, loadGo (some (some 3)) (some (encE e)) = some (.agg (encE e)) := fun e => by cases e; rfl
  have hset : ∀ e f : Ex, setC (some 3) (AObj.cells (encE e) 25 none) 0 (encE f) = some (.cells (encE f) 25 none) := fun e f => by
    rw [setC_row (n := 3) (encE_len f) (encE_one f), if_pos (by rw [encE_len]; decide)]; cases e; cases f; rfl
  simp only [wpA_region, wpA_seq, wpA_ret, seqQ_normal, endI_mk, goI_out, goI_ops, opsA_nil, opsA_cons, stepA_move, stepA_alloc, stepA_box, stepA_build, stepA_buildSlice, stepA_load, stepA_store, thenV_some, thenH_some, thenS_some, eval_tmp, put_some, put_none, enterF_zero, enterF_succ, cells_int, cells_sl, cells_agg, one_int, one_sl, all_nil, all_cons, aLoad_eq, loadGo_row, aPlace_ptr, dropC_cells, aStore_eq, storeGo_ptr, setC_row, setAll_nil, setAll_cons, aAlloc_eq, aBox_eq, aBuild_go, aFill_nil, aFill_cons, fillGo_some, buildGo_struct, push_n, get_push3a, get_push3b, get_push4c, set_push4c, List.getElem?_cons_zero, List.getElem?_cons_succ, Nat.reduceEqDiff, Nat.reduceAdd, Nat.reduceLeDiff, reduceCtorEq, List.map_cons, List.map_nil, Option.map_some, Nat.zero_add, Nat.zero_le, List.length_cons, List.length_nil, List.drop_zero, List.take_succ_cons, List.take_nil, List.set_cons_zero, List.set_cons_succ, and_self, if_true, if_false, Bool.and_self, Nat.le_refl, lt_25, pl_25, zc_25, zt_25, hc, hdr, hld, litE2, retA_ret, Tryd.results16, resultsC_1, resultA_cell]
  obtain ⟨h2, c, k⟩ := castEl op 0 [a, b] (by simp) (((h.push (.cells (encE a) 25 none)).push (.cells (encE b) 25 none)).push (.cells [.int .i64 op, .int .i64 0, .sl (h.n + 1 + 1 + 1) 0 2 2] 25 none))
  exact hid_mk ⟨h2, c, (((Keep.push h _ none_).then_push _).then_push _).trans' k⟩

def evO : Option Int → V
  | some n => .tuple [.int .i64 n, .int .i64 0]
  | none => .tuple [.int .i64 0, .int .i64 10]
theorem pEvalM (e : Ex) (rk rv rt acc : Int) (o : Option Int) (hm : mayX e = true) (hv : valF rk rv rt acc 16 e = o) (h : AHeap) (hg : KG h) :
    Pure Tryd.prog 18 [.agg (encE e), .agg [.int .i64 rk, .int .i64 rv, .int .i64 rt], .int .i64 acc] h (evO o) := by
  have := pEval e rk rv rt acc h hg
  rw [hm, hv] at this
  cases o <;> exact this
/-- The same, with kids that the caller has just laid. -/
theorem sEvalK (op n : Int) (ks : List Ex) (rk rv rt acc : Int) (o : Option Int) (hm : mayX (.mk op n ks) = true) (hv : valF rk rv rt acc 16 (.mk op n ks) = o) (hk : ks.length < 64) (m : Nat) (hkm : ks.length = m) (h : AHeap) (hg : KG h) :
    SCalls Tryd.prog 18 [.agg [.int .i64 op, .int .i64 n, .sl h.n 0 m m], .agg [.int .i64 rk, .int .i64 rv, .int .i64 rt], .int .i64 acc] (h.push (.cells (ks.flatMap encE) 25 none)) (fun r h' => r = evO o ∧ Keep h h' none_) := by
  subst hkm
  obtain ⟨h2, c, k⟩ := castEl op n ks hk h
  refine SCalls.args (CastL.cons c (CastL.refl _ _)) ((pEvalM _ rk rv rt acc o hm hv h2 (hg.keep k)).mono fun r h' ⟨e1, e2⟩ => ⟨e1, e2 ▸ k⟩)
theorem pTwoL (op o1 n1 : Int) (b : Ex) (h : AHeap) : Pure Tryd.prog 16 [.int .i64 op, .agg [.int .i64 o1, .int .i64 n1, .snil], .agg (encE b)] h (.agg (encE (.mk op 0 [.mk o1 n1 [], b]))) :=
  Pure.args (CastL.skip (CastL.cons (castE0 o1 n1 h) (CastL.refl _ _))) (pTwo op _ b h)
theorem pTwoR (op o1 n1 : Int) (a : Ex) (h : AHeap) : Pure Tryd.prog 16 [.int .i64 op, .agg (encE a), .agg [.int .i64 o1, .int .i64 n1, .snil]] h (.agg (encE (.mk op 0 [a, .mk o1 n1 []]))) :=
  Pure.args (CastL.skip (CastL.skip (CastL.last (castE0 o1 n1 h)))) (pTwo op a _ h)
theorem pTwoLR (op o1 n1 o2 n2 : Int) (h : AHeap) : Pure Tryd.prog 16 [.int .i64 op, .agg [.int .i64 o1, .int .i64 n1, .snil], .agg [.int .i64 o2, .int .i64 n2, .snil]] h (.agg (encE (.mk op 0 [.mk o1 n1 [], .mk o2 n2 []]))) :=
  Pure.args (CastL.skip (CastL.cons (castE0 o1 n1 h) (CastL.last (castE0 o2 n2 h)))) (pTwo op _ _ h)
/-! ### Values told in a weaker way -/
def WkV (v v2 : V) : Prop := ∀ ρ v', VRel ρ v v' → VRel ρ v2 v'
def WkL (l l2 : List V) : Prop := ∀ ρ l', LRel ρ l l' → LRel ρ l2 l'
theorem WkV.refl (v : V) : WkV v v := fun _ _ h => h
theorem WkL.refl (l : List V) : WkL l l := fun _ _ h => h
theorem WkL.cons {v v2 : V} {l l2 : List V} (a : WkV v v2) (b : WkL l l2) : WkL (v :: l) (v2 :: l2) := fun ρ l' h => by
  obtain ⟨v', t', rfl, h1, h2⟩ := h.uncons
  exact LRel.cons (a ρ v' h1) (b ρ t' h2)
theorem WkL.append {a a2 b b2 : List V} (ha : WkL a a2) (hl : a.length = a2.length) (hb : WkL b b2) : WkL (a ++ b) (a2 ++ b2) := fun ρ l' h => by
  have h1 := h.take a.length
  have h2 := h.drop a.length
  rw [List.take_left] at h1
  rw [List.drop_left] at h2
  have := (ha ρ _ h1).append (hb ρ _ h2)
  rwa [List.take_append_drop] at this
theorem WkV.snil : WkV .snil (.imm 0 []) := fun ρ v' h => by cases h; exact .immZ none 0 (by simp)
theorem WkV.imm {n : Nat} {cs cs2 : List V} (h : WkL cs cs2) (hl : cs.length = cs2.length) : WkV (.imm n cs) (.imm n cs2) := fun ρ v' hv => by
  cases hv with
  | imm o n cap hb hn ho hx =>
    rename_i b arr
    have hL : LRel ρ cs ((arr.toList.drop o).take cs.length) := by
      refine ⟨by simp; omega, fun k v v' h1 h2 => ?_⟩
      rw [List.getElem?_take] at h2
      split at h2
      · rw [List.getElem?_drop] at h2
        exact hx k v v' h1 (by simpa using h2)
      · cases h2
    have h2 := h ρ _ hL
    refine .imm o n cap hb hn (by omega) fun k v v' h3 h4 => ?_
    have hk : k < cs.length := by rw [hl]; exact (List.getElem?_eq_some_iff.1 h3).1
    refine h2.2 k v v' h3 ?_
    rw [List.getElem?_take, if_pos hk, List.getElem?_drop]
    simpa using h4
  | immZ a c ha =>
    have : cs2 = [] := List.eq_nil_of_length_eq_zero (by simpa using hl.symm)
    subst this
    exact .immZ a c ha
theorem WkV.cast {v v2 : V} (a : WkV v v2) (h : AHeap) : Cast v h v2 h := fun ρ B w0 w r' hw hv => ⟨ρ, Ren.le.refl ρ, hw, a ρ r' hv⟩
theorem wkE0 (o n : Int) : WkL [.int .i64 o, .int .i64 n, .snil] (encE (.mk o n [])) := by
  rw [encE_eq]
  exact WkL.cons (.refl _) (.cons (.refl _) (.cons .snil (.refl _)))
/-- Kids that the caller has just laid, some of them bare. -/
theorem sEvalW (op n : Int) (ks : List Ex) {cs : List V} (hw : WkL cs (ks.flatMap encE)) (hcl : cs.length = ks.length * 3) (rk rv rt acc : Int) (o : Option Int) (hm : mayX (.mk op n ks) = true) (hv : valF rk rv rt acc 16 (.mk op n ks) = o) (hk : ks.length < 64) (m : Nat) (hkm : ks.length = m) (h : AHeap) (hg : KG h) :
    SCalls Tryd.prog 18 [.agg [.int .i64 op, .int .i64 n, .sl h.n 0 m m], .agg [.int .i64 rk, .int .i64 rv, .int .i64 rt], .int .i64 acc] (h.push (.cells cs 25 none)) (fun r h' => r = evO o ∧ Keep h h' none_) := by
  subst hkm
  obtain ⟨h2, c, k⟩ := Cast.lit (h := h) (c := cs) (e := 25) (n := ks.length) (sz := 3) hcl (by unfold unk; omega) (by decide)
  have c2 : Cast (.agg [.int .i64 op, .int .i64 n, .sl h.n 0 ks.length ks.length]) (h.push (.cells cs 25 none)) (.agg (encE (.mk op n ks))) h2 := by
    rw [encE_eq]
    exact Pk.Cast.agg (CastL.cons (Cast.refl _ _) (CastL.cons (Cast.refl _ _) (CastL.cons (c.trans ((WkV.imm hw (by rw [hcl, rows_len encE_len])).cast h2)) (CastL.refl _ _))))
  refine SCalls.args (CastL.cons c2 (CastL.refl _ _)) ((pEvalM _ rk rv rt acc o hm hv h2 (hg.keep k)).mono fun r h' ⟨e1, e2⟩ => ⟨e1, e2 ▸ k⟩)
/-- A literal of kids of which the first is bare. -/
theorem litE3b (h : AHeap) (o n : Int) (b c : Ex) : aBuildSlice Tryd.prog 23 3 [(0, .agg [.int .i64 o, .int .i64 n, .snil]), (1, .agg (encE b)), (2, .agg (encE c))] h = some (.sl h.n 0 3 3, h.push (.cells ([.int .i64 o, .int .i64 n, .snil] ++ [b, c].flatMap encE) 25 none)) := by
  rw [buildSlice_go sl_23]; cases b; cases c; rfl
end Go.Proofs.YtpobgoeeljknpaaDoor.Pk
