/-
  What functions of the program do, told of abstract states. Conditions: as each theorem says.
-/
import Derived.Test.YtpmmbcifhallbaaDoorExB
namespace Go.Proofs.YtpmmbcifhallbaaDoor.Pk
open Go Go.Proofs Go.Proofs.YtpmmbcifhallbaaDoor.Ab
set_option linter.unusedVariables false
set_option linter.unusedSimpArgs false
theorem Cast.agg {l l2 : List V} {h h2 : AHeap} (a : CastL l h l2 h2) : Cast (.agg l) h (.agg l2) h2 := fun ρ B w0 w r' hw hv => by
  cases hv with
  | agg hs hx =>
    rename_i xs
    obtain ⟨ρ1, l1, w1, v1⟩ := a ρ B w0 w xs.toList hw ⟨by simpa using hs, by simpa using hx⟩
    exact ⟨ρ1, l1, w1, v1.arr'.agg⟩
theorem castE0 (o n : Int) (h : AHeap) : Cast (.agg [.int .i64 o, .int .i64 n, .snil]) h (.agg (encE (.mk o n []))) h := by
  rw [encE_eq]
  exact Pk.Cast.agg (CastL.skip (CastL.skip (CastL.last (Cast.nil0 h))))
theorem castE {h : AHeap} {v : V} {ks : List Ex} (o n : Int) (ho : Own h 45 3 v (ks.flatMap encE)) : ∃ h2, Cast (.agg [.int .i64 o, .int .i64 n, v]) h (.agg (encE (.mk o n ks))) h2 ∧ Keep h h2 (isId v) := by
  obtain ⟨h2, c, k⟩ := Cast.own (n := ks.length) ho (rows_len encE_len ks) (by decide)
  refine ⟨h2, ?_, k⟩
  rw [encE_eq]
  exact Pk.Cast.agg (CastL.cons (Cast.refl _ _) (CastL.cons (Cast.refl _ _) (CastL.cons c (CastL.refl _ _))))
/-- A literal of kids. -/
theorem castEl (o n : Int) (ks : List Ex) (hk : ks.length < 64) (h : AHeap) : ∃ h2, Cast (.agg [.int .i64 o, .int .i64 n, .sl h.n 0 ks.length ks.length]) (h.push (.cells (ks.flatMap encE) 45 none)) (.agg (encE (.mk o n ks))) h2 ∧ Keep h h2 none_ := by
  have ho := Own.fresh' (h := h) (e := 45) (sz := 3) (ks.flatMap encE) ks.length (rows_len encE_len ks) (by unfold unk; omega)
  obtain ⟨h2, c, k⟩ := castE o n ho
  exact ⟨h2, c, (Keep.push h _ none_).trans k fun i hi hid => by simp [isId, idOf] at hid; omega⟩
theorem KG.keep {h h' : AHeap} {M : Nat → Prop} (hg : KG h) (hk : Keep h h' M) : KG h' := by unfold KG; rw [hk.glob]; exact hg
theorem KG.or {h hs h' : AHeap} {M : Nat → Prop} (hg : KG hs) (hg2 : KG h) (hk : Keep hs h' M ∨ h' = h) : KG h' := by
  rcases hk with hk | rfl
  · exact hg.keep hk
  · exact hg2

/-! ### How many, and which operations -/
/-- All lists of kids are shorter than memory. -/
inductive OkE : Ex → Prop
  | mk (o n : Int) (l : List Ex) (hl : l.length < 2 ^ 47) (h : ∀ k ∈ l, OkE k) (ho : -2 ^ 63 ≤ o ∧ o < 2 ^ 63) (hn : -2 ^ 63 ≤ n ∧ n < 2 ^ 63) : OkE (.mk o n l)
theorem OkE.len {e : Ex} (h : OkE e) : e.ks.length < 2 ^ 47 := by cases h; assumption
theorem OkE.kid {e : Ex} (h : OkE e) : ∀ k ∈ e.ks, OkE k := by cases h; assumption
/-- What the cells of an expression that came in are. -/
def QE (l : List V) : Prop := ∃ e : Ex, OkE e ∧ l = encE e
theorem qE : ∀ l, ShQ.fitsQ QE (.cat (.int .i64) (.cat (.int .i64) (.cat (.sl (.ext 3)) .unit))) l → QE l := fun l h => by
  obtain ⟨l1, _, rfl, ⟨o, rfl, w1⟩, l2, _, rfl, ⟨n, rfl, w2⟩, l3, _, rfl, ⟨es, rfl, hn, hes⟩, rfl⟩ := h
  have : ∃ ks : List Ex, (∀ k ∈ ks, OkE k) ∧ es.length = ks.length ∧ es.flatten = ks.flatMap encE := by
    clear hn
    induction es with
    | nil => exact ⟨[], by simp, rfl, rfl⟩
    | cons a r ih =>
      obtain ⟨ks, h1, h2, h3⟩ := ih fun e he => hes e (by simp [he])
      obtain ⟨⟨k, hk, rfl⟩, _⟩ := hes a (by simp)
      refine ⟨k :: ks, fun x hx => ?_, by simp [h2], by simp [h3]⟩
      rcases List.mem_cons.1 hx with rfl | hx
      · exact hk
      · exact h1 x hx
  obtain ⟨ks, h1, h2, h3⟩ := this
  refine ⟨.mk o n ks, .mk o n ks (by omega) h1 (wf_i64 w1) (wf_i64 w2), ?_⟩
  rw [encE_eq, h2, h3]
  rfl
mutual
def szE : Ex → Nat
  | .mk _ _ l => szL l + 1
def szL : List Ex → Nat
  | [] => 0
  | k :: r => szE k + szL r
end
theorem szL_drop {l : List Ex} {i : Nat} (hi : i < l.length) : szL (l.take (i + 1)) = szL (l.take i) + szE l[i] := by
  induction l generalizing i with
  | nil => simp at hi
  | cons a r ih =>
    cases i with
    | zero => simp [szL]
    | succ i => simp only [List.take_succ_cons, szL, List.getElem_cons_succ]; rw [ih (by simpa using hi)]; omega
theorem szE_kid {e : Ex} : ∀ k ∈ e.ks, szE k < szE e := by
  obtain ⟨o, n, l⟩ := e
  have : ∀ (l : List Ex) (k : Ex), k ∈ l → szE k ≤ szL l := fun l => by
    induction l with
    | nil => intro k hk; simp at hk
    | cons a r ih =>
      intro k hk
      rcases List.mem_cons.1 hk with rfl | hk
      · simp [szL]
      · have := ih k hk; simp only [szL]; omega
  intro k hk
  have := this l k hk
  simp only [szE]; omega
theorem wrap_add (a b : Int) : IntKind.i64.wrap (IntKind.i64.wrap a + IntKind.i64.wrap b) = IntKind.i64.wrap (a + b) := by
  rw [IntKind.wrap_i64, IntKind.wrap_i64 a, IntKind.wrap_i64 b, IntKind.wrap_i64 (a + b)]; omega

set_option maxRecDepth 10000 in
theorem pCountR : ∀ (s : Nat) (e : Ex) (h : AHeap), szE e = s → OkE e → Pure Tryd.prog 24 [.agg (encE e)] h (.int .i64 (IntKind.i64.wrap (szE e : Nat))) := by
  intro s
  induction s using Nat.strongRecOn with
  | _ s ih =>
  intro e h hs hok
  obtain ⟨o, n, ks⟩ := e
  refine Pure.val (Clo.int _ _) ?_
  have hlen := hok.len
  simp only [Ex.ks] at hlen
  refine SCalls.enterI (c := _) Tryd.func24 rfl (by kernel_rfl) (by simp) ?_
  have hc : (V.agg (encE (.mk o n ks))).cells = some (encE (.mk o n ks)) := rfl
  have hd2 : dropC (AObj.cells (encE (.mk o n ks)) 45 none) 2 = some [.imm ks.length (ks.flatMap encE)] := by rw [encE_eq]; rfl
  simp only [wpA_region, wpA_seq, wpA_block, wpA_loop, seqQ_normal, goI_out, goI_ops, opsA_nil, opsA_cons, stepA_assign, stepA_box, thenH_some, eval_tmp, eval_const, enterF_zero, absV_int, aBox_eq, Option.map_some, hc]
  refine SWp.loopG (α := Nat) (fun i f h' => f 1 = .ptr h.n 0 ∧ f 4 = .int .i64 (i : Nat) ∧ f 3 = .int .i64 (IntKind.i64.wrap ((szL (ks.take i) + 1 : Nat) : Int)) ∧ i ≤ ks.length ∧ h' = h.push (.cells (encE (.mk o n ks)) 45 none)) (fun i => ks.length - i) 0 ⟨rfl, rfl, rfl, Nat.zero_le _, rfl⟩ ?_
  rintro i f h' ⟨f1, f4, f3, hi, rfl⟩
  refine wpI_sound (by kernel_rfl) ?_
  by_cases hlt : i < ks.length
  rotate_left
  · have c3 : decide ((i : Int) < ((ks.length : Nat) : Int)) = false := by simp only [decide_eq_false_iff_not]; omega
    rw [List.take_of_length_le (by omega)] at f3
    simp only [wpA_region, wpA_seq, wpA_cond, wpA_exit, wpA_ret, condI_false, seqQ_normal, seqQ_exit, blkQ_exit, endI_mk, goE, andThen_exit, goI_out, goI_ops, opsA_nil, opsA_cons, stepA_move, stepA_assign, stepA_load, stepA_binOp, stepA_fieldAddr, stepA_len, thenV_some, eval_tmp, put_some, aBin_lss, aField_eq, fieldGo_ptr, aLoad_eq, loadGo_one, aPlace_ptr, aLen_imm, get_push_new, Nat.reduceEqDiff, Nat.zero_add, if_true, if_false, ft_45_2, kt_43, lt_43, f1, f4, f3, hd2, c3, retA_ret, Tryd.results24, resultsA_1]
    exact hid_mk ⟨by simp [szE], Keep.push _ _ _⟩
  · have c3 : decide ((i : Int) < ((ks.length : Nat) : Int)) = true := by simp only [decide_eq_true_eq]; omega
    have x0 := ex_ix (kk := .i64) hlt
    have hsz := szL_drop hlt
    have hkid : ks[i] ∈ (Ex.mk o n ks).ks := List.getElem_mem hlt
    have hlt2 := szE_kid _ hkid
    have hok2 := hok.kid _ hkid
    generalize ks[i] = A at *
    have lr : ∀ (q : List V), loadGo (some (some 3)) (some (encE A ++ q)) = some (.agg (encE A)) := fun q => load_row (encE_len A)
    have w2 : IntKind.i64.wrap (((i : Nat) : Int) + 1) = ((i + 1 : Nat) : Int) := by rw [Go.IntWalk.i64_in _ (by omega)]; omega
    have w3 : IntKind.i64.wrap (IntKind.i64.wrap ((szL (ks.take i) + 1 : Nat) : Int) + IntKind.i64.wrap ((szE A : Nat) : Int)) = IntKind.i64.wrap ((szL (ks.take (i + 1)) + 1 : Nat) : Int) := by rw [wrap_add, hsz]; congr 1; omega
    simp only [wpA_skip, wpA_region, wpA_seq, wpA_cond, wpA_block, condI_true, seqQ_normal, goI_out, goI_ops, opsA_nil, opsA_cons, stepA_move, stepA_load, stepA_binOp, stepA_fieldAddr, stepA_indexAddr, stepA_len, stepA_call, thenV_some, eval_tmp, put_some, aBin_lss, aField_eq, fieldGo_ptr, aLoad_eq, loadGo_one, aPlace_ptr, aPlace_at, aLen_imm, get_push_new, Nat.reduceEqDiff, List.map_cons, List.map_nil, Nat.zero_add, if_true, if_false, ft_45_2, kt_43, lt_43, lt_45, f1, f4, f3, hd2, c3, x0, lr]
    refine callI_pure cal24 (ih (szE A) (by omega) A _ rfl hok2) ?_
    simp only [wpA_region, seqQ_normal, blkQ_normal, endI_mk, andThen_normal, goI_out, goI_ops, opsA_nil, opsA_cons, stepA_move, stepA_assign, stepA_binOp, thenV_some, eval_tmp, eval_const, put_some, aBin_add, absV_int, Nat.reduceEqDiff, if_true, if_false, f4, w2, w3]
    exact hid_mk ⟨i + 1, ⟨f1, rfl, rfl, by omega, rfl⟩, by omega⟩

mutual
def useX (op : Int) : Ex → Bool
  | .mk o _ l => o == op || useL op l
def useL (op : Int) : List Ex → Bool
  | [] => false
  | k :: r => useX op k || useL op r
end
set_option maxRecDepth 10000 in
theorem pUses (op : Int) : ∀ (s : Nat) (e : Ex) (h : AHeap), szE e = s → OkE e → Pure Tryd.prog 83 [.agg (encE e), .int .i64 op] h (.bool (useX op e)) := by
  intro s
  induction s using Nat.strongRecOn with
  | _ s ih =>
  intro e h hs hok
  obtain ⟨o, n, ks⟩ := e
  refine Pure.val (Clo.bool _) ?_
  have hlen := hok.len
  simp only [Ex.ks] at hlen
  refine SCalls.enterI (c := _) Tryd.func83 rfl (by kernel_rfl) (by simp) ?_
  have hc : (V.agg (encE (.mk o n ks))).cells = some (encE (.mk o n ks)) := rfl
  have hd0 : dropC (AObj.cells (encE (.mk o n ks)) 45 none) 0 = some [.int .i64 o, .int .i64 n, .imm ks.length (ks.flatMap encE)] := by rw [encE_eq]; rfl
  have hd2 : dropC (AObj.cells (encE (.mk o n ks)) 45 none) 2 = some [.imm ks.length (ks.flatMap encE)] := by rw [encE_eq]; rfl
  by_cases ho : o = op
  · have c : (o == op) = true := by simp [ho]
    simp only [wpA_region, wpA_seq, wpA_cond, wpA_ret, condI_true, seqQ_normal, seqQ_ret, endI_mk, goI_out, goI_ops, opsA_nil, opsA_cons, stepA_move, stepA_assign, stepA_box, stepA_load, stepA_binOp, stepA_fieldAddr, thenV_some, thenH_some, eval_tmp, eval_const, put_some, enterF_zero, enterF_succ, aBin_eql, absV_bool, aField_eq, fieldGo_ptr, aLoad_eq, loadGo_one, aPlace_ptr, aBox_eq, get_push_new, Nat.reduceEqDiff, Option.map_some, Nat.add_zero, if_true, if_false, ft_45_0, lt_3, hc, hd0, c, retA_ret, Tryd.results83, resultsA_1]
    exact hid_mk ⟨by simp [useX, ho], Keep.push _ _ _⟩
  have c : (o == op) = false := by simp [ho]
  have hG : useX op (.mk o n ks) = useL op ks := by simp [useX, c]
  simp only [wpA_skip, wpA_region, wpA_seq, wpA_cond, wpA_block, wpA_loop, condI_false, seqQ_normal, goI_out, goI_ops, opsA_nil, opsA_cons, stepA_move, stepA_assign, stepA_box, stepA_load, stepA_binOp, stepA_fieldAddr, stepA_len, thenV_some, thenH_some, eval_tmp, eval_const, put_some, enterF_zero, enterF_succ, aBin_eql, absV_int, absV_bool, aField_eq, fieldGo_ptr, aLoad_eq, loadGo_one, aPlace_ptr, aBox_eq, aLen_imm, get_push_new, Nat.reduceEqDiff, Option.map_some, Nat.add_zero, Nat.zero_add, if_true, if_false, ft_45_0, ft_45_2, kt_43, lt_3, lt_43, hc, hd0, hd2, c]
  refine SWp.loopG (α := Nat) (fun i f h' => f 1 = .int .i64 op ∧ f 12 = .imm ks.length (ks.flatMap encE) ∧ f 13 = .int .i64 ((ks.length : Nat) : Int) ∧ f 14 = .int .i64 (i : Nat) ∧ i ≤ ks.length ∧ Keep h h' none_ ∧ useL op ks = useL op (ks.drop i)) (fun i => ks.length - i) 0 ⟨rfl, rfl, rfl, rfl, Nat.zero_le _, Keep.push _ _ _, rfl⟩ ?_
  rintro i f h' ⟨f1, f12, f13, f14, hi, hk, hE⟩
  refine wpI_sound (by kernel_rfl) ?_
  by_cases hlt : i < ks.length
  rotate_left
  · have c3 : decide ((i : Int) < ((ks.length : Nat) : Int)) = false := by simp only [decide_eq_false_iff_not]; omega
    rw [List.drop_of_length_le (by omega)] at hE
    simp only [wpA_region, wpA_seq, wpA_cond, wpA_exit, wpA_ret, condI_false, seqQ_normal, seqQ_exit, blkQ_exit, endI_mk, goE, andThen_exit, goI_out, goI_ops, opsA_nil, opsA_cons, stepA_assign, stepA_binOp, thenV_some, eval_tmp, eval_const, put_some, aBin_lss, absV_bool, Nat.reduceEqDiff, if_true, if_false, f13, f14, c3, retA_ret, Tryd.results83, resultsA_1]
    exact hid_mk ⟨by rw [hG, hE]; simp [useL], hk⟩
  · have c3 : decide ((i : Int) < ((ks.length : Nat) : Int)) = true := by simp only [decide_eq_true_eq]; omega
    rw [List.drop_eq_getElem_cons hlt] at hE
    have x0 := ex_ix (kk := .i64) hlt
    have hkid : ks[i] ∈ (Ex.mk o n ks).ks := List.getElem_mem hlt
    have hlt2 := szE_kid _ hkid
    have hok2 := hok.kid _ hkid
    generalize ks[i] = A at *
    have lr : ∀ (q : List V), loadGo (some (some 3)) (some (encE A ++ q)) = some (.agg (encE A)) := fun q => load_row (encE_len A)
    have hone : (V.agg (encE A)).cells = some (encE A) := rfl
    have hset : setC (some 3) (AObj.cells [.int .i64 0, .int .i64 0, .snil] 45 none) 0 (encE A) = some (.cells (encE A) 45 none) := by
      rw [setC_row (n := 3) (encE_len A) (encE_one A), if_pos (by decide)]; cases A; rfl
    have hdA : dropC (AObj.cells (encE A) 45 none) 0 = some (encE A) := by cases A; rfl
    have hlA : loadGo (some (some 3)) (some (encE A)) = some (.agg (encE A)) := by cases A; rfl
    have w2 : IntKind.i64.wrap (((i : Nat) : Int) + 1) = ((i + 1 : Nat) : Int) := by rw [Go.IntWalk.i64_in _ (by omega)]; omega
    simp only [wpA_skip, wpA_region, wpA_seq, wpA_cond, wpA_block, condI_true, seqQ_normal, goI_out, goI_ops, opsA_nil, opsA_cons, stepA_move, stepA_alloc, stepA_load, stepA_store, stepA_binOp, stepA_indexAddr, stepA_call, thenV_some, thenH_some, thenS_some, eval_tmp, put_some, put_none, aBin_lss, aLoad_eq, aPlace_ptr, aPlace_at, aStore_eq, storeGo_ptr, aAlloc_eq, get_push_new, set_push, Nat.reduceEqDiff, List.map_cons, List.map_nil, Option.map_some, if_true, if_false, lt_45, zc_45, zt_45, f1, f12, f13, f14, c3, x0, lr, hone, hset, hdA, hlA]
    refine callI_pure cal83 (ih (szE A) (by omega) A _ rfl hok2) ?_
    cases hu : useX op A with
    | true =>
      simp only [wpA_region, wpA_seq, wpA_cond, wpA_ret, condI_true, seqQ_normal, seqQ_ret, blkQ_ret, endI_mk, goE, andThen_ret, goI_out, goI_ops, opsA_nil, opsA_cons, stepA_assign, eval_tmp, eval_const, put_some, put_none, absV_bool, Nat.reduceEqDiff, if_true, if_false, retA_ret, Tryd.results83, resultsA_1]
      exact hid_mk ⟨by rw [hG, hE]; simp [useL, hu], hk.then_push _⟩
    | false =>
      simp only [wpA_skip, wpA_region, wpA_cond, condI_false, seqQ_normal, blkQ_normal, endI_mk, andThen_normal, goI_out, goI_ops, opsA_nil, opsA_cons, stepA_move, stepA_binOp, thenV_some, eval_tmp, eval_const, put_some, put_none, aBin_add, absV_int, Nat.reduceEqDiff, if_true, if_false, f14, w2]
      exact hid_mk ⟨i + 1, ⟨f1, f12, f13, rfl, by omega, hk.then_push _, by rw [hE]; simp [useL, hu]⟩, by omega⟩

end Go.Proofs.YtpmmbcifhallbaaDoor.Pk
