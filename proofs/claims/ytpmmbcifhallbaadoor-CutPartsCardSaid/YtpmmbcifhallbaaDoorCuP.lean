/-
  What functions of the program do, told of abstract states. Conditions: as each theorem says.
-/
import Derived.Test.YtpmmbcifhallbaaDoorCuI
import Derived.Test.YtpmmbcifhallbaaDoorCuMs
namespace Go.Proofs.YtpmmbcifhallbaaDoor.Pk
open Go Go.Proofs Go.Proofs.YtpmmbcifhallbaaDoor.Ab
set_option linter.unusedVariables false
set_option linter.unusedSimpArgs false

/-! ### The reference's: who hangs together -/
def hgX (l : List Vx) (a b : Nat) : Bool := ((((l[b]?).map Vx.frm).getD []).any fun f => f == (a : Int)) && (kindAt l (a : Int) != 5)
theorem hgX_iff {l : List Vx} {a b : Nat} : hgX l a b = true ↔ Ed l a b := by
  unfold hgX Ed
  cases hx : l[b]? with
  | none => simp
  | some x => simp
set_option maxRecDepth 10000 in
theorem pHangs (l : List Vx) (p : Int) (a b : Nat) (ha : a < l.length) (hb : b < l.length) (hok : OkT l) (h : AHeap) : Pure Tryd.prog 72 [.agg (topE l p), .int .i64 (a : Nat), .int .i64 (b : Nat)] h (.bool (hgX l a b)) := by
  refine Pure.val (Clo.bool _) ?_
  have hc : (V.agg (topE l p)).cells = some [.imm l.length (l.flatMap encX), .int .i64 p] := rfl
  obtain ⟨H, hH⟩ : ∃ x, x = h.push (.cells [.imm l.length (l.flatMap encX), .int .i64 p] 24 none) := ⟨_, rfl⟩
  have gt : H.get h.n = .cells [.imm l.length (l.flatMap encX), .int .i64 p] 24 none := by rw [hH]; exact get_push_new
  have kH : Keep h H none_ := by rw [hH]; exact Keep.push _ _ _
  have hX : hgX l a b = ((l[b].frm.any fun f => f == (a : Int)) && (kindAt l (a : Int) != 5)) := by unfold hgX; rw [List.getElem?_eq_getElem hb]; rfl
  obtain ⟨x0, _, _⟩ := kind_ix hb
  obtain ⟨x1, lu1, _⟩ := kind_ix ha
  have hfl := (hok.2 _ (List.getElem_mem hb)).2.1
  generalize l[b] = A at hX x0 hfl
  generalize hgX l a b = G at hX ⊢
  have hrf := row_f A
  refine SCalls.enterI (c := _) Tryd.func72 rfl (by kernel_rfl) (by simp) ?_
  simp only [wpA_region, wpA_seq, wpA_block, wpA_loop, seqQ_normal, goI_out, goI_ops, opsA_nil, opsA_cons, stepA_assign, stepA_box, thenH_some, eval_tmp, eval_const, enterF_zero, absV_int, absV_bool, aBox_eq, Option.map_some, hc, ← hH]
  refine SWp.loopG (α := Nat) (fun k f h' => f 1 = .int .i64 (a : Nat) ∧ f 2 = .int .i64 (b : Nat) ∧ f 3 = .ptr h.n 0 ∧ f 7 = .int .i64 (k : Nat) ∧ k ≤ A.frm.length ∧ h' = H ∧ G = (((A.frm.drop k).any fun f => f == (a : Int)) && (kindAt l (a : Int) != 5))) (fun k => A.frm.length - k) 0 ⟨rfl, rfl, rfl, rfl, Nat.zero_le _, rfl, hX⟩ ?_
  rintro k f h1 ⟨f1, f2, f3, f7, hk, rfl, hE⟩
  refine wpI_sound (by kernel_rfl) ?_
  by_cases hkl : k < A.frm.length
  · have c1 : decide ((k : Int) < ((A.frm.length : Nat) : Int)) = true := by simp only [decide_eq_true_eq]; omega
    have xk := i64V_ix' (P := Tryd.prog) (kk := .i64) (l := A.frm) (k := k) hkl ss_33
    have w2 : IntKind.i64.wrap (((k : Nat) : Int) + 1) = ((k + 1 : Nat) : Int) := by rw [Go.IntWalk.i64_in _ (by omega)]; omega
    rw [List.drop_eq_getElem_cons hkl, List.any_cons] at hE
    generalize A.frm[k] = B at xk hE
    cases c2 : (B == (a : Int))
    · rw [c2, Bool.false_or] at hE
      simp only [wpA_skip, wpA_region, wpA_seq, wpA_cond, wpA_block, condI_true, condI_false, seqQ_normal, blkQ_normal, endI_mk, andThen_normal, goI_out, goI_ops, opsA_nil, opsA_cons, opsA_guardS, gvI_ft, slotAt_zero, slotAt_succ, stepA_move, stepA_assign, stepA_pick, stepA_load, stepA_binOp, stepA_fieldAddr, stepA_indexAddr, stepA_len, thenV_some, pickV_false, eval_tmp, eval_const, put_some, aBin_add, aBin_eql, aBin_lss, absV_int, absV_bool, aField_eq, fieldGo_ptr, fieldGo_at, aLoad_eq, loadGo_one, aPlace_ptr, aPlace_at, dropC_cells, aLen_imm, Nat.reduceEqDiff, Nat.reduceAdd, Nat.add_zero, Nat.zero_add, Nat.zero_le, List.length_cons, List.length_nil, List.drop_zero, List.nil_append, List.cons_append, if_true, if_false, ft_24_0, ft_47_1, kt_33, lt_22, lt_3, lt_33, f1, f2, f3, f7, gt, x0, hrf, c1, xk, c2, w2]
      exact hid_mk ⟨k + 1, ⟨f1, f2, f3, rfl, by omega, rfl, hE⟩, by omega⟩
    · rw [c2, Bool.true_or, Bool.true_and] at hE
      cases c3 : (kindAt l (a : Int) != 5)
      · rw [c3] at hE
        simp only [wpA_skip, wpA_region, wpA_seq, wpA_cond, wpA_block, condI_true, condI_false, seqQ_normal, blkQ_normal, endI_mk, andThen_normal, goI_out, goI_ops, opsA_nil, opsA_cons, opsA_guardS, gvI_same, slotAt_zero, slotAt_succ, stepA_move, stepA_assign, stepA_pick, stepA_load, stepA_binOp, stepA_fieldAddr, stepA_indexAddr, stepA_len, thenV_some, pickV_true, eval_tmp, eval_const, put_some, aBin_add, aBin_eql, aBin_neq, aBin_lss, absV_int, absV_bool, aField_eq, fieldGo_ptr, fieldGo_at, aLoad_eq, loadGo_one, aPlace_ptr, aPlace_at, dropC_cells, aLen_imm, Nat.reduceEqDiff, Nat.reduceAdd, Nat.add_zero, Nat.zero_add, Nat.zero_le, List.length_cons, List.length_nil, List.drop_zero, List.nil_append, List.cons_append, if_true, if_false, ft_24_0, ft_47_0, ft_47_1, kt_33, lt_22, lt_3, lt_33, f1, f2, f3, f7, gt, x0, hrf, c1, xk, c2, x1, lu1, c3, w2]
        exact hid_mk ⟨k + 1, ⟨f1, f2, f3, rfl, by omega, rfl, by rw [Bool.and_false]; exact hE⟩, by omega⟩
      · rw [c3] at hE
        simp only [wpA_skip, wpA_region, wpA_seq, wpA_cond, wpA_block, wpA_ret, condI_true, seqQ_normal, seqQ_ret, blkQ_ret, endI_mk, goE, andThen_ret, goI_out, goI_ops, opsA_nil, opsA_cons, opsA_guardS, gvI_same, slotAt_zero, slotAt_succ, stepA_move, stepA_assign, stepA_pick, stepA_load, stepA_binOp, stepA_fieldAddr, stepA_indexAddr, stepA_len, thenV_some, pickV_true, eval_tmp, eval_const, put_some, aBin_eql, aBin_neq, aBin_lss, absV_int, absV_bool, aField_eq, fieldGo_ptr, fieldGo_at, aLoad_eq, loadGo_one, aPlace_ptr, aPlace_at, dropC_cells, aLen_imm, Nat.reduceEqDiff, Nat.reduceAdd, Nat.add_zero, Nat.zero_add, Nat.zero_le, List.length_cons, List.length_nil, List.drop_zero, List.nil_append, List.cons_append, if_true, if_false, ft_24_0, ft_47_0, ft_47_1, kt_33, lt_22, lt_3, lt_33, f1, f2, f3, f7, gt, x0, hrf, c1, xk, c2, x1, lu1, c3, retA_ret, Tryd.results72, resultsA_1]
        exact hid_mk ⟨by rw [hE], kH⟩
  · have c1 : decide ((k : Int) < ((A.frm.length : Nat) : Int)) = false := by simp only [decide_eq_false_iff_not]; omega
    rw [List.drop_of_length_le (by omega)] at hE
    simp only [wpA_region, wpA_seq, wpA_cond, wpA_exit, wpA_ret, condI_false, seqQ_normal, seqQ_exit, blkQ_exit, endI_mk, goE, andThen_exit, goI_out, goI_ops, opsA_nil, opsA_cons, stepA_move, stepA_assign, stepA_load, stepA_binOp, stepA_fieldAddr, stepA_indexAddr, stepA_len, thenV_some, eval_tmp, eval_const, put_some, aBin_lss, absV_bool, aField_eq, fieldGo_ptr, fieldGo_at, aLoad_eq, loadGo_one, aPlace_ptr, aPlace_at, dropC_cells, aLen_imm, Nat.reduceEqDiff, Nat.reduceAdd, Nat.add_zero, Nat.zero_add, Nat.zero_le, List.length_cons, List.length_nil, List.drop_zero, List.nil_append, List.cons_append, if_true, if_false, ft_24_0, ft_47_1, kt_33, lt_22, lt_33, f2, f3, f7, gt, x0, hrf, c1, retA_ret, Tryd.results72, resultsA_1]
    exact hid_mk ⟨by rw [hE]; rfl, kH⟩

def nF : List Bool → Nat
  | [] => 0
  | b :: r => (if b then 0 else 1) + nF r
theorem nF_set : ∀ (L : List Bool) (k : Nat), k < L.length → L.getD k false = false → nF (L.set k true) < nF L
  | [], k, h, _ => by simp at h
  | b :: r, 0, _, h => by
    simp at h; subst h
    simp [nF]
  | b :: r, k + 1, h, g => by
    have := nF_set r k (by simpa using h) (by simpa using g)
    simp only [List.set_cons_succ, nF]
    omega
theorem getB_set {L : List Bool} {k j : Nat} {x : Bool} : (L.set k x).getD j false = if k = j ∧ j < L.length then x else L.getD j false := by
  rw [List.getD, List.getElem?_set]
  by_cases h : k = j
  · subst h
    by_cases hl : k < L.length
    · simp [hl]
    · simp [hl, List.getD]
  · simp [h, List.getD]
theorem ownB_at {h : AHeap} {e : TypeId} {v : V} {L : List Bool} {i k : Nat} (ho : Own h e 1 v (boolsV L)) (hi : idOf v = some i) (hk : k < L.length) :
    aIndexAddr Tryd.prog 83 v (.int .i64 (k : Int)) = some (.ptr i k) ∧ (∃ r, dropC (h.get i) k = some (.bool (L.getD k false) :: r)) ∧ ∀ x : Bool, ∃ ob, setC (some 1) (h.get i) k [.bool x] = some ob ∧ Own (h.set i ob) e 1 v (boolsV (L.set k x)) := by
  obtain ⟨q1, ⟨r, q2⟩, q3⟩ := Pk.Own.at' (kk := .i64) ho hi (k := k) (by rw [boolsV_length]; exact hk) ss_83
  refine ⟨q1, ⟨r, ?_⟩, fun x => ?_⟩
  · rw [q2, boolsV_get hk, List.getD, List.getElem?_eq_getElem hk]; rfl
  · obtain ⟨ob, a, b⟩ := q3 (.bool x) rfl
    exact ⟨ob, a, by rw [← boolsV_set]; exact b⟩
/-- Where two are next to each other. -/
def nbX (l : List Vx) (a b : Nat) : Bool := hgX l a b || hgX l b a
theorem nb_same {l : List Vx} {R : List Nat} (hR : Lst l R) {a b : Nat} (h : nbX l a b = true) : R.getD a 0 = R.getD b 0 := by
  unfold nbX at h
  rw [Bool.or_eq_true, hgX_iff, hgX_iff] at h
  rcases h with h | h
  · exact hR.ed _ _ h
  · exact (hR.ed _ _ h).symm
/-- A set that is closed has all that hangs together. -/
structure WIn (l : List Vx) (R : List Nat) (v : Nat) (L : List Bool) : Prop where
  len : L.length = l.length
  me : L.getD v false = true
  sound : ∀ u, L.getD u false = true → R.getD u 0 = R.getD v 0
theorem WIn.all {l : List Vx} {R : List Nat} (hR : Lst l R) (hu : Up l) {v : Nat} (hv : v < l.length) {L : List Bool} (w : WIn l R v L) (hc : ∀ a b, a < l.length → b < l.length → nbX l a b = true → L.getD a false = true → L.getD b false = true) : L = (List.range l.length).map fun u => decide (R.getD u 0 = R.getD v 0) := by
  have edl : ∀ {a b : Nat}, Ed l a b → a < l.length ∧ b < l.length := fun {a b} ⟨x, h1, h2, _⟩ => by
    have := (List.getElem?_eq_some_iff.1 h1).1
    have := hu b x h1 _ h2
    omega
  have key : ∀ u, Cn l v u → L.getD u false = true := fun u c => by
    induction c with
    | refl => exact w.me
    | step _ e ih =>
      rename_i b c _
      have : nbX l b c = true := by
        unfold nbX
        rw [Bool.or_eq_true, hgX_iff, hgX_iff]
        exact e
      rcases e with e | e
      · exact hc b c (edl e).1 (edl e).2 this ih
      · exact hc b c (edl e).2 (edl e).1 this ih
  apply List.ext_getElem
  · simp [w.len]
  · intro u h1 h2
    have hul : u < l.length := by rw [← w.len]; exact h1
    rw [List.getElem_map, List.getElem_range]
    have hg : L.getD u false = L[u] := by rw [List.getD, List.getElem?_eq_getElem h1]; rfl
    rw [← hg]
    cases hq : L.getD u false with
    | true => rw [eq_comm, decide_eq_true_eq]; exact w.sound u hq
    | false =>
      rw [eq_comm, decide_eq_false_iff_not]
      intro e
      have := key u ((hR.iff hv hul).2 e.symm)
      rw [hq] at this
      cases this

set_option maxHeartbeats 2000000 in
set_option maxRecDepth 10000 in
theorem pWith (l : List Vx) (p : Int) (R : List Nat) (hR : Lst l R) (hu : Up l) (h24 : l.length ≤ 24) (v : Nat) (hv : v < l.length) (hok : OkT l) (h : AHeap) : Pure Tryd.prog 53 [.agg (topE l p), .int .i64 (v : Nat)] h (.imm l.length (boolsV ((List.range l.length).map fun u => decide (R.getD u 0 = R.getD v 0)))) := by
  refine Pure.of (Clo.imm (boolsV_clo _)) ?_
  have hc : (V.agg (topE l p)).cells = some [.imm l.length (l.flatMap encX), .int .i64 p] := rfl
  obtain ⟨H, hH⟩ : ∃ x, x = h.push (.cells [.imm l.length (l.flatMap encX), .int .i64 p] 24 none) := ⟨_, rfl⟩
  have gt : H.get h.n = .cells [.imm l.length (l.flatMap encX), .int .i64 p] 24 none := by rw [hH]; exact get_push_new
  have kH : Keep h H none_ := by rw [hH]; exact Keep.push _ _ _
  have nH : H.n = h.n + 1 := by rw [hH]; rfl
  have hmk : aMake Tryd.prog 83 (.int .i64 ((l.length : Nat) : Int)) (.int .i64 ((l.length : Nat) : Int)) H = some (.sl H.n 0 l.length l.length, H.push (.cells (boolsV (List.replicate l.length false)) 4 none)) := by
    rw [make_go sl_83 (Nat.le_refl _) (by simp only; omega) (by omega), made_one]
    simp [boolsV]
  have a0 : Own (H.push (.cells (boolsV (List.replicate l.length false)) 4 none)) 4 1 (.sl H.n 0 l.length l.length) (boolsV (List.replicate l.length false)) := Own.fresh' _ l.length (by rw [boolsV_length, List.length_replicate, Nat.mul_one]) (by unfold unk; omega)
  obtain ⟨H2, hH2⟩ : ∃ x, x = H.push (.cells (boolsV (List.replicate l.length false)) 4 none) := ⟨_, rfl⟩
  have k2 : Keep H H2 none_ := by rw [hH2]; exact Keep.push _ _ _
  have n2 : H2.n = H.n + 1 := by rw [hH2]; rfl
  rw [← hH2] at a0
  have gt2 := (k2.get h.n (by omega) (by simp [none_])).trans gt
  obtain ⟨q1, _, q3⟩ := ownB_at a0 (i := H.n) rfl (k := v) (by rw [List.length_replicate]; exact hv)
  obtain ⟨ob, b1, b2⟩ := q3 true
  have kb : Keep H2 (H2.set H.n ob) (· = H.n) := Keep.set _ _ _
  obtain ⟨H3, hH3⟩ : ∃ x, x = H2.set H.n ob := ⟨_, rfl⟩
  rw [← hH3] at b2 kb
  have n3 : H3.n = H2.n := by rw [hH3]; rfl
  have w0 : WIn l R v ((List.replicate l.length false).set v true) := by
    refine ⟨by simp, by rw [getB_set, if_pos ⟨rfl, by simpa using hv⟩], fun u hu => ?_⟩
    rw [getB_set] at hu
    split at hu
    · rename_i hh; rw [← hh.1]
    · rw [List.getD] at hu
      by_cases hul : u < l.length
      · rw [List.getElem?_replicate, if_pos hul] at hu; cases hu
      · rw [List.getElem?_eq_none (by simpa using hul)] at hu; cases hu
  have gt3 := (kb.get h.n (by omega) (by omega)).trans gt2
  refine SCalls.enterI (c := _) Tryd.func53 rfl (by kernel_rfl) (by simp) ?_
  simp only [wpA_region, wpA_seq, wpA_block, wpA_loop, seqQ_normal, goI_out, goI_ops, opsA_nil, opsA_cons, stepA_move, stepA_assign, stepA_box, stepA_load, stepA_store, stepA_makeSlice, stepA_fieldAddr, stepA_indexAddr, stepA_len, thenV_some, thenH_some, thenS_some, eval_tmp, eval_const, put_some, enterF_zero, enterF_succ, absV_bool, absV_snil, cells_bool, aField_eq, fieldGo_ptr, aLoad_eq, loadGo_one, aPlace_ptr, dropC_cells, aStore_eq, storeGo_ptr, aBox_eq, aLen_imm, Nat.reduceEqDiff, Nat.reduceAdd, Option.map_some, Nat.add_zero, Nat.zero_add, Nat.zero_le, List.length_cons, List.length_nil, List.drop_zero, if_true, if_false, ft_24_0, kt_22, lt_22, zt_4, hc, ← hH, gt, hmk, ← hH2, q1, b1, ← hH3]
  refine SWp.loopG (α := List Bool × Bool) (fun x f h' => f 2 = .ptr h.n 0 ∧ f 5 = .sl H.n 0 l.length l.length ∧ f 6 = .bool x.2 ∧ Keep H3 h' (· = H.n) ∧ Own h' 4 1 (.sl H.n 0 l.length l.length) (boolsV x.1) ∧ WIn l R v x.1 ∧ (x.2 = false → ∀ a b, a < l.length → b < l.length → nbX l a b = true → x.1.getD a false = true → x.1.getD b false = true)) (fun x => 2 * nF x.1 + if x.2 then 1 else 0) (_, true) ⟨rfl, rfl, rfl, Keep.refl _ _, b2, w0, fun h => by cases h⟩ ?_
  rintro ⟨L0, more⟩ f h1 ⟨f2, f5, f6, k1, o1, wi, hcl⟩
  simp only at f6 o1 wi hcl
  refine wpI_sound (by kernel_rfl) ?_
  cases more
  · have hL := wi.all hR hu hv (hcl rfl)
    obtain ⟨h4, c4, k4⟩ := Cast.own o1 (n := l.length) (by rw [boolsV_length, wi.len, Nat.mul_one]) (by decide)
    have kF : Keep h h4 none_ := ((((kH.trans' k2).trans kb fun q hq e => by omega)).trans k1 fun q hq e => by omega).trans k4 fun q hq e => by simp [isId, idOf] at e; omega
    rw [hL] at c4
    simp only [wpA_region, wpA_seq, wpA_cond, wpA_exit, wpA_ret, condI_false, seqQ_normal, seqQ_exit, blkQ_exit, endI_mk, goE, andThen_exit, goI_out, goI_ops, opsA_nil, opsA_cons, stepA_move, stepA_assign, eval_tmp, put_some, Nat.reduceEqDiff, if_true, if_false, f5, f6, retA_ret, Tryd.results53, resultsA_1]
    exact hid_mk ⟨h4, c4, kF⟩
  clear hcl
  have nk1 := k1.n
  have gt1 := (k1.get h.n (by omega) (by omega)).trans gt3
  simp only [wpA_skip, wpA_region, wpA_seq, wpA_cond, wpA_block, wpA_loop, condI_true, seqQ_normal, goI_out, goI_ops, opsA_nil, opsA_cons, stepA_move, stepA_assign, eval_tmp, eval_const, put_some, absV_int, absV_bool, if_true, f6]
  refine SWp.loopG (α := Nat × List Bool × Bool) (fun x f h' => f 2 = .ptr h.n 0 ∧ f 5 = .sl H.n 0 l.length l.length ∧ f 6 = .bool x.2.2 ∧ f 7 = .int .i64 (x.1 : Nat) ∧ x.1 ≤ l.length ∧ Keep H3 h' (· = H.n) ∧ Own h' 4 1 (.sl H.n 0 l.length l.length) (boolsV x.2.1) ∧ WIn l R v x.2.1 ∧ (x.2.2 = true → nF x.2.1 < nF L0) ∧ (x.2.2 = false → x.2.1 = L0 ∧ ∀ a b, a < x.1 → b < l.length → nbX l a b = true → L0.getD a false = true → L0.getD b false = true)) (fun x => l.length - x.1) (0, L0, false) ⟨f2, f5, rfl, rfl, Nat.zero_le _, k1, o1, wi, fun h => (by cases h), fun _ => ⟨rfl, fun a b h => by omega⟩⟩ ?_
  rintro ⟨a, L1, m1⟩ g h2 ⟨g2, g5, g6, g7, ha, kk2, o2, wi2, hT, hF⟩
  simp only at g6 g7 ha o2 wi2 hT hF
  have nk2 := kk2.n
  have gtb := (kk2.get h.n (by omega) (by omega)).trans gt3
  refine wpI_sound (by kernel_rfl) ?_
  by_cases hal : a < l.length
  rotate_left
  · have c1 : decide ((a : Int) < ((l.length : Nat) : Int)) = false := by simp only [decide_eq_false_iff_not]; omega
    obtain rfl : a = l.length := by omega
    simp only [wpA_region, wpA_seq, wpA_cond, wpA_exit, wpA_ret, condI_false, seqQ_normal, seqQ_exit, blkQ_normal, blkQ_exit, endI_mk, goE, andThen_normal, andThen_exit, goI_out, goI_ops, opsA_nil, opsA_cons, stepA_move, stepA_assign, stepA_load, stepA_binOp, stepA_fieldAddr, stepA_len, thenV_some, eval_tmp, put_some, aBin_lss, aField_eq, fieldGo_ptr, aLoad_eq, loadGo_one, aPlace_ptr, dropC_cells, aLen_imm, Nat.reduceEqDiff, Nat.reduceAdd, reduceCtorEq, Nat.add_zero, Nat.zero_add, Nat.zero_le, List.length_cons, List.length_nil, List.drop_zero, if_true, if_false, ft_24_0, kt_22, lt_22, g2, g5, g7, gtb, c1]
    cases m1
    · obtain ⟨e1, e2⟩ := hF rfl
      exact hid_mk ⟨(L1, false), ⟨g2, g5, g6, kk2, o2, wi2, fun _ => by rw [e1]; exact e2⟩, by simp only [e1]; simp⟩
    · have := hT rfl
      exact hid_mk ⟨(L1, true), ⟨g2, g5, g6, kk2, o2, wi2, fun h => by cases h⟩, by simp only [if_true]; omega⟩
  have c1 : decide ((a : Int) < ((l.length : Nat) : Int)) = true := by simp only [decide_eq_true_eq]; omega
  have w2 : IntKind.i64.wrap (((a : Nat) : Int) + 1) = ((a + 1 : Nat) : Int) := by rw [Go.IntWalk.i64_in _ (by omega)]; omega
  simp only [wpA_skip, wpA_region, wpA_seq, wpA_cond, wpA_block, wpA_loop, condI_true, seqQ_normal, goI_out, goI_ops, opsA_nil, opsA_cons, stepA_move, stepA_assign, stepA_load, stepA_binOp, stepA_fieldAddr, stepA_len, thenV_some, eval_tmp, eval_const, put_some, aBin_lss, absV_int, aField_eq, fieldGo_ptr, aLoad_eq, loadGo_one, aPlace_ptr, dropC_cells, aLen_imm, Nat.reduceEqDiff, Nat.reduceAdd, Nat.add_zero, Nat.zero_add, Nat.zero_le, List.length_cons, List.length_nil, List.drop_zero, if_true, if_false, ft_24_0, kt_22, lt_22, g2, g7, gtb, c1]
  refine SWp.loopG (α := Nat × List Bool × Bool) (fun x f h' => f 2 = .ptr h.n 0 ∧ f 5 = .sl H.n 0 l.length l.length ∧ f 6 = .bool x.2.2 ∧ f 7 = .int .i64 (a : Nat) ∧ f 8 = .int .i64 (x.1 : Nat) ∧ x.1 ≤ l.length ∧ Keep H3 h' (· = H.n) ∧ Own h' 4 1 (.sl H.n 0 l.length l.length) (boolsV x.2.1) ∧ WIn l R v x.2.1 ∧ (x.2.2 = true → nF x.2.1 < nF L0) ∧ (x.2.2 = false → x.2.1 = L0 ∧ (∀ a' b, a' < a → b < l.length → nbX l a' b = true → L0.getD a' false = true → L0.getD b false = true) ∧ ∀ b, b < x.1 → nbX l a b = true → L0.getD a false = true → L0.getD b false = true)) (fun x => l.length - x.1) (0, L1, m1) ⟨g2, g5, g6, g7, rfl, Nat.zero_le _, kk2, o2, wi2, hT, fun e => ⟨(hF e).1, (hF e).2, fun b hb => by omega⟩⟩ ?_
  clear hT hF o2 wi2 kk2 gtb nk2
  rintro ⟨b, L, m⟩ d h3 ⟨d2, d5, d6, d7, d8, hb, kk3, o3, wi3, hT, hF⟩
  simp only at d6 d8 hb o3 wi3 hT hF
  have nk3 := kk3.n
  have gtc := (kk3.get h.n (by omega) (by omega)).trans gt3
  refine wpI_sound (by kernel_rfl) ?_
  by_cases hbl : b < l.length
  rotate_left
  · have c2 : decide ((b : Int) < ((l.length : Nat) : Int)) = false := by simp only [decide_eq_false_iff_not]; omega
    obtain rfl : b = l.length := by omega
    simp only [wpA_region, wpA_seq, wpA_cond, wpA_exit, wpA_ret, condI_false, seqQ_normal, seqQ_exit, blkQ_normal, blkQ_exit, endI_mk, goE, andThen_normal, andThen_exit, goI_out, goI_ops, opsA_nil, opsA_cons, stepA_move, stepA_assign, stepA_load, stepA_binOp, stepA_fieldAddr, stepA_len, thenV_some, eval_tmp, eval_const, put_some, aBin_add, aBin_lss, absV_int, aField_eq, fieldGo_ptr, aLoad_eq, loadGo_one, aPlace_ptr, dropC_cells, aLen_imm, Nat.reduceEqDiff, Nat.reduceAdd, reduceCtorEq, Nat.add_zero, Nat.zero_add, Nat.zero_le, List.length_cons, List.length_nil, List.drop_zero, if_true, if_false, ft_24_0, kt_22, lt_22, d2, d5, d7, d8, gtc, c2, w2]
    exact hid_mk ⟨(a + 1, L, m), ⟨d2, d5, d6, rfl, by simp only; omega, kk3, o3, wi3, hT, fun e => ⟨(hF e).1, fun a' b' h1' h2' => by
      rcases Nat.lt_or_ge a' a with hh | hh
      · exact (hF e).2.1 a' b' hh h2'
      · obtain rfl : a' = a := by omega
        exact (hF e).2.2 b' h2'⟩⟩, by simp only; omega⟩
  have c2 : decide ((b : Int) < ((l.length : Nat) : Int)) = true := by simp only [decide_eq_true_eq]; omega
  have w3 : IntKind.i64.wrap (((b : Nat) : Int) + 1) = ((b + 1 : Nat) : Int) := by rw [Go.IntWalk.i64_in _ (by omega)]; omega
  obtain ⟨ia, ⟨ra, la⟩, _⟩ := ownB_at o3 (i := H.n) rfl (k := a) (by rw [wi3.len]; exact hal)
  obtain ⟨ib, ⟨rb, lb⟩, sb⟩ := ownB_at o3 (i := H.n) rfl (k := b) (by rw [wi3.len]; exact hbl)
  obtain ⟨ob3, s1, s2⟩ := sb true
  -- nothing turns
  have stay : (nbX l a b = true → L.getD a false = true → L.getD b false = true) → ((m = true → nF L < nF L0) ∧ (m = false → L = L0 ∧ (∀ a' b, a' < a → b < l.length → nbX l a' b = true → L0.getD a' false = true → L0.getD b false = true) ∧ ∀ b', b' < b + 1 → nbX l a b' = true → L0.getD a false = true → L0.getD b' false = true)) := fun hs => ⟨hT, fun e => ⟨(hF e).1, (hF e).2.1, fun b' hb' hn hl => by
    rcases Nat.lt_or_ge b' b with hh | hh
    · exact (hF e).2.2 b' hh hn hl
    · obtain rfl : b' = b := by omega
      rw [← (hF e).1] at hl ⊢
      exact hs hn hl⟩⟩
  have turn : nbX l a b = true → L.getD a false = true → L.getD b false = false → WIn l R v (L.set b true) ∧ nF (L.set b true) < nF L0 := fun hn hl hb0 => by
    have hs := nF_set L b (by rw [wi3.len]; exact hbl) hb0
    refine ⟨⟨by rw [List.length_set]; exact wi3.len, ?_, fun u hu' => ?_⟩, ?_⟩
    · rw [getB_set]
      split
      · rfl
      · exact wi3.me
    · rw [getB_set] at hu'
      split at hu'
      · rename_i hh
        rw [← hh.1, ← nb_same hR hn]
        exact wi3.sound a hl
      · exact wi3.sound u hu'
    · cases m
      · rw [← (hF rfl).1]; exact hs
      · exact Nat.lt_trans hs (hT rfl)
  have kS : Keep H3 (h3.set H.n ob3) (· = H.n) := kk3.trans' (Keep.set _ _ _)
  simp only [wpA_skip, wpA_region, wpA_seq, wpA_cond, wpA_block, condI_true, seqQ_normal, goI_out, goI_ops, opsA_nil, opsA_cons, stepA_move, stepA_load, stepA_binOp, stepA_fieldAddr, stepA_len, stepA_call, thenV_some, eval_tmp, put_some, aBin_lss, aField_eq, fieldGo_ptr, aLoad_eq, loadGo_one, loadGo_row, aPlace_ptr, dropC_cells, aLen_imm, Nat.reduceEqDiff, Nat.reduceAdd, List.map_cons, List.map_nil, Nat.add_zero, Nat.zero_add, Nat.zero_le, List.length_cons, List.length_nil, List.drop_zero, List.take_succ_cons, List.take_nil, if_true, if_false, Nat.le_refl, ft_24_0, kt_22, lt_22, lt_24, d2, d7, d8, gtc, c2]
  refine callI_pure cal72 (pHangs l p a b hal hbl hok h3) ?_
  cases n1 : hgX l a b
  · simp only [goI_ops, opsA_cons, opsA_guardS, gvI_same, slotAt_zero, slotAt_succ, stepA_move, stepA_load, stepA_call, thenV_some, eval_tmp, put_some, aLoad_eq, loadGo_row, aPlace_ptr, dropC_cells, Nat.reduceEqDiff, Nat.reduceAdd, List.map_cons, List.map_nil, Nat.zero_add, Nat.zero_le, List.length_cons, List.length_nil, List.drop_zero, List.take_succ_cons, List.take_nil, if_true, if_false, Nat.le_refl, lt_24, d2, d7, d8, gtc]
    refine callI_pure cal72 (pHangs l p b a hbl hal hok h3) ?_
    cases n2 : hgX l b a
    · have hnb : nbX l a b = false := by unfold nbX; rw [n1, n2]; rfl
      simp only [wpA_skip, wpA_region, wpA_cond, condI_false, seqQ_normal, blkQ_normal, endI_mk, andThen_normal, goI_out, goI_ops, opsA_nil, opsA_cons, opsA_guardS, gvI_ft, slotAt_zero, slotAt_succ, stepA_move, stepA_assign, stepA_pick, stepA_binOp, thenV_some, pickV_false, eval_tmp, eval_const, put_some, aBin_add, absV_int, absV_bool, Nat.reduceEqDiff, if_true, if_false, d8, w3]
      obtain ⟨t1, t2⟩ := stay fun e => by rw [hnb] at e; cases e
      exact hid_mk ⟨(b + 1, L, m), ⟨d2, d5, d6, d7, rfl, by simp only; omega, kk3, o3, wi3, t1, t2⟩, by simp only; omega⟩
    · have hnb : nbX l a b = true := by unfold nbX; rw [n1, n2]; rfl
      cases ga : L.getD a false
      · rw [ga] at la
        simp only [wpA_skip, wpA_region, wpA_cond, condI_false, seqQ_normal, blkQ_normal, endI_mk, andThen_normal, goI_out, goI_ops, opsA_nil, opsA_cons, opsA_guardS, gvI_same, gvI_ft, slotAt_zero, slotAt_succ, stepA_move, stepA_assign, stepA_pick, stepA_load, stepA_binOp, stepA_indexAddr, thenV_some, pickV_true, pickV_false, eval_tmp, eval_const, put_some, aBin_add, absV_int, absV_bool, aLoad_eq, loadGo_one, aPlace_ptr, Nat.reduceEqDiff, if_true, if_false, lt_4, d5, d7, d8, ia, la, w3]
        obtain ⟨t1, t2⟩ := stay fun _ e => by rw [ga] at e; cases e
        exact hid_mk ⟨(b + 1, L, m), ⟨d2, d5, d6, d7, rfl, by simp only; omega, kk3, o3, wi3, t1, t2⟩, by simp only; omega⟩
      · rw [ga] at la
        cases gb : L.getD b false
        · rw [gb] at lb
          obtain ⟨t1, t2⟩ := turn hnb ga gb
          simp only [wpA_region, wpA_seq, wpA_cond, condI_true, seqQ_normal, blkQ_normal, endI_mk, andThen_normal, goI_out, goI_ops, opsA_nil, opsA_cons, opsA_guardS, gvI_same, slotAt_zero, slotAt_succ, stepA_move, stepA_assign, stepA_pick, stepA_load, stepA_store, stepA_binOp, stepA_unOp, stepA_indexAddr, thenV_some, thenS_some, pickV_true, pickV_false, eval_tmp, eval_const, put_some, put_none, aBin_add, aUn_not, absV_int, absV_bool, cells_bool, aLoad_eq, loadGo_one, aPlace_ptr, aStore_eq, storeGo_ptr, Nat.reduceEqDiff, Option.map_some, if_true, if_false, Bool.not_false, lt_4, zt_4, d5, d7, d8, ia, la, ib, lb, s1, w3]
          exact hid_mk ⟨(b + 1, L.set b true, true), ⟨d2, d5, rfl, d7, rfl, by simp only; omega, kS, s2, t1, fun _ => t2, fun e => by cases e⟩, by simp only; omega⟩
        · rw [gb] at lb
          simp only [wpA_skip, wpA_region, wpA_cond, condI_false, seqQ_normal, blkQ_normal, endI_mk, andThen_normal, goI_out, goI_ops, opsA_nil, opsA_cons, opsA_guardS, gvI_same, slotAt_zero, slotAt_succ, stepA_move, stepA_assign, stepA_pick, stepA_load, stepA_binOp, stepA_unOp, stepA_indexAddr, thenV_some, pickV_true, pickV_false, eval_tmp, eval_const, put_some, aBin_add, aUn_not, absV_int, absV_bool, aLoad_eq, loadGo_one, aPlace_ptr, Nat.reduceEqDiff, if_true, if_false, Bool.not_true, lt_4, d5, d7, d8, ia, la, ib, lb, w3]
          obtain ⟨t1, t2⟩ := stay fun _ _ => gb
          exact hid_mk ⟨(b + 1, L, m), ⟨d2, d5, d6, d7, rfl, by simp only; omega, kk3, o3, wi3, t1, t2⟩, by simp only; omega⟩
  · have hnb : nbX l a b = true := by unfold nbX; rw [n1]; rfl
    cases ga : L.getD a false
    · rw [ga] at la
      simp only [wpA_skip, wpA_region, wpA_cond, condI_false, seqQ_normal, blkQ_normal, endI_mk, andThen_normal, goI_out, goI_ops, opsA_nil, opsA_cons, opsA_guardS, gvI_same, gvI_tf, gvI_ft, slotAt_zero, slotAt_succ, stepA_move, stepA_assign, stepA_pick, stepA_load, stepA_binOp, stepA_indexAddr, thenV_some, pickV_true, pickV_false, eval_tmp, eval_const, put_some, aBin_add, absV_int, absV_bool, aLoad_eq, loadGo_one, aPlace_ptr, Nat.reduceEqDiff, if_true, if_false, lt_4, d5, d7, d8, ia, la, w3]
      obtain ⟨t1, t2⟩ := stay fun _ e => by rw [ga] at e; cases e
      exact hid_mk ⟨(b + 1, L, m), ⟨d2, d5, d6, d7, rfl, by simp only; omega, kk3, o3, wi3, t1, t2⟩, by simp only; omega⟩
    · rw [ga] at la
      cases gb : L.getD b false
      · rw [gb] at lb
        obtain ⟨t1, t2⟩ := turn hnb ga gb
        simp only [wpA_region, wpA_seq, wpA_cond, condI_true, seqQ_normal, blkQ_normal, endI_mk, andThen_normal, goI_out, goI_ops, opsA_nil, opsA_cons, opsA_guardS, gvI_same, gvI_tf, slotAt_zero, slotAt_succ, stepA_move, stepA_assign, stepA_pick, stepA_load, stepA_store, stepA_binOp, stepA_unOp, stepA_indexAddr, thenV_some, thenS_some, pickV_true, eval_tmp, eval_const, put_some, put_none, aBin_add, aUn_not, absV_int, absV_bool, cells_bool, aLoad_eq, loadGo_one, aPlace_ptr, aStore_eq, storeGo_ptr, Nat.reduceEqDiff, Option.map_some, if_true, if_false, Bool.not_false, lt_4, zt_4, d5, d7, d8, ia, la, ib, lb, s1, w3]
        exact hid_mk ⟨(b + 1, L.set b true, true), ⟨d2, d5, rfl, d7, rfl, by simp only; omega, kS, s2, t1, fun _ => t2, fun e => by cases e⟩, by simp only; omega⟩
      · rw [gb] at lb
        simp only [wpA_skip, wpA_region, wpA_cond, condI_false, seqQ_normal, blkQ_normal, endI_mk, andThen_normal, goI_out, goI_ops, opsA_nil, opsA_cons, opsA_guardS, gvI_same, gvI_tf, slotAt_zero, slotAt_succ, stepA_move, stepA_assign, stepA_pick, stepA_load, stepA_binOp, stepA_unOp, stepA_indexAddr, thenV_some, pickV_true, eval_tmp, eval_const, put_some, aBin_add, aUn_not, absV_int, absV_bool, aLoad_eq, loadGo_one, aPlace_ptr, Nat.reduceEqDiff, if_true, if_false, Bool.not_true, lt_4, d5, d7, d8, ia, la, ib, lb, w3]
        obtain ⟨t1, t2⟩ := stay fun _ _ => gb
        exact hid_mk ⟨(b + 1, L, m), ⟨d2, d5, d6, d7, rfl, by simp only; omega, kk3, o3, wi3, t1, t2⟩, by simp only; omega⟩
end Go.Proofs.YtpmmbcifhallbaaDoor.Pk
