/-
  What functions of the program do, told of abstract states. Conditions: as each theorem says.
-/
import Derived.Test.YtcdpepdjeneelaaDoorVuA
namespace Go.Proofs.YtcdpepdjeneelaaDoor.Pk
open Go Go.Proofs Go.Proofs.YtcdpepdjeneelaaDoor.Ab Go.Proofs.Vw
set_option linter.unusedVariables false
set_option linter.unusedSimpArgs false
/-! ### ViewAtoms -/
theorem entS_castR : ∀ (L : List Ent) (h : AHeap) (r : List V), (∀ x ∈ L, bare x) → CastL (L.flatMap entS ++ r) h (L.flatMap entE ++ r) h
  | [], h, r, _ => CastL.refl _ _
  | x :: L, h, r, hx => by
    rw [List.flatMap_cons, List.flatMap_cons, List.append_assoc, List.append_assoc]
    exact entS_cast (hx x (by simp)) (entS_castR L h r fun y hy => hx y (by simp [hy]))
theorem cast_both {h : AHeap} {v v2 : V} {A : List V} {x : Ent} (hx : bare x) (o2 : Own h 47 11 v2 (A ++ entS x)) (o1 : Own h 47 11 v A) :
    ∃ h2, Cast v2 h v2 h2 ∧ Own h2 47 11 v2 (A ++ entE x) ∧ Own h2 47 11 v A ∧ Keep h h2 (isId v2) := by
  rcases o2 with ⟨_, hc⟩ | ⟨i, len, cap, c, ex, rfl, hi, hg, hlen, htake, hcap⟩
  · have := congrArg List.length hc
    rw [List.length_append, entS_len] at this
    simp at this
  · have hcc : c = (A ++ entS x) ++ c.drop (len * 11) := by rw [← htake, List.take_append_drop]
    have h1 : h.get i = .cells ((A ++ entS x) ++ c.drop (len * 11)) 47 ex := by rw [← hcc]; exact hg
    have hl : ((A ++ entE x) ++ c.drop (len * 11)).length = c.length := by
      conv => rhs; rw [hcc]
      rw [List.length_append, List.length_append, List.length_append, List.length_append]
      rfl
    have hcl : CastL ((A ++ entS x) ++ c.drop (len * 11)) h ((A ++ entE x) ++ c.drop (len * 11)) h := by
      rw [List.append_assoc, List.append_assoc]
      exact CastL.pre _ (entS_cast hx (CastL.refl _ _))
    have hlen2 : (A ++ entE x).length = len * 11 := by rw [← hlen, List.length_append, List.length_append]; rfl
    refine ⟨h.set i (.cells ((A ++ entE x) ++ c.drop (len * 11)) 47 ex), Cast.cellC h1 hcl h1 (by rw [hl]; conv => lhs; rw [hcc]) _, .inr ⟨i, len, cap, _, ex, rfl, by rw [set_n]; exact hi, get_set_same, hlen2, ?_, by rw [hl]; exact hcap⟩, ?_, (Keep.set _ _ _).mono fun q hq => by rw [isId]; simp [idOf, hq]⟩
    · rw [← hlen2, List.take_left']
      rfl
    · rcases o1 with o1 | ⟨i1, len1, cap1, c1, ex1, rfl, hi1, hg1, hlen1, htake1, hcap1⟩
      · exact .inl o1
      · by_cases hii : i1 = i
        · subst hii
          rw [hg] at hg1
          simp only [AObj.cells.injEq] at hg1
          obtain ⟨rfl, _, rfl⟩ := hg1
          refine .inr ⟨i1, len1, cap1, _, ex, rfl, by rw [set_n]; exact hi1, get_set_same, hlen1, ?_, by rw [hl]; exact hcap1⟩
          rw [← hlen1, List.append_assoc, List.take_left']
          rfl
        · exact .inr ⟨i1, len1, cap1, c1, ex1, rfl, by rw [set_n]; exact hi1, (get_set_ne hii).trans hg1, hlen1, htake1, hcap1⟩
theorem dropC_more {o : AObj} {a m : Nat} {l : List V} (h : dropC o a = some l) (hm : m ≤ l.length) : dropC o (a + m) = some (l.drop m) := by
  cases o with
  | cells c e ex =>
    rw [dropC_cells] at h ⊢
    split at h
    · rename_i ha
      injection h with h
      subst h
      rw [List.length_drop] at hm
      rw [if_pos (by omega), List.drop_drop]
    · cases h
  | _ => cases h
theorem u8_mod5 {n : Int} (hn : 0 ≤ n ∧ n < 256) : ∃ k : Int, (0 ≤ k ∧ k < 5) ∧ IntKind.i64.wrap (n.tmod 5) = k := by
  have e : n.tmod 5 = n % 5 := Int.tmod_eq_emod_of_nonneg hn.1
  have h1 := Int.emod_nonneg n (b := 5) (by omega)
  have h2 := Int.emod_lt_of_pos n (b := 5) (by omega)
  refine ⟨n % 5, by omega, ?_⟩
  rw [e, Go.IntWalk.i64_in _ (by omega)]
set_option maxHeartbeats 16000000 in
set_option maxRecDepth 20000 in
theorem viewAtoms (rs : List Rcd) (lg : List Int) (t : Int) (cm : Bool) (ht : 0 ≤ t ∧ t < 256) (hr0 : rs.length ≤ 2 ^ 47) (hl0 : lg.length ≤ 2 ^ 47) (hlg : ∀ n ∈ lg, 0 ≤ n ∧ n < 256) (h : AHeap) (hu : KU h) :
    SCalls Tryd.prog 6 [.imm rs.length (rs.flatMap rcdE), .imm lg.length (u8L lg), .int .u8 t, .bool cm] h (fun r _ => r = .bool true) := by
  refine SCalls.enterI (c := _) Tryd.func6 rfl (by kernel_rfl) (by simp) ?_
  simp only [wpA_region, wpA_seq, seqQ_normal, goI_out, goI_ops, opsA_nil, opsA_cons, stepA_assign, stepA_call, eval_const, absV_bool, List.map_nil]
  refine callI_pure cal9 (pShown h hu) ?_
  have cvt : IntKind.i64.wrap t = t := Go.IntWalk.i64_in _ (by omega)
  simp only [wpA_region, wpA_seq, wpA_block, wpA_loop, seqQ_normal, goI_out, goI_ops, opsA_nil, opsA_cons, stepA_assign, eval_tmp, eval_const, put_some, enterF_succ, absV_int, absV_snil, Nat.reduceEqDiff, if_true, if_false]
  refine SWp.loopG (α := Nat × List Ent) (fun y f h' => f 0 = .imm rs.length (rs.flatMap rcdE) ∧ f 1 = .imm lg.length (u8L lg) ∧ f 2 = .int .u8 t ∧ f 3 = .bool cm ∧ f 9 = .bool true ∧ f 11 = .int .i64 (y.1 : Nat) ∧ y.1 ≤ rs.length ∧ y.1 ≤ 50 ∧ y.2.length ≤ y.1 ∧
      Acc h h' 47 11 (f 10) (y.2.flatMap entS) ∧ (∀ x ∈ y.2, DatE t x)) (fun y => rs.length - y.1) (0, [])
    ⟨rfl, rfl, rfl, rfl, rfl, rfl, Nat.zero_le _, Nat.zero_le _, Nat.zero_le _, Acc.nil (Keep.refl _ _), by simp⟩ ?_
  rintro ⟨i, L⟩ f h5 ⟨f0, f1, f2, f3, f9, f11, hi, hi2, hLi, acc, hL⟩
  simp only at f11 hi hi2 hLi acc hL
  by_cases hlt : i < rs.length ∧ i < lg.length ∧ i < 50
  · refine wpI_sound (by kernel_rfl) ?_
    have d1 : decide ((i : Int) < ((rs.length : Nat) : Int)) = true := decide_eq_true (by omega)
    have d2 : decide ((i : Int) < ((lg.length : Nat) : Int)) = true := decide_eq_true (by omega)
    have d3 : decide ((i : Int) < 50) = true := decide_eq_true (by omega)
    have wi : IntKind.i64.wrap (((i : Nat) : Int) + 1) = ((i + 1 : Nat) : Int) := by rw [Go.IntWalk.i64_in _ (by omega)]; omega
    have x1 := rc_ix (l := rs) (kk := .i64) hlt.1
    obtain ⟨qq, x2⟩ := u8L_ix (l := lg) (kk := .i64) hlt.2.1
    obtain ⟨k, hk5, ek⟩ := u8_mod5 (hlg _ (List.getElem_mem hlt.2.1))
    generalize rs[i]'hlt.1 = r0 at x1
    generalize lg[i]'hlt.2.1 = n0 at x2 ek
    obtain ⟨rk, rv, rt⟩ := r0
    have ld := rcd_ld (⟨rk, rv, rt⟩ : Rcd)
    have ex : rcdE ⟨rk, rv, rt⟩ = [.int .i64 rk, .int .i64 rv, .int .i64 rt] := rfl
    have hcase : ∃ t' : Int, (0 ≤ t' ∧ t' ≤ 1099511627776) ∧ ((decide (rt < 0) = true ∧ t' = 0) ∨ (decide (rt < 0) = false ∧ decide (1099511627776 < rt) = true ∧ t' = 0) ∨ (decide (rt < 0) = false ∧ decide (1099511627776 < rt) = false ∧ t' = rt)) := by
      by_cases q1 : rt < 0
      · exact ⟨0, by omega, .inl ⟨decide_eq_true q1, rfl⟩⟩
      · by_cases q2 : 1099511627776 < rt
        · exact ⟨0, by omega, .inr (.inl ⟨decide_eq_false q1, decide_eq_true q2, rfl⟩)⟩
        · exact ⟨rt, by omega, .inr (.inr ⟨decide_eq_false q1, decide_eq_false q2, rfl⟩)⟩
    obtain ⟨t', ht', hcase⟩ := hcase
    obtain ⟨H5, hH5⟩ : ∃ y, y = h5.push (.cells [.int .i64 2, .int .i64 t, .int .i64 0, .int .i64 0, .int .i64 k, .int .i64 rk, .int .i64 rv, .int .i64 t', .bool false, .snil, .snil] 47 none) := ⟨_, rfl⟩
    have k5 : Keep h5 H5 none_ := by rw [hH5]; exact Keep.push _ _ _
    have gx : H5.get h5.n = .cells [.int .i64 2, .int .i64 t, .int .i64 0, .int .i64 0, .int .i64 k, .int .i64 rk, .int .i64 rv, .int .i64 t', .bool false, .snil, .snil] 47 none := by rw [hH5]; exact get_push_new
    have a5 := acc.on k5
    obtain ⟨v6, h6, ea6, o6, k6, d6⟩ := append_elemM (P := Tryd.prog) sl_22 (by decide) a5.own (xs := entS (datE t k ⟨rk, rv, t'⟩)) rfl rfl (fun m hm => by
      change m * 11 = _ + 11 at hm
      rw [rows_len entS_len] at hm
      exact ⟨by simp only [lim]; omega, by simp only [lim]; omega⟩)
    have a6 := (a5.step o6 k6 d6).conv (cs' := (L ++ [datE t k ⟨rk, rv, t'⟩]).flatMap entS) (by rw [List.flatMap_append]; simp)
    have b6 : aBuildSlice Tryd.prog 22 1 [(0, .agg [.int .i64 2, .int .i64 t, .int .i64 0, .int .i64 0, .int .i64 k, .int .i64 rk, .int .i64 rv, .int .i64 t', .bool false, .snil, .snil])] H5 = some (.sl H5.n 0 1 1, H5.push (.cells (entS (datE t k ⟨rk, rv, t'⟩)) 47 none)) := by
      have := litE1 H5 (datE t k ⟨rk, rv, t'⟩)
      rw [List.flatMap_cons, List.flatMap_nil, List.append_nil] at this
      exact this
    have hL6 : ∀ x ∈ L ++ [datE t k ⟨rk, rv, t'⟩], DatE t x := fun x hx => by
      rcases List.mem_append.1 hx with hx | hx
      · exact hL x hx
      · rw [List.mem_singleton.1 hx]; exact ⟨k, _, rfl, hk5, ht'⟩
    have hl6 : (L ++ [datE t k ⟨rk, rv, t'⟩]).length ≤ i + 1 := by rw [List.length_append]; simp; omega
    generalize L ++ [datE t k ⟨rk, rv, t'⟩] = L6 at a6 hL6 hl6
    have rm : aBin Tryd.prog .rem 5 (.tmp 45) (.const (.int .u8 5)) (.int .u8 n0) (.int .u8 5) = some (.int .u8 (n0.tmod 5)) := aBin_rem (by decide)
    simp only [wpA_skip, wpA_region, wpA_seq, wpA_cond, wpA_block, wpA_draw, condI_true, seqQ_normal, goI_out, goI_ops, opsA_nil, opsA_cons, opsA_guardS, gvI_same, slotAt_zero, slotAt_succ, stepA_move, stepA_pick, stepA_binOp, stepA_len, thenV_some, pickV_true, eval_tmp, eval_const, put_some, aBin_lss, absV_int, absV_bool, aLen_imm, Nat.reduceEqDiff, reduceCtorEq, if_true, if_false, kt_33, kt_49, f0, f1, f11, d1, d2, d3]
    refine SWp.drawnS none_ [13, 14] (.q 0 (.q 1 (.q 2 (.q 3 (.q 4 (.q 5 (.q 6 (.q 7 (.q 8 (.q 9 (.q 10 (.q 11 (.q 12 (.e 13 (.a 14 .done) .stop)))))))))))))) (by kernel_rfl) (by kernel_rfl) (by kernel_rfl) ?_
    simp only [siI_done, siI_stop, siI_q, siI_a, siI_e, sqI_some, saI_some, seI_some, mOk_none', keepT1, implies_true, qI_nil, qI_cons, thenQ_some, q_move, q_load, q_build, q_binOp, q_convert, q_indexAddr, wpA_region, wpA_seq, seqQ_normal, goI_out, goI_ops, goI_mk, opsA_nil, opsA_cons, opsA_guardS, slotAt_zero, slotAt_succ, stepA_move, stepA_alloc, stepA_load, stepA_store, stepA_binOp, stepA_fieldAddr, thenV_some, thenH_some, thenS_some, eval_tmp, eval_const, put_some, put_none, aBin_lss, aConv_int, absV_int, cells_int, cells_agg, one_int, one_bool, one_snil, all_nil, all_cons, aField_eq, fieldGo_ptr, aLoad_eq, loadGo_one, loadGo_row, aPlace_ptr, aPlace_at, dropC_cells, aStore_eq, storeGo_ptr, setC_row, setAll_nil, setAll_cons, aAlloc_eq, aBuild_go, aFill_nil, aFill_cons, fillGo_some, buildGo_struct, get_push_new, set_push, List.getElem?_cons_zero, List.getElem?_cons_succ, Option.some.injEq, Nat.reduceEqDiff, Nat.reduceAdd, Nat.reduceLeDiff, reduceCtorEq, List.map_cons, List.map_nil, Option.map_some, Nat.zero_add, List.length_cons, List.length_nil, List.drop_zero, List.drop_succ_cons, List.take_succ_cons, List.take_zero, List.set_cons_zero, List.set_cons_succ, List.nil_append, List.cons_append, and_true, true_and, and_self, if_true, if_false, Bool.and_self, Nat.le_refl, ft_45_2, ft_47_5, it_3, it_5, lt_2, lt_45, lt_5, pl_47, zc_47, zt_47, f0, f1, f2, f11, x1, ex, x2, rm, ek, cvt]
    rcases hcase with ⟨q1, et⟩ | ⟨q1, q2, et⟩ | ⟨q1, q2, et⟩
    all_goals
      subst et
      first | simp only [wpA_skip, wpA_region, wpA_cond, condI_true, condI_false, seqQ_normal, goI_out, goI_ops, opsA_nil, opsA_cons, opsA_guardS, gvI_same, slotAt_zero, slotAt_succ, stepA_move, stepA_pick, stepA_buildSlice, stepA_load, stepA_store, stepA_binOp, stepA_fieldAddr, thenV_some, thenS_some, pickV_false, eval_tmp, eval_const, put_some, put_none, aBin_gtr, absV_int, absV_bool, cells_int, one_int, all_nil, all_cons, aField_eq, fieldGo_ptr, aLoad_eq, loadGo_one, loadGo_row, aPlace_ptr, dropC_cells, aStore_eq, storeGo_ptr, setC_row, setAll_nil, setAll_cons, get_push_new, set_push, Nat.reduceEqDiff, Nat.reduceAdd, Nat.reduceLeDiff, List.map_cons, List.map_nil, Option.map_some, Nat.zero_add, Nat.zero_le, List.length_cons, List.length_nil, List.drop_zero, List.drop_succ_cons, List.take_succ_cons, List.take_nil, List.set_cons_zero, List.set_cons_succ, if_true, if_false, Bool.and_self, Nat.le_refl, ft_45_2, ft_47_5, lt_2, lt_47, zt_2, q1, q2] | simp only [wpA_region, wpA_cond, condI_true, seqQ_normal, goI_out, goI_ops, opsA_nil, opsA_cons, opsA_guardS, gvI_tf, slotAt_zero, slotAt_succ, stepA_move, stepA_pick, stepA_buildSlice, stepA_load, stepA_store, stepA_fieldAddr, thenV_some, thenS_some, pickV_true, eval_tmp, eval_const, put_some, put_none, absV_int, absV_bool, cells_int, one_int, all_nil, all_cons, aField_eq, fieldGo_ptr, aLoad_eq, loadGo_row, aPlace_ptr, dropC_cells, aStore_eq, storeGo_ptr, setC_row, setAll_nil, setAll_cons, get_push_new, set_push, Nat.reduceEqDiff, Nat.reduceAdd, Nat.reduceLeDiff, List.map_cons, List.map_nil, Option.map_some, Nat.zero_add, Nat.zero_le, List.length_cons, List.length_nil, List.drop_zero, List.take_succ_cons, List.take_nil, List.set_cons_zero, List.set_cons_succ, if_true, if_false, Bool.and_self, Nat.le_refl, ft_45_2, ft_47_5, lt_47, zt_2, q1]
      rw [← hH5]
      simp only [wpA_region, seqQ_normal, blkQ_normal, endI_mk, andThen_normal, goI_out, goI_ops, opsA_nil, opsA_cons, stepA_move, stepA_assign, stepA_binOp, stepA_append, thenV_some, thenH_some, eval_tmp, eval_const, put_some, put_none, aBin_add, absV_int, Nat.reduceEqDiff, if_true, if_false, f11, b6, ea6, wi]
      exact hid_mk ⟨(i + 1, L6), ⟨f0, f1, f2, f3, f9, rfl, hlt.1, hlt.2.2, hl6, a6, hL6⟩, by simp only; omega⟩
  · refine SWp.roomR (t := 10) acc.own fun f' h5' hf' oR kR hid => ?_
    have g0 := (hf' 0 (by decide)).trans f0
    have g1 := (hf' 1 (by decide)).trans f1
    have g2 := (hf' 2 (by decide)).trans f2
    have g3 := (hf' 3 (by decide)).trans f3
    have g9 := (hf' 9 (by decide)).trans f9
    have g11 := (hf' 11 (by decide)).trans f11
    obtain ⟨v, g10⟩ : ∃ v, f' 10 = v := ⟨_, rfl⟩
    rw [g10] at oR hid
    have hbare : ∀ x ∈ L, bare x := fun x hx => by obtain ⟨k, r, rfl, _⟩ := hL x hx; exact ⟨rfl, rfl⟩
    obtain ⟨h6, c6, o6, k6⟩ := oR.cast (fun r => entS_castR L h5' r hbare) (by rw [rows_len entE_len, rows_len entS_len])
    have newv : ∀ q, idOf v = some q → h.n ≤ q := fun q hq => acc.new q (by rw [← hid]; exact hq)
    have kA5 : Keep h h5' none_ := acc.keep.trans kR fun q hq hh => by have := acc.new q hh; omega
    have kA : Keep h h6 none_ := kA5.trans k6 fun q hq hh => by have := newv q hh; omega
    have hlL : L.length ≤ 50 := by omega
    have heL : ∀ x ∈ L, eLen x := fun x hx => by obtain ⟨h1, h2⟩ := hbare x hx; unfold eLen; rw [h1, h2]; simp
    have hlen := lenO o6.own
    have okL := tdOk L (by omega)
    have hu6 : KU h6 := by unfold KU; rw [kA.glob]; exact hu
    have hrd : SCalls Tryd.prog 12 [v] h5' (fun r h' => r = .agg (tdC (toldOf L)) ∧ h' = h6) := SCalls.args (CastL.cons c6 (CastL.refl _ _)) (pReadO L (by omega) heL h6 hu6 o6.own)
    have cT : ∀ t : TD, (V.agg (tdC t)).cells = some (tdC t) := fun _ => rfl
    have sT : ∀ t : TD, setC (some 3) (AObj.cells [V.snil, .snil, .int .i64 0] 29 none) 0 (tdC t) = some (.cells (tdC t) 29 none) := fun _ => rfl
    have d0 : ∀ t : TD, dropC (AObj.cells (tdC t) 29 none) 0 = some (tdC t) := fun _ => rfl
    have tk : ∀ t : TD, (tdC t).take 3 = tdC t := fun _ => rfl
    have tl : ∀ t : TD, (tdC t).length = 3 := fun _ => rfl
    have lgE : loadGo (some none) (some (tdC (toldOf L))) = some (.imm 0 []) := by
      show some (V.imm (logsOf L).length ((logsOf L).flatMap logC)) = _
      rw [dat_logs ht hL]
      rfl
    have z0 : (((0 : Nat) : Int) != 0) = false := rfl
    obtain ⟨H, hH⟩ : ∃ y, y = h6.push (.cells (tdC (toldOf L)) 29 none) := ⟨_, rfl⟩
    have kH : Keep h6 H none_ := by rw [hH]; exact Keep.push _ _ _
    have nH : H.n = h6.n + 1 := by rw [hH]; rfl
    have gT : H.get h6.n = .cells (tdC (toldOf L)) 29 none := by rw [hH]; exact get_push_new
    have oH := o6.keep kH fun q hq hh => hh
    have huH : KU H := by unfold KU; rw [kH.glob]; exact hu6
    have eT : taskAt (toldOf L).tasks t = taskAt (tasksOf L) t := rfl
    have eO := dat_task ht hL
    have eqL : (((L.length : Nat) : Int) != ((L.length : Nat) : Int)) = false := by simp
    -- what ends it
    obtain ⟨kE, hkE⟩ : ∃ q : Int, q = if cm then 3 else 4 := ⟨_, rfl⟩
    have b2 : ∀ hh : AHeap, aBuildSlice Tryd.prog 22 1 [(0, .agg [.int .i64 kE, .int .i64 t, .int .i64 0, .int .i64 0, .int .i64 0, .int .i64 0, .int .i64 0, .int .i64 0, .bool false, .snil, .snil])] hh = some (.sl hh.n 0 1 1, hh.push (.cells (entS (endE t cm)) 47 none)) := fun hh => by
      have := litE1 hh (endE t cm)
      rw [List.flatMap_cons, List.flatMap_nil, List.append_nil] at this
      rw [hkE]
      exact this
    have hlE : (L ++ [endE t cm]).length ≤ 51 := by rw [List.length_append]; simp; omega
    have okE := tdOk (L ++ [endE t cm]) (by omega)
    have heE : ∀ x ∈ L ++ [endE t cm], eLen x := fun x hx => (List.mem_append.1 hx).elim (heL x) fun hx => by rw [List.mem_singleton.1 hx]; exact ⟨by simp [endE], by simp [endE]⟩
    have ex3 : (decide ((i : Int) < ((rs.length : Nat) : Int)) = true ∧ decide ((i : Int) < ((lg.length : Nat) : Int)) = true ∧ decide ((i : Int) < 50) = false) ∨ (decide ((i : Int) < ((rs.length : Nat) : Int)) = true ∧ decide ((i : Int) < ((lg.length : Nat) : Int)) = false) ∨ decide ((i : Int) < ((rs.length : Nat) : Int)) = false := by
      by_cases q1 : i < rs.length
      · by_cases q2 : i < lg.length
        · exact .inl ⟨decide_eq_true (by omega), decide_eq_true (by omega), decide_eq_false (by omega)⟩
        · exact .inr (.inl ⟨decide_eq_true (by omega), decide_eq_false (by omega)⟩)
      · exact .inr (.inr (decide_eq_false (by omega)))
    refine wpI_sound (by kernel_rfl) ?_
    rcases ex3 with ⟨q1, q2, q3⟩ | ⟨q1, q2⟩ | q1
    all_goals
      first | simp only [wpA_region, wpA_seq, wpA_cond, wpA_exit, condI_false, seqQ_normal, seqQ_exit, blkQ_exit, endI_mk, goE, andThen_exit, goI_out, goI_ops, opsA_nil, opsA_cons, opsA_guardS, gvI_same, slotAt_zero, slotAt_succ, stepA_move, stepA_pick, stepA_binOp, stepA_len, stepA_call, thenV_some, pickV_true, eval_tmp, eval_const, put_some, aBin_lss, absV_int, absV_bool, aLen_imm, Nat.reduceEqDiff, reduceCtorEq, List.map_cons, List.map_nil, if_true, if_false, kt_33, kt_49, g0, g1, g10, g11, q1, q2, q3] | simp only [wpA_region, wpA_seq, wpA_cond, wpA_exit, condI_false, seqQ_normal, seqQ_exit, blkQ_exit, endI_mk, goE, andThen_exit, goI_out, goI_ops, opsA_nil, opsA_cons, opsA_guardS, gvI_same, gvI_ft, slotAt_zero, slotAt_succ, stepA_move, stepA_pick, stepA_binOp, stepA_len, stepA_call, thenV_some, pickV_true, pickV_false, eval_tmp, eval_const, put_some, aBin_lss, absV_bool, aLen_imm, Nat.reduceEqDiff, reduceCtorEq, List.map_cons, List.map_nil, if_true, if_false, kt_33, kt_49, g0, g1, g10, g11, q1, q2] | simp only [wpA_region, wpA_seq, wpA_cond, wpA_exit, condI_false, seqQ_normal, seqQ_exit, blkQ_exit, endI_mk, goE, andThen_exit, goI_out, goI_ops, opsA_nil, opsA_cons, opsA_guardS, gvI_ft, slotAt_zero, slotAt_succ, stepA_move, stepA_pick, stepA_binOp, stepA_len, stepA_call, thenV_some, pickV_false, eval_tmp, eval_const, put_some, aBin_lss, absV_bool, aLen_imm, Nat.reduceEqDiff, reduceCtorEq, List.map_cons, List.map_nil, if_true, if_false, kt_33, g0, g10, g11, q1]
      refine callI_of cal12 hrd fun r h6' ⟨er, e6⟩ => ?_
      subst er e6
      simp only [wpA_region, wpA_seq, seqQ_normal, goI_out, goI_ops, opsA_nil, opsA_cons, stepA_alloc, stepA_load, stepA_store, stepA_fieldAddr, thenV_some, thenH_some, thenS_some, eval_tmp, put_some, put_none, aField_eq, fieldGo_ptr, aLoad_eq, aPlace_ptr, dropC_cells, aStore_eq, storeGo_ptr, aAlloc_eq, get_push_new, set_push, Nat.reduceEqDiff, Option.map_some, Nat.add_zero, Nat.zero_le, List.drop_zero, if_true, if_false, ft_29_0, lt_26, zc_29, zt_29, cT, sT]
      rw [← hH]
      simp only [goI_ops, opsA_cons, opsA_guardS, gvI_same, slotAt_zero, slotAt_succ, stepA_move, stepA_load, stepA_binOp, stepA_convert, stepA_len, stepA_call, thenV_some, thenC_some, eval_tmp, eval_const, put_some, put_none, aBin_neq, aConv_int, absV_int, aLoad_eq, loadGo_row, aPlace_ptr, aLen_imm, Option.some.injEq, Nat.reduceEqDiff, List.map_cons, List.map_nil, if_true, if_false, Nat.le_refl, it_3, it_5, kt_26, lt_29, g2, gT, d0, lgE, tk, tl, z0, cvt]
      refine callI_pure cal18 (pViewTask (toldOf L) okL t H) ?_
      rw [eT]
      have ey : tvC (taskAt (tasksOf L) t) = [.int .i64 (taskAt (tasksOf L) t).t, .int .i64 (taskAt (tasksOf L) t).ep, .int .i64 (taskAt (tasksOf L) t).tx, .imm (taskAt (tasksOf L) t).offs.length (i64V (taskAt (tasksOf L) t).offs), .imm (taskAt (tasksOf L) t).ord.length (i64V (taskAt (tasksOf L) t).ord), .int .i64 ((taskAt (tasksOf L) t).opn : Nat)] := rfl
      rw [ey, eO]
      simp only [goI_ops, opsA_cons, opsA_guardS, gvI_same, slotAt_zero, slotAt_succ, stepA_move, stepA_pick, stepA_binOp, stepA_field, stepA_len, stepA_call, thenV_some, pickV_false, eval_tmp, eval_const, put_some, put_none, aBin_neq, absV_bool, aFieldOf_eq, partGo_one, List.getElem?_cons_zero, List.getElem?_cons_succ, bne_self_eq_false, Nat.reduceEqDiff, List.map_cons, List.map_nil, if_true, if_false, pt_41_5, g10, hlen]
      refine callI_of cal14 (pStableO L (by omega) heL H huH oH.own) fun r h7 ⟨⟨w, er, hw⟩, k7⟩ => ?_
      subst er
      obtain rfl := dat_stable ht hL hw
      have o7 := oH.keep k7 (fun _ _ hh => hh)
      have ku7 : KU h7 := by unfold KU; rw [k7.glob]; exact huH
      have hkk : (cm = true ∧ kE = 3) ∨ (cm = false ∧ kE = 4) := by
        cases cm
        · exact .inr ⟨rfl, hkE⟩
        · exact .inl ⟨rfl, hkE⟩
      obtain ⟨H2, hH2⟩ : ∃ y, y = h7.push (.cells [.int .i64 kE, .int .i64 t, .int .i64 0, .int .i64 0, .int .i64 0, .int .i64 0, .int .i64 0, .int .i64 0, .bool false, .snil, .snil] 47 none) := ⟨_, rfl⟩
      clear hkE
      rcases hkk with ⟨hcm, rfl⟩ | ⟨hcm, rfl⟩
      all_goals
        simp only [wpA_skip, wpA_region, wpA_seq, wpA_cond, condI_true, condI_false, seqQ_normal, goI_out, goI_ops, opsA_nil, opsA_cons, opsA_guardS, gvI_same, slotAt_zero, slotAt_succ, stepA_move, stepA_pick, stepA_alloc, stepA_build, stepA_buildSlice, stepA_load, stepA_store, stepA_binOp, stepA_convert, stepA_fieldAddr, thenV_some, thenC_some, thenH_some, thenS_some, pickV_false, eval_tmp, eval_const, put_some, put_none, aBin_neq, aConv_int, absV_int, absV_bool, cells_int, cells_agg, one_int, one_bool, one_snil, all_nil, all_cons, aField_eq, fieldGo_ptr, aLoad_eq, loadGo_row, aPlace_ptr, dropC_cells, aStore_eq, storeGo_ptr, setC_row, setAll_nil, setAll_cons, aAlloc_eq, aBuild_go, aFill_nil, aFill_cons, fillGo_some, buildGo_struct, get_push_new, set_push, List.getElem?_cons_zero, List.getElem?_cons_succ, Option.some.injEq, Nat.reduceEqDiff, Nat.reduceAdd, Nat.reduceLeDiff, List.map_cons, List.map_nil, Option.map_some, Nat.add_zero, Nat.zero_add, Nat.zero_le, List.length_cons, List.length_nil, List.drop_zero, List.take_succ_cons, List.take_nil, List.set_cons_zero, List.set_cons_succ, and_self, if_true, if_false, Bool.and_self, Nat.le_refl, ft_47_0, it_3, it_5, lt_47, pl_47, zc_47, zt_3, zt_47, g2, g3, g10, z0, cvt, hcm]
        rw [← hH2]
        have kH2 : Keep h7 H2 none_ := by rw [hH2]; exact Keep.push _ _ _
        clear hH2
        have oH2 := o7.keep kH2 (fun _ _ hh => hh)
        obtain ⟨v15, h8, ea8, o15, oL8, k8, d8⟩ := oH2.elem (P := Tryd.prog) sl_22 (by decide) (xs := entS (endE t cm)) rfl rfl (fun m hm => by
          change m * 11 = _ + 11 at hm
          rw [rows_len entE_len] at hm
          exact ⟨by simp only [lim]; omega, by simp only [lim]; omega⟩)
        obtain ⟨h9, c9, o9, oL9, k9⟩ := cast_both ⟨rfl, rfl⟩ o15 oL8
        have o9' : Own h9 47 11 v15 ((L ++ [endE t cm]).flatMap entE) := by rw [List.flatMap_append]; simpa using o9
        have hlen15 := lenO o9'
        have kg9 : h9.glob = h7.glob := by rw [k9.glob, k8.glob, kH2.glob]
        have hu9 : KU h9 := by unfold KU; rw [kg9]; exact ku7
        have hrd2 : SCalls Tryd.prog 12 [v15] h8 (fun r h' => r = .agg (tdC (toldOf (L ++ [endE t cm]))) ∧ h' = h9) := SCalls.args (CastL.cons c9 (CastL.refl _ _)) (pReadO (L ++ [endE t cm]) (by omega) heE h9 hu9 o9')
        simp only [wpA_region, wpA_seq, seqQ_normal, goI_out, goI_ops, opsA_nil, opsA_cons, stepA_move, stepA_assign, stepA_append, stepA_call, thenH_some, eval_tmp, put_some, put_none, Nat.reduceEqDiff, List.map_cons, List.map_nil, if_true, if_false, b2, ea8]
        refine callI_of cal12 hrd2 fun r h9' ⟨er, e9⟩ => ?_
        subst er e9
        obtain ⟨H3, hH3⟩ : ∃ y, y = h9'.push (.cells (tdC (toldOf (L ++ [endE t cm]))) 29 none) := ⟨_, rfl⟩
        have kH3 : Keep h9' H3 none_ := by rw [hH3]; exact Keep.push _ _ _
        have nH3 : H3.n = h9'.n + 1 := by rw [hH3]; rfl
        have gB : H3.get h9'.n = .cells (tdC (toldOf (L ++ [endE t cm]))) 29 none := by rw [hH3]; exact get_push_new
        have hu3 : KU H3 := by unfold KU; rw [kH3.glob]; exact hu9
        simp only [wpA_region, wpA_seq, wpA_block, wpA_loop, seqQ_normal, goI_out, goI_ops, opsA_nil, opsA_cons, stepA_assign, stepA_alloc, stepA_store, thenH_some, thenS_some, eval_tmp, eval_const, put_some, put_none, absV_int, aStore_eq, storeGo_ptr, aAlloc_eq, get_push_new, set_push, Nat.reduceEqDiff, Option.map_some, if_true, if_false, zc_29, zt_29, cT, sT]
        rw [← hH3]
        clear hH3
        refine SWp.loopG (α := Nat) (fun i f h' => f 2 = .int .u8 t ∧ f 3 = .bool cm ∧ f 9 = .bool true ∧ f 10 = v ∧ f 15 = v15 ∧ f 16 = .ptr h9'.n 0 ∧ f 17 = .int .i64 ((if cm then cntB L i else 0 : Nat) : Int) ∧ f 18 = .int .i64 (i : Nat) ∧ i ≤ 5 ∧ Keep H3 h' none_) (fun i => 5 - i) 0
          ⟨g2, g3.trans (by rw [hcm]), g9, g10, rfl, rfl, (by rw [cntB_zero hL, ite_self]; rfl), rfl, Nat.zero_le _, Keep.refl _ _⟩ ?_
        clear g0 g1 g2 g3 g9 g10 g11
        rintro i f h' ⟨f2, f3, f9, f10, f15, f16, f17, f18, hi5, kk⟩
        have gB' := (kk.get h9'.n (by omega) (by simp [none_])).trans gB
        have nk := kk.n
        refine wpI_sound (by kernel_rfl) ?_
        by_cases hi : i < 5
        · have e1 : decide ((i : Int) < 5) = true := decide_eq_true (by omega)
          have wi : IntKind.i64.wrap (((i : Nat) : Int) + 1) = ((i + 1 : Nat) : Int) := by rw [Go.IntWalk.i64_in _ (by omega)]; omega
          simp only [wpA_skip, wpA_region, wpA_seq, wpA_cond, wpA_block, condI_true, seqQ_normal, goI_out, goI_ops, opsA_nil, opsA_cons, stepA_move, stepA_load, stepA_binOp, stepA_call, thenV_some, eval_tmp, eval_const, put_some, aBin_lss, absV_int, aLoad_eq, loadGo_row, aPlace_ptr, Nat.reduceEqDiff, List.map_cons, List.map_nil, if_true, if_false, Nat.le_refl, lt_29, f16, f18, e1, gB', d0, tk, tl]
          refine callI_pure cal16 (pViewLog (toldOf (L ++ [endE t cm])) okE (i : Int) h') ?_
          have eLg := end_log ht hL cm (i : Int)
          have hWl : (if cm then (L.filter fun x => x.log == (i : Int)).map (fun x => (x.r, x.del)) else []).length ≤ L.length := by
            by_cases hq : cm = true
            · rw [if_pos hq, List.length_map]; exact List.length_filter_le _ _
            · rw [if_neg hq]; exact Nat.zero_le _
          have hWn : (if cm then cntB L i else 0) + (if cm then (L.filter fun x => x.log == (i : Int)).map (fun x => (x.r, x.del)) else []).length = (if cm then cntB L (i + 1) else 0) := by
            rw [cntB_succ]
            by_cases hq : cm = true
            · rw [if_pos hq, if_pos hq, if_pos hq, List.length_map]
            · rw [if_neg hq, if_neg hq, if_neg hq]; rfl
          have hAt : cm = true → ∀ j (hj : j < L.length), L[j].log = (i : Int) → ∃ hk : ((L.take j).filter fun x => x.log == (i : Int)).length < (if cm then (L.filter fun x => x.log == (i : Int)).map (fun x => (x.r, x.del)) else []).length, (if cm then (L.filter fun x => x.log == (i : Int)).map (fun x => (x.r, x.del)) else [])[((L.take j).filter fun x => x.log == (i : Int)).length] = (L[j].r, L[j].del) := fun hc j hj hn => by
            simp only [hc, if_true]
            exact filter_at hj _ hn
          rw [show logAt (toldOf (L ++ [endE t cm])).logs (i : Int) = _ from eLg]
          generalize (if cm then (L.filter fun x => x.log == (i : Int)).map (fun x => (x.r, x.del)) else []) = W at hWl hWn hAt
          have exW : logC ((i : Int), W) = [.int .i64 (i : Int), .imm W.length (recL W), .imm W.length (delL W)] := rfl
          rw [exW]
          have hnl : (if cm then cntB L i else 0) ≤ L.length := by
            by_cases hq : cm = true
            · rw [if_pos hq]; exact cntB_le _ _
            · rw [if_neg hq]; exact Nat.zero_le _
          obtain ⟨H4, hH4⟩ : ∃ y, y = h'.push (.cells [.int .i64 (i : Int), .imm W.length (recL W), .imm W.length (delL W)] 36 none) := ⟨_, rfl⟩
          have kH4 : Keep h' H4 none_ := by rw [hH4]; exact Keep.push _ _ _
          have gV : H4.get h'.n = .cells [.int .i64 (i : Int), .imm W.length (recL W), .imm W.length (delL W)] 36 none := by rw [hH4]; exact get_push_new
          have oL4 := (oL9.keepN (kH3.trans' kk)).keepN kH4
          simp only [wpA_region, wpA_seq, wpA_block, wpA_loop, seqQ_normal, goI_out, goI_ops, opsA_nil, opsA_cons, stepA_assign, stepA_alloc, stepA_store, thenH_some, thenS_some, eval_tmp, eval_const, put_some, absV_int, cells_agg, one_int, one_imm, all_nil, all_cons, aStore_eq, storeGo_ptr, setC_row, setAll_nil, setAll_cons, aAlloc_eq, get_push_new, set_push, Nat.reduceEqDiff, Nat.reduceAdd, Option.map_some, Nat.zero_add, List.length_cons, List.length_nil, List.set_cons_zero, List.set_cons_succ, if_true, if_false, Bool.and_self, Nat.le_refl, zc_36, zt_36]
          rw [← hH4]
          refine SWp.loopG (α := Nat) (fun j f h2 => f 2 = .int .u8 t ∧ f 3 = .bool cm ∧ f 9 = .bool true ∧ f 10 = v ∧ f 15 = v15 ∧ f 16 = .ptr h9'.n 0 ∧ f 17 = .int .i64 ((if cm then cntB L i else 0 : Nat) : Int) ∧ f 18 = .int .i64 (i : Nat) ∧ f 19 = .ptr h'.n 0 ∧ f 20 = .int .i64 (((L.take j).filter fun x => x.log == (i : Int)).length : Nat) ∧ f 21 = .int .i64 (j : Nat) ∧ j ≤ L.length ∧ h2 = H4) (fun j => L.length - j) 0
            ⟨f2, f3, f9, f10, f15, f16, f17, f18, rfl, rfl, rfl, Nat.zero_le _, rfl⟩ ?_
          clear f2 f3 f9 f10 f15 f16 f17 f18
          rintro j f h2 ⟨f2, f3, f9, f10, f15, f16, f17, f18, f19, f20, f21, hj, rfl⟩
          refine wpI_sound (by kernel_rfl) ?_
          by_cases hjl : j < L.length
          · have e3 : decide ((j : Int) < ((L.length : Nat) : Int)) = true := decide_eq_true (by omega)
            have wj : IntKind.i64.wrap (((j : Nat) : Int) + 1) = ((j + 1 : Nat) : Int) := by rw [Go.IntWalk.i64_in _ (by omega)]; omega
            obtain ⟨iv, qq, ix, _, dr⟩ := own_row_ix (kk := .i64) entE_len (by decide) ss_22 oL4 hjl
            rw [aIndexAddr_eq, ss_22] at ix
            rw [Nat.zero_add] at ix dr
            have ix : ixGo (some 11) none v (j : Int) = some (.ptr iv (j * 11)) := ix
            have hsn : (L.take (j + 1)).filter (fun x => x.log == (i : Int)) = (L.take j).filter (fun x => x.log == (i : Int)) ++ (if L[j].log = (i : Int) then [L[j]] else []) := by
              rw [List.take_succ_eq_append_getElem hjl, List.filter_append]
              congr 1
              by_cases hh : L[j].log = (i : Int)
              · rw [if_pos hh, List.filter_cons_of_pos (by simpa using hh)]; rfl
              · rw [if_neg hh, List.filter_cons_of_neg (by simpa using hh)]; rfl
            have hlenJ : ((L.take j).filter fun x => x.log == (i : Int)).length ≤ 50 := by
              have := List.length_filter_le (fun x : Ent => x.log == (i : Int)) (L.take j)
              rw [List.length_take] at this
              omega
            have hAtj := fun hc => hAt hc j hjl
            generalize L[j] = x at dr hsn hAtj
            have hxl : (entE x ++ qq).length = 11 + qq.length := by rw [List.length_append, entE_len]
            have dr4 := dropC_more (m := 4) dr (by omega)
            have dr5 := dropC_more (m := 5) dr (by omega)
            have l4 : loadGo (some none) (some ((entE x ++ qq).drop 4)) = some (.int .i64 x.log) := rfl
            have l5 : loadGo (some (some 3)) (some ((entE x ++ qq).drop 5)) = some (.agg (rcdE x.r)) := rfl
            by_cases hxi : x.log = (i : Int)
            rotate_left
            · have e4 : (x.log == (i : Int)) = false := by simpa using hxi
              rw [if_neg hxi, List.append_nil] at hsn
              simp only [wpA_skip, wpA_region, wpA_seq, wpA_cond, wpA_block, condI_true, condI_false, seqQ_normal, blkQ_normal, endI_mk, andThen_normal, goI_out, goI_ops, opsA_nil, opsA_cons, stepA_move, stepA_assign, stepA_load, stepA_binOp, stepA_fieldAddr, stepA_indexAddr, stepA_len, thenV_some, eval_tmp, eval_const, put_some, aBin_add, aBin_eql, aBin_lss, absV_int, aField_eq, fieldGo_ptr, aLoad_eq, aPlace_ptr, aIndexAddr_eq, Nat.reduceEqDiff, if_true, if_false, as_22, ft_47_4, lt_3, ss_22, f10, f18, f21, hlen, e3, ix, dr4, l4, e4, wj]
              exact hid_mk ⟨j + 1, ⟨f2, f3, f9, f10, f15, f16, f17, f18, f19, by rw [hsn]; exact f20, rfl, hjl, rfl⟩, by omega⟩
            have e4 : (x.log == (i : Int)) = true := by simpa using hxi
            rw [if_pos hxi] at hsn
            generalize hK : (L.take j).filter (fun x => x.log == (i : Int)) = F at hsn f20 hlenJ hAtj
            have wF : IntKind.i64.wrap (((F.length : Nat) : Int) + 1) = (((F ++ [x]).length : Nat) : Int) := by rw [Go.IntWalk.i64_in _ (by omega)]; simp
            simp only [wpA_skip, wpA_region, wpA_seq, wpA_cond, wpA_block, wpA_draw, condI_true, seqQ_normal, goI_out, goI_ops, opsA_nil, opsA_cons, stepA_move, stepA_load, stepA_binOp, stepA_fieldAddr, stepA_indexAddr, stepA_len, thenV_some, eval_tmp, put_some, aBin_eql, aBin_lss, aField_eq, fieldGo_ptr, aLoad_eq, aPlace_ptr, aIndexAddr_eq, Nat.reduceEqDiff, if_true, if_false, as_22, ft_47_4, lt_3, ss_22, f10, f18, f21, hlen, e3, ix, dr4, l4, e4]
            refine SWp.drawnS none_ [] (.q 0 (.q 1 (.q 2 (.q 3 (.q 4 (.q 5 (.q 6 (.q 7 (.q 8 (.q 9 (.q 10 (.q 11 (.q 12 (.q 13 (.q 14 (.q 15 (.q 16 (.q 17 (.q 18 (.q 19 (.q 20 .done))))))))))))))))))))) (by kernel_rfl) (by kernel_rfl) (by kernel_rfl) ?_
            have e5 : cm = true → decide (((W.length : Nat) : Int) ≤ ((F.length : Nat) : Int)) = false := fun hc => by obtain ⟨hk, _⟩ := hAtj hc hxi; exact decide_eq_false (by omega)
            have y1 : cm = true → aIndexAddr Tryd.prog 33 (.imm W.length (recL W)) (.int .i64 ((F.length : Nat) : Int)) = some (.at (rcdE x.r ++ recL (W.drop (F.length + 1)))) := fun hc => by
              obtain ⟨hk, hat⟩ := hAtj hc hxi
              have := rcd_ix (l := W) (kk := .i64) hk
              rw [hat] at this
              exact this
            have y2 := rcd_ld x.r
            have y3 : ∀ xo yo, aBin Tryd.prog .neq 45 xo yo (.agg (rcdE x.r)) (.agg (rcdE x.r)) = some (.bool false) := fun xo yo => rcd_neS x.r
            have f3' := f3
            rw [hcm] at f3'
            simp only [siI_done, siI_q, sqI_some, mOk_none', implies_true, qI_nil, qI_cons, qI_guard, qgI_same, qgI_ft, qgI_u, thenQ_some, q_move, q_pick, q_load, q_binOp, q_fieldAddr, q_indexAddr, q_len, wpA_skip, wpA_region, wpA_cond, condI_false, seqQ_normal, blkQ_normal, endI_mk, andThen_normal, goI_out, goI_ops, goI_mk, opsA_nil, opsA_cons, slotAt_zero, slotAt_succ, stepA_move, stepA_assign, stepA_binOp, thenV_some, pickV_true, pickV_false, eval_tmp, eval_const, put_some, aBin_add, aBin_geq, absV_int, absV_bool, aField_eq, fieldGo_ptr, aLoad_eq, loadGo_one, aPlace_ptr, aPlace_at, dropC_cells, aIndexAddr_eq, aLen_imm, List.getElem?_cons_zero, List.getElem?_cons_succ, Nat.reduceEqDiff, Nat.reduceAdd, Nat.reduceLeDiff, Nat.zero_add, List.length_cons, List.length_nil, List.drop_zero, List.drop_succ_cons, true_and, if_true, if_false, as_22, ft_36_1, ft_47_5, kt_33, lt_33, lt_45, ss_22, f3', f10, f19, f20, f21, gV, e5, y1, hcm, y2, y3, ix, dr5, l5, wF, wj]
            exact hid_mk ⟨j + 1, ⟨f2, f3, f9, f10, f15, f16, f17, f18, f19, by rw [hsn]; rfl, rfl, hjl, rfl⟩, by omega⟩
          · obtain rfl : j = L.length := by omega
            have e3 : decide (((L.length : Nat) : Int) < ((L.length : Nat) : Int)) = false := decide_eq_false (by omega)
            have wn : IntKind.i64.wrap (((if cm then cntB L i else 0 : Nat) : Int) + ((W.length : Nat) : Int)) = ((if cm then cntB L (i + 1) else 0 : Nat) : Int) := by
              rw [Go.IntWalk.i64_in _ (by omega), ← hWn]
              exact (Int.natCast_add _ _).symm
            simp only [wpA_region, wpA_seq, wpA_cond, wpA_exit, condI_false, seqQ_normal, seqQ_exit, blkQ_normal, blkQ_exit, endI_mk, goE, andThen_normal, andThen_exit, goI_out, goI_ops, opsA_nil, opsA_cons, stepA_move, stepA_assign, stepA_load, stepA_binOp, stepA_fieldAddr, stepA_len, thenV_some, eval_tmp, eval_const, put_some, aBin_add, aBin_lss, absV_int, aField_eq, fieldGo_ptr, aLoad_eq, loadGo_one, aPlace_ptr, dropC_cells, aLen_imm, Nat.reduceEqDiff, Nat.reduceAdd, Nat.reduceLeDiff, Nat.zero_add, List.length_cons, List.length_nil, List.drop_zero, List.drop_succ_cons, if_true, if_false, ft_36_1, kt_33, lt_33, f3, f10, f17, f18, f19, f21, hlen, e3, gV, wn, wi]
            exact hid_mk ⟨i + 1, ⟨f2, f3, f9, f10, f15, f16, rfl, rfl, hi, kk.trans' kH4⟩, by omega⟩
        · obtain rfl : i = 5 := by omega
          have e1 : decide (((5 : Nat) : Int) < 5) = false := rfl
          rw [cntB_five hL] at f17
          have o15f := o9'.keepN (kH3.trans' kk)
          have hu' : KU h' := by unfold KU; rw [kk.glob]; exact hu3
          have eTt := end_task ht hL cm
          have eyB : tvC (taskAt (toldOf (L ++ [endE t cm])).tasks t) = [.int .i64 (taskAt (tasksOf (L ++ [endE t cm])) t).t, .int .i64 (taskAt (tasksOf (L ++ [endE t cm])) t).ep, .int .i64 (taskAt (tasksOf (L ++ [endE t cm])) t).tx, .imm (taskAt (tasksOf (L ++ [endE t cm])) t).offs.length (i64V (taskAt (tasksOf (L ++ [endE t cm])) t).offs), .imm (taskAt (tasksOf (L ++ [endE t cm])) t).ord.length (i64V (taskAt (tasksOf (L ++ [endE t cm])) t).ord), .int .i64 ((taskAt (tasksOf (L ++ [endE t cm])) t).opn : Nat)] := rfl
          rw [eTt] at eyB
          have eql : (((L.length : Nat) : Int) == ((L.length : Nat) : Int)) = true := by simp
          have eql2 : (((((L ++ [endE t cm]).length : Nat) : Int)) == (((L ++ [endE t cm]).length : Nat) : Int)) = true := by simp
          have eq0 : (((0 : Nat) : Int) == 0) = true := rfl
          rw [hcm] at f3 f17
          simp only [if_true, Bool.false_eq_true, if_false] at f17
          simp only [wpA_skip, wpA_region, wpA_seq, wpA_cond, wpA_exit, condI_true, condI_false, seqQ_normal, seqQ_exit, blkQ_exit, endI_mk, goE, andThen_exit, goI_out, goI_ops, opsA_nil, opsA_cons, opsA_guardS, gvI_same, slotAt_zero, slotAt_succ, stepA_move, stepA_assign, stepA_pick, stepA_load, stepA_binOp, stepA_convert, stepA_len, stepA_call, thenV_some, thenC_some, pickV_true, eval_tmp, eval_const, put_some, aBin_eql, aBin_lss, aConv_int, absV_int, absV_bool, aLoad_eq, loadGo_row, aPlace_ptr, beq_self_eq_true, Option.some.injEq, Nat.reduceEqDiff, List.map_cons, List.map_nil, if_true, if_false, Nat.le_refl, it_3, it_5, lt_29, f2, f3, f9, f10, f16, f17, f18, e1, hlen, gB', d0, tk, tl, eq0, cvt]
          refine callI_pure cal18 (pViewTask (toldOf (L ++ [endE t cm])) okE t h') ?_
          rw [eyB]
          simp only [goI_ops, opsA_cons, opsA_guardS, gvI_same, slotAt_zero, slotAt_succ, stepA_move, stepA_pick, stepA_binOp, stepA_field, stepA_call, thenV_some, pickV_true, eval_tmp, eval_const, put_some, aBin_eql, absV_int, absV_bool, aFieldOf_eq, partGo_one, List.getElem?_cons_zero, List.getElem?_cons_succ, beq_self_eq_true, Nat.reduceEqDiff, List.map_cons, List.map_nil, if_true, if_false, pt_41_2, f15]
          refine callI_of cal14 (pStableO (L ++ [endE t cm]) (by omega) heE h' hu' o15f) fun r h'' ⟨⟨w, er, hw⟩, k7⟩ => ?_
          subst er
          obtain rfl := end_stable ht hL cm hw
          simp only [wpA_ret, seqQ_normal, endI_mk, goI_out, goI_ops, opsA_nil, opsA_cons, opsA_guardS, gvI_same, slotAt_zero, slotAt_succ, stepA_move, stepA_assign, stepA_pick, stepA_binOp, stepA_len, thenV_some, pickV_true, eval_tmp, eval_const, put_some, aBin_eql, absV_bool, beq_self_eq_true, Nat.reduceEqDiff, if_true, if_false, f15, hlen15, retA_ret, Tryd.results6, resultsA_1]
          exact hid_mk rfl
end Go.Proofs.YtcdpepdjeneelaaDoor.Pk
