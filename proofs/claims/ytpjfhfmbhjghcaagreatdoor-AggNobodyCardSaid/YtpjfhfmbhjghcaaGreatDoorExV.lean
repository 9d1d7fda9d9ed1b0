/-
  What functions of the program do, told of abstract states. Conditions: as each theorem says.
-/
import Derived.Test.YtpjfhfmbhjghcaaGreatDoorExS
namespace Go.Proofs.YtpjfhfmbhjghcaaGreatDoor.Pk
open Go Go.Proofs Go.Proofs.YtpjfhfmbhjghcaaGreatDoor.Ab
set_option linter.unusedVariables false
set_option linter.unusedSimpArgs false
set_option maxRecDepth 10000
/-! ### Of -/
def ofX (bs : List Nat) : Except Nat Ex := match getX 16 64 bs with
  | .error c => .error c
  | .ok (e, r, _) => if r.length = 0 then .ok e else .error 5
def ofE (bs : List Nat) : Ex := match ofX bs with
  | .error _ => .mk 0 0 []
  | .ok e => e
def ofC (bs : List Nat) : Nat := match ofX bs with
  | .error c => c
  | .ok _ => 0
def ofV (bs : List Nat) : V := .tuple [.agg (encE (ofE bs)), .int .i64 (ofC bs : Nat)]
theorem ofV_clo (bs : List Nat) : Clo (ofV bs) := Clo.tuple (CloL.cons (Clo.agg (encE_clo _)) (CloL.cons (Clo.int _ _) CloL.nil))
theorem ofX_err {bs : List Nat} {c : Nat} (h : ofX bs = .error c) : c ≠ 0 := by
  unfold ofX at h
  split at h
  · rename_i e he
    cases h
    exact getX_err _ _ _ _ he
  · split at h
    · cases h
    · cases h; omega
theorem ofX_ok {bs : List Nat} (hb : ∀ b ∈ bs, b < 256) {e : Ex} (h : ofX bs = .ok e) : bs = encB e ∧ mayX e = true ∧ OkE e := by
  unfold ofX at h
  split at h
  · cases h
  · rename_i e' r l hg
    split at h
    · rename_i hr
      cases h
      have g := getX_sound 16 64 bs hb _ _ _ hg
      have hr' : r = [] := List.eq_nil_of_length_eq_zero hr
      refine ⟨by rw [g.by_, hr', List.append_nil], ?_, g.ok⟩
      have hs := g.sz
      unfold mayX
      rw [cnt_eq, if_pos ⟨g.deep, by omega⟩]
      rfl
    · cases h
theorem ofX_enc {e : Ex} (hm : mayX e = true) (hok : OkE e) : ofX (encB e) = .ok e := by
  have hd : deepX 16 e = true ∧ szE e ≤ 64 := by
    unfold mayX at hm
    rw [cnt_eq] at hm
    split at hm
    · assumption
    · cases hm
  have := getX_comp 16 64 e [] hd.1 hok hd.2
  rw [List.append_nil] at this
  unfold ofX
  rw [this]
  rfl
set_option maxHeartbeats 1000000 in
set_option maxRecDepth 10000 in
theorem pOf (x : V) (bs : List Nat) (h : AHeap) (hg : KG h) (rd : Rd h x bs) (hb : ∀ b ∈ bs, b < 256) (hl : bs.length ≤ 2 ^ 47) : Pure Tryz.prog 36 [x] h (ofV bs) := by
  refine Pure.of (ofV_clo bs) ?_
  refine SCalls.enterI (c := _) Tryz.func36 rfl (by kernel_rfl) (by simp) ?_
  obtain ⟨H0, hH0⟩ : ∃ y, y = h.push (.cells [.int .i64 0, .int .i64 0, .snil] 27 none) := ⟨_, rfl⟩
  have k0 : Keep h H0 none_ := by rw [hH0]; exact Keep.push _ _ _
  have g0 : H0.get h.n = .cells [.int .i64 0, .int .i64 0, .snil] 27 none := by rw [hH0]; exact get_push_new
  have n0 : H0.n = h.n + 1 := by rw [hH0]; rfl
  simp only [wpA_region, wpA_seq, seqQ_normal, goI_out, goI_ops, opsA_nil, opsA_cons, stepA_move, stepA_assign, stepA_alloc, stepA_call, thenH_some, eval_tmp, eval_const, put_some, enterF_zero, enterF_succ, absV_int, aAlloc_eq, Nat.reduceEqDiff, reduceCtorEq, List.map_cons, List.map_nil, Option.map_some, if_true, if_false, zc_27]
  rw [← hH0]
  clear hH0
  refine callI_of cal73 (From x bs H0 (rd.keep k0) (by omega)) fun r H1 ⟨e1, r1, k1⟩ => ?_
  subst e1
  have n1 : H0.n + 1 ≤ H1.n := r1.2.1
  have g1 := (k1.get h.n (by omega) (by simp [none_])).trans g0
  have stD : setC (some 2) (AObj.cells [V.pnil, V.int .i64 0] 157 none) 0 [V.ptr H0.n 0, V.int .i64 0] = some (.cells [V.ptr H0.n 0, V.int .i64 0] 157 none) := rfl
  obtain ⟨H2, hH2⟩ : ∃ y, y = H1.push (.cells [V.ptr H0.n 0, V.int .i64 0] 157 none) := ⟨_, rfl⟩
  have k2 : Keep H1 H2 none_ := by rw [hH2]; exact Keep.push _ _ _
  have n2 : H2.n = H1.n + 1 := by rw [hH2]; rfl
  have gd2 : H2.get H1.n = .cells [V.ptr H0.n 0, V.int .i64 0] 157 none := by rw [hH2]; exact get_push_new
  have g2 := (k2.get h.n (by omega) (by simp [none_])).trans g1
  have dc : IsDec H2 H1.n H0.n bs (64 - 64) := ⟨by omega, gd2, IsRd.keep r1 k2 (by simp [none_]), by omega⟩
  have kk2 : Keep h H2 none_ := (k0.trans' k1).trans' k2
  simp only [wpA_region, wpA_seq, seqQ_normal, goI_out, goI_ops, opsA_nil, opsA_cons, stepA_alloc, stepA_build, stepA_store, stepA_call, thenV_some, thenH_some, thenS_some, eval_tmp, eval_const, put_some, put_none, enterF_succ, absV_int, cells_ptr, cells_agg, aStore_eq, storeGo_ptr, setAll_nil, setAll_cons, aAlloc_eq, aBuild_go, aFill_nil, aFill_cons, fillGo_some, buildGo_struct, get_push_new, set_push, List.getElem?_cons_zero, Nat.reduceEqDiff, Nat.reduceAdd, Nat.reduceLeDiff, List.map_cons, List.map_nil, Option.map_some, Nat.zero_add, List.length_cons, List.length_nil, List.set_cons_zero, and_self, if_true, if_false, pl_157, zc_157, zt_157, stD]
  rw [← hH2]
  clear hH2
  refine callI_of cal74 (pNext 16 64 bs H2 H1.n H0.n (by decide) (by decide) (hg.keep kk2) dc hb hl) fun r H3 ⟨e3, k3, d3⟩ => ?_
  subst e3
  have n3 := k3.n
  have g3 := (k3.get h.n (by omega) (by rintro (hh | hh) <;> omega)).trans g2
  have kk3 : Keep h H3 none_ := kk2.trans k3 fun q hq hh => by rcases hh with hh | hh <;> omega
  cases hx : getX 16 64 bs with
  | error c =>
    have hc0 := getX_err _ _ _ _ hx
    have c1 : (((c : Nat) : Int) != 0) = true := by simp; omega
    have hE : ofX bs = .error c := by unfold ofX; rw [hx]
    have hV : ofV bs = .tuple [.agg (encE (.mk 0 0 [])), .int .i64 (c : Nat)] := by unfold ofV ofE ofC; rw [hE]
    rw [hV]
    have cA := ex_cells (.mk 0 0 [])
    have stA := ex_st (.mk 0 0 [])
    have kZ : Keep H3 (H3.push (.cells (encE (.mk 0 0 [])) 27 none)) none_ := Keep.push _ _ _
    have g4 := (kZ.get h.n (by omega) (by simp [none_])).trans g3
    simp only [gotV]
    simp only [wpA_region, wpA_seq, wpA_cond, wpA_ret, condI_true, seqQ_normal, seqQ_ret, endI_mk, goI_out, goI_ops, opsA_nil, opsA_cons, stepA_move, stepA_assign, stepA_alloc, stepA_build, stepA_store, stepA_binOp, stepA_extract, thenV_some, thenH_some, thenS_some, extV_zero, extV_succ, eval_tmp, eval_const, put_some, put_none, enterF_succ, aBin_neq, absV_int, cells_agg, one_int, one_snil, all_nil, all_cons, aLoad_eq, loadGo_row, aPlace_ptr, dropC_cells, aStore_eq, storeGo_ptr, setC_row, setAll_nil, setAll_cons, aAlloc_eq, aBuild_go, aFill_nil, buildGo_struct, get_push_new, get_set_same, set_push, Nat.reduceEqDiff, Nat.reduceAdd, List.map_nil, Option.map_some, Nat.zero_add, Nat.zero_le, List.length_cons, List.length_nil, List.drop_zero, List.take_succ_cons, List.take_nil, List.set_cons_zero, List.set_cons_succ, if_true, if_false, Bool.and_self, Nat.le_refl, lt_27, pl_27, zc_27, zt_27, cA, stA, c1, g4, retA_ret, Tryz.results36, resultsC_2, resultA_tmp, resultA_cell, res2_some]
    exact hid_mk ⟨_, errC _ c, (kk3.trans' kZ).trans (Keep.set _ h.n _) fun q hq hh => by omega⟩
  | ok r =>
    obtain ⟨e, b', l'⟩ := r
    have dc3 := d3 e b' l' hx
    have z0 : ((0 : Int) != 0) = false := rfl
    have cA := ex_cells e
    have stA := ex_st e
    obtain ⟨H4, hH4⟩ : ∃ y, y = H3.push (.cells (encE e) 27 none) := ⟨_, rfl⟩
    have k4 : Keep H3 H4 none_ := by rw [hH4]; exact Keep.push _ _ _
    have g44 : H4.get H3.n = .cells (encE e) 27 none := by rw [hH4]; exact get_push_new
    have g4 := (k4.get h.n (by omega) (by simp [none_])).trans g3
    have dc4 := IsDec.keep dc3 k4 (by simp [none_]) (by simp [none_])
    have gd4 := dc4.2.1
    have kk4 := kk3.trans' k4
    simp only [gotV]
    simp only [wpA_skip, wpA_region, wpA_seq, wpA_cond, condI_false, seqQ_normal, goI_out, goI_ops, opsA_nil, opsA_cons, stepA_move, stepA_assign, stepA_alloc, stepA_load, stepA_store, stepA_binOp, stepA_fieldAddr, stepA_extract, thenV_some, thenH_some, thenS_some, extV_zero, extV_succ, eval_tmp, eval_const, put_some, put_none, enterF_succ, aBin_neq, absV_int, aField_eq, fieldGo_ptr, aLoad_eq, aPlace_ptr, aStore_eq, storeGo_ptr, aAlloc_eq, get_push_new, set_push, bne_self_eq_false, Nat.reduceEqDiff, Option.map_some, Nat.add_zero, if_true, if_false, ft_157_0, lt_154, zc_27, zt_27, cA, stA]
    rw [← hH4]
    clear hH4
    simp only [goI_ops, opsA_cons, stepA_call, thenV_some, eval_tmp, put_some, put_none, enterF_succ, loadGo_one, dropC_cells, Nat.reduceEqDiff, Nat.reduceAdd, List.map_cons, List.map_nil, Nat.zero_add, Nat.zero_le, List.length_cons, List.length_nil, List.drop_zero, if_true, if_false, gd4]
    refine callI_pure cal75 (Left H4 _ _ b' dc4.2.2.1) ?_
    by_cases hb0 : b'.length = 0
    · have c1 : decide ((0 : Int) < ((b'.length : Nat) : Int)) = false := decide_eq_false (by omega)
      have hE : ofX bs = .ok e := by unfold ofX; rw [hx]; simp only; rw [if_pos hb0]
      have hV : ofV bs = .tuple [.agg (encE e), .int .i64 0] := by unfold ofV ofE ofC; rw [hE]; rfl
      rw [hV]
      have dA : dropC (AObj.cells (encE e) 27 none) 0 = some (encE e) := by cases e; rfl
      have lA : loadGo (some (some 3)) (some (encE e)) = some (.agg (encE e)) := by cases e; rfl
      have ldc := ex_ldc e
      simp only [wpA_skip, wpA_region, wpA_seq, wpA_cond, wpA_ret, condI_false, seqQ_normal, endI_mk, goI_out, goI_ops, opsA_nil, opsA_cons, stepA_assign, stepA_load, stepA_store, stepA_binOp, thenV_some, thenS_some, eval_tmp, eval_const, put_some, put_none, enterF_succ, aBin_gtr, absV_int, aLoad_eq, aPlace_ptr, aStore_eq, storeGo_ptr, get_set_same, Nat.reduceEqDiff, Option.map_some, if_true, if_false, lt_27, zt_27, c1, g44, g4, dA, lA, cA, stA, retA_ret, Tryz.results36, resultsC_2, resultA_tmp, resultA_cell, res2_some]
      exact hid_mk ⟨_, Cast.refl _ _, kk4.trans (Keep.set _ h.n _) fun q hq hh => by omega⟩
    · have c1 : decide ((0 : Int) < ((b'.length : Nat) : Int)) = true := decide_eq_true (by omega)
      have hE : ofX bs = .error 5 := by unfold ofX; rw [hx]; simp only; rw [if_neg hb0]
      have hV : ofV bs = .tuple [.agg (encE (.mk 0 0 [])), .int .i64 (5 : Nat)] := by unfold ofV ofE ofC; rw [hE]
      rw [hV]
      simp only [wpA_region, wpA_seq, wpA_cond, wpA_ret, condI_true, seqQ_normal, seqQ_ret, endI_mk, goI_out, goI_ops, opsA_nil, opsA_cons, stepA_assign, stepA_build, stepA_store, stepA_binOp, thenV_some, thenS_some, eval_tmp, eval_const, put_some, put_none, enterF_succ, aBin_gtr, absV_int, cells_agg, one_int, one_snil, all_nil, all_cons, aLoad_eq, loadGo_row, aPlace_ptr, dropC_cells, aStore_eq, storeGo_ptr, setC_row, setAll_nil, setAll_cons, aBuild_go, aFill_nil, buildGo_struct, get_set_same, Nat.reduceEqDiff, Nat.reduceAdd, List.map_nil, Option.map_some, Nat.zero_add, Nat.zero_le, List.length_cons, List.length_nil, List.drop_zero, List.take_succ_cons, List.take_nil, List.set_cons_zero, List.set_cons_succ, if_true, if_false, Bool.and_self, Nat.le_refl, lt_27, pl_27, zc_27, zt_27, c1, g4, retA_ret, Tryz.results36, resultsC_2, resultA_tmp, resultA_cell, res2_some]
      exact hid_mk ⟨_, errC _ 5, kk4.trans (Keep.set _ h.n _) fun q hq hh => by omega⟩
end Go.Proofs.YtpjfhfmbhjghcaaGreatDoor.Pk
