/-
  What functions of the program do, told of abstract states. Conditions: as each theorem says.
-/
import Derived.Test.YtmgjjhpkhjebbaaQoE
namespace Go.Proofs.Ytmgjjhpkhjebbaa.Pk
open Go Go.Proofs Go.Proofs.Ytmgjjhpkhjebbaa.Ab Go.Sort
set_option linter.unusedVariables false
set_option linter.unusedSimpArgs false
/-! ### Holes -/
def hasAt (cs : List Cel) (i : Int) : Bool := cs.any fun c => c.at_ == i
def tkV (cs : List Cel) : List V := (List.range 4096).map fun i => V.bool (hasAt cs (i : Nat))
theorem tkV_len (cs : List Cel) : (tkV cs).length = 4096 := by simp [tkV]
def upF (g : Int) (c : Cel) : Int := if 0 ≤ c.at_ ∧ c.at_ < 4096 then max g c.at_ else g
def topAt (cs : List Cel) : Int := cs.foldl upF (-1)
theorem topAt_snoc (cs : List Cel) (c : Cel) : topAt (cs ++ [c]) = upF (topAt cs) c := by unfold topAt; rw [List.foldl_append]; rfl
theorem hasAt_snoc (cs : List Cel) (c : Cel) (i : Int) : hasAt (cs ++ [c]) i = (hasAt cs i || (c.at_ == i)) := by unfold hasAt; rw [List.any_append]; simp
theorem fold_rng : ∀ (cs : List Cel) (g : Int), -1 ≤ g → g < 4096 → -1 ≤ cs.foldl upF g ∧ cs.foldl upF g < 4096
  | [], g, h1, h2 => ⟨h1, h2⟩
  | c :: cs, g, h1, h2 => by
    rw [List.foldl_cons]
    refine fold_rng cs _ ?_ ?_
    · unfold upF; split <;> omega
    · unfold upF; split <;> omega
theorem topAt_rng (cs : List Cel) : -1 ≤ topAt cs ∧ topAt cs < 4096 := fold_rng cs _ (by omega) (by omega)
theorem tkV_out (cs : List Cel) (c : Cel) (h : ¬ (0 ≤ c.at_ ∧ c.at_ < 4096)) : tkV (cs ++ [c]) = tkV cs := by
  unfold tkV
  apply List.map_congr_left
  intro i hi
  rw [hasAt_snoc]
  have : (c.at_ == (i : Int)) = false := by have := List.mem_range.1 hi; simp; omega
  rw [this, Bool.or_false]
theorem tkV_in (cs : List Cel) (c : Cel) (h0 : 0 ≤ c.at_) (h1 : c.at_ < 4096) : tkV (cs ++ [c]) = (tkV cs).set c.at_.toNat (.bool true) := by
  apply List.ext_getElem
  · rw [List.length_set, tkV_len, tkV_len]
  · intro i hi hi2
    rw [List.getElem_set]
    simp only [tkV, List.getElem_map, List.getElem_range, hasAt_snoc]
    by_cases he : c.at_.toNat = i
    · rw [if_pos he]
      have : (c.at_ == (i : Int)) = true := by simp; omega
      rw [this, Bool.or_true]
    · rw [if_neg he]
      have : (c.at_ == (i : Int)) = false := by simp; omega
      rw [this, Bool.or_false]
def holesTo (cs : List Cel) (k : Nat) : List Int := ((List.range k).filter fun i => !hasAt cs (i : Nat)).map fun i : Nat => (i : Int)
theorem holesTo_succ (cs : List Cel) (k : Nat) : holesTo cs (k + 1) = holesTo cs k ++ (if hasAt cs (k : Nat) then [] else [(k : Int)]) := by
  unfold holesTo
  rw [List.range_succ, List.filter_append, List.map_append]
  cases h : hasAt cs (k : Nat) <;> simp [h]
theorem holesTo_len (cs : List Cel) (k : Nat) : (holesTo cs k).length ≤ k := by
  unfold holesTo
  rw [List.length_map]
  exact Nat.le_trans (List.length_filter_le _ _) (by simp)
def holesL (cs : List Cel) : List Int := holesTo cs (topAt cs + 1).toNat
theorem zcH0 : zeroC Try.prog 82 = some (List.replicate 4096 (.bool false)) := by kernel_rfl
theorem zcH : zeroC Try.prog 82 = some (tkV []) := by
  have : tkV [] = List.replicate 4096 (.bool false) := by
    rw [List.eq_replicate_iff]
    refine ⟨tkV_len _, fun b hb => ?_⟩
    obtain ⟨i, _, rfl⟩ := List.mem_map.1 hb
    rfl
  rw [this, zcH0]
theorem lit1i (h : AHeap) (a : Int) : aBuildSlice Try.prog 61 1 [(0, .int .i64 a)] h = some (.sl h.n 0 1 1, h.push (.cells [.int .i64 a] 3 none)) := by rw [buildSlice_go sl_61]; rfl
set_option maxHeartbeats 2000000 in
set_option maxRecDepth 20000 in
theorem pHoles (cs : List Cel) (hl : cs.length ≤ 2 ^ 40) (h : AHeap) : Pure Try.prog 30 [.imm cs.length (cs.flatMap celE)] h (.imm (holesL cs).length (i64V (holesL cs))) := by
  refine Pure.of (Clo.imm (CloL.map fun x _ => Clo.int _ _)) ?_
  refine SCalls.enterI (c := _) Try.func30 rfl (by kernel_rfl) (by simp) ?_
  have zh := zcH
  simp only [wpA_region, wpA_seq, wpA_block, wpA_loop, seqQ_normal, goI_out, goI_ops, opsA_nil, opsA_cons, stepA_move, stepA_assign, stepA_alloc, stepA_len, thenV_some, thenH_some, eval_tmp, eval_const, put_some, enterF_zero, enterF_succ, absV_int, absV_snil, aAlloc_eq, aLen_imm, Int.reduceNeg, Nat.reduceEqDiff, reduceCtorEq, Option.map_some, if_true, if_false, kt_39, zh]
  have cc := cel_cells
  have st := cel_store
  have ld := cel_ld
  have ld0 := cel_ld0'
  refine SWp.loopG (α := Nat) (fun i f h' => f 3 = .ptr h.n 0 ∧ f 4 = .int .i64 (topAt (cs.take i)) ∧ f 9 = .imm cs.length (cs.flatMap celE) ∧ f 10 = .int .i64 (cs.length : Nat) ∧ f 11 = .int .i64 (i : Nat) ∧ i ≤ cs.length ∧ Keep h h' none_ ∧ h.n < h'.n ∧ h'.get h.n = .cells (tkV (cs.take i)) 82 none) (fun i => cs.length - i) 0
    ⟨rfl, rfl, rfl, rfl, rfl, Nat.zero_le _, Keep.push _ _ _, Nat.lt_succ_self _, get_push_new⟩ ?_
  rintro i f h1 ⟨f3, f4, f9, f10, f11, hi, k1, n1, g1⟩
  refine wpI_sound (by kernel_rfl) ?_
  by_cases hlt : i < cs.length
  · have d1 : decide ((i : Int) < ((cs.length : Nat) : Int)) = true := decide_eq_true (by omega)
    have hw : IntKind.i64.wrap ((i : Int) + 1) = ((i + 1 : Nat) : Int) := by rw [Go.IntWalk.i64_in _ (by omega)]; omega
    have x1 := cel_ix (kk := .i64) hlt
    have ht : cs.take (i + 1) = cs.take i ++ [cs[i]] := List.take_succ_eq_append_getElem hlt
    generalize cs[i] = c at x1 ht
    have tm := topAt_snoc (cs.take i) c
    rw [← ht] at tm
    obtain ⟨r1, r2⟩ := topAt_rng (cs.take i)
    have kP := k1.then_push (.cells (celE c) 36 none)
    have gP : (h1.push (.cells (celE c) 36 none)).get h1.n = .cells (celE c) 36 none := get_push_new
    have gT := (get_push_lt (o := .cells (celE c) 36 none) n1).trans g1
    have nP : (h1.push (.cells (celE c) 36 none)).n = h1.n + 1 := rfl
    simp only [wpA_skip, wpA_region, wpA_seq, wpA_cond, wpA_block, condI_true, seqQ_normal, goI_out, goI_ops, opsA_nil, opsA_cons, stepA_alloc, stepA_load, stepA_store, stepA_binOp, stepA_fieldAddr, stepA_indexAddr, thenV_some, thenH_some, thenS_some, eval_tmp, put_some, put_none, aBin_lss, aField_eq, fieldGo_ptr, aLoad_eq, loadGo_row, aPlace_ptr, aPlace_at, dropC_cells, aStore_eq, storeGo_ptr, aAlloc_eq, get_push_new, set_push, Nat.reduceEqDiff, Option.map_some, Nat.add_zero, Nat.zero_le, List.drop_zero, if_true, if_false, ft_36_0, lt_3, lt_36, zt_36, zc_36, f9, f10, f11, d1, x1, ld, cc, st]
    generalize h1.push (.cells (celE c) 36 none) = hP at kP gP gT nP ⊢
    by_cases hin : 0 ≤ c.at_ ∧ c.at_ < 4096
    · have d2 : decide (0 ≤ c.at_) = true := decide_eq_true hin.1
      have d3 : decide (c.at_ < 4096) = true := decide_eq_true hin.2
      have ix : (if 0 ≤ c.at_ ∧ c.at_ < ((4096 : Nat) : Int) then some (V.ptr h.n (c.at_.toNat * 1)) else none) = some (.ptr h.n c.at_.toNat) := by rw [if_pos ⟨hin.1, hin.2⟩]; simp
      have s4 : setC (some 1) (AObj.cells (tkV (cs.take i)) 82 none) c.at_.toNat [.bool true] = some (.cells (tkV (cs.take (i + 1))) 82 none) := by
        rw [setC_one rfl, if_pos (by rw [tkV_len]; omega), ht, tkV_in _ _ hin.1 hin.2]
      have em : max (topAt (cs.take i)) c.at_ = topAt (cs.take (i + 1)) := by rw [tm]; unfold upF; rw [if_pos hin]
      have kS : ∀ o, Keep h (hP.set h.n o) none_ := fun o => kP.setNew (Nat.le_refl _) o
      have gP2 : ∀ o, (hP.set h.n o).get h1.n = .cells (celE c) 36 none := fun o => (get_set_ne (by omega)).trans gP
      simp only [wpA_region, wpA_seq, wpA_cond, condI_true, seqQ_normal, blkQ_normal, endI_mk, andThen_normal, goI_out, goI_ops, opsA_nil, opsA_cons, opsA_guardS, gvI_same, slotAt_zero, slotAt_succ, stepA_move, stepA_assign, stepA_pick, stepA_load, stepA_store, stepA_binOp, stepA_fieldAddr, stepA_indexAddr, stepA_max, thenV_some, thenS_some, pickV_true, eval_tmp, eval_const, put_some, put_none, aBin_add, aBin_lss, aBin_geq, mmV_max, absV_int, absV_bool, cells_bool, aField_eq, fieldGo_ptr, aLoad_eq, aPlace_ptr, dropC_cells, aStore_eq, storeGo_ptr, aIndexAddr_eq, ixGo_ptr, Nat.reduceEqDiff, Option.map_some, Nat.add_zero, Nat.zero_add, Nat.zero_le, List.drop_zero, if_true, if_false, as_82, ft_36_0, lt_3, ss_82, zt_4, f3, f4, f11, gP, gP2, ld0, d2, d3, ix, gT, s4, em, hw]
      exact hid_mk ⟨i + 1, ⟨f3, rfl, f9, f10, rfl, hlt, kS _, by show h.n < hP.n; omega, get_set_same⟩, by omega⟩
    · have em : topAt (cs.take i) = topAt (cs.take (i + 1)) := by rw [tm]; unfold upF; rw [if_neg hin]
      rw [em] at f4
      have gT' : hP.get h.n = .cells (tkV (cs.take (i + 1))) 82 none := by rw [ht, tkV_out _ _ hin]; exact gT
      by_cases h0 : 0 ≤ c.at_
      · have d2 : decide (0 ≤ c.at_) = true := decide_eq_true h0
        have d3 : decide (c.at_ < 4096) = false := decide_eq_false (by omega)
        simp only [wpA_skip, wpA_region, wpA_cond, condI_false, seqQ_normal, blkQ_normal, endI_mk, andThen_normal, goI_out, goI_ops, opsA_nil, opsA_cons, opsA_guardS, gvI_same, slotAt_zero, slotAt_succ, stepA_move, stepA_pick, stepA_load, stepA_binOp, stepA_fieldAddr, thenV_some, pickV_true, eval_tmp, eval_const, put_some, put_none, aBin_add, aBin_lss, aBin_geq, absV_int, absV_bool, aField_eq, fieldGo_ptr, aLoad_eq, aPlace_ptr, dropC_cells, Nat.reduceEqDiff, Nat.add_zero, Nat.zero_le, List.drop_zero, if_true, if_false, ft_36_0, lt_3, f11, gP, ld0, d2, d3, hw]
        exact hid_mk ⟨i + 1, ⟨f3, f4, f9, f10, rfl, hlt, kP, by omega, gT'⟩, by omega⟩
      · have d2 : decide (0 ≤ c.at_) = false := decide_eq_false h0
        simp only [wpA_skip, wpA_region, wpA_cond, condI_false, seqQ_normal, blkQ_normal, endI_mk, andThen_normal, goI_out, goI_ops, opsA_nil, opsA_cons, opsA_guardS, gvI_ft, slotAt_zero, slotAt_succ, stepA_move, stepA_pick, stepA_binOp, thenV_some, pickV_false, eval_tmp, eval_const, put_some, put_none, aBin_add, aBin_geq, absV_int, absV_bool, Nat.reduceEqDiff, if_true, if_false, f11, ld0, d2, hw]
        exact hid_mk ⟨i + 1, ⟨f3, f4, f9, f10, rfl, hlt, kP, by omega, gT'⟩, by omega⟩
  · have d1 : decide ((i : Int) < ((cs.length : Nat) : Int)) = false := decide_eq_false (by omega)
    rw [List.take_of_length_le (by omega)] at f4 g1
    obtain ⟨r1, r2⟩ := topAt_rng cs
    obtain ⟨n, hn, hn2⟩ : ∃ n : Nat, topAt cs + 1 = (n : Int) ∧ n ≤ 4096 := ⟨(topAt cs + 1).toNat, by omega, by omega⟩
    have hh : holesL cs = holesTo cs n := by unfold holesL; rw [hn]; rfl
    rw [hh]
    have w1 : IntKind.i64.wrap (topAt cs + 1) = (n : Int) := by rw [Go.IntWalk.i64_in _ (by omega), hn]
    simp only [wpA_region, wpA_seq, wpA_cond, wpA_block, wpA_exit, wpA_loop, condI_false, seqQ_normal, seqQ_exit, blkQ_exit, endI_mk, goE, andThen_exit, goI_out, goI_ops, opsA_nil, opsA_cons, stepA_move, stepA_assign, stepA_binOp, thenV_some, eval_tmp, eval_const, put_some, aBin_add, aBin_lss, absV_int, absV_snil, Nat.reduceEqDiff, if_true, if_false, f4, f10, f11, d1, w1]
    refine SWp.loopG (α := Nat) (fun k f h' => f 3 = .ptr h.n 0 ∧ f 32 = .int .i64 (n : Nat) ∧ f 33 = .int .i64 (k : Nat) ∧ k ≤ n ∧ h'.get h.n = .cells (tkV cs) 82 none ∧ h.n < h'.n ∧ Acc h h' 3 1 (f 7) (i64V (holesTo cs k)) ∧ idOf (f 7) ≠ some h.n) (fun k => n - k) 0
      ⟨f3, rfl, rfl, Nat.zero_le _, g1, n1, Acc.nil k1, (show idOf V.snil ≠ some h.n by simp [idOf])⟩ ?_
    clear f3 f4 f9 f10 f11
    rintro k f h2 ⟨f3, f32, f33, hk, g2, n2, a2, id2⟩
    refine wpI_sound (by kernel_rfl) ?_
    have il : ∀ q : List Int, (i64V q).length = q.length := fun q => List.length_map ..
    by_cases hkn : k < n
    · have d2 : decide ((k : Int) < ((n : Nat) : Int)) = true := decide_eq_true (by omega)
      have hw2 : IntKind.i64.wrap ((k : Int) + 1) = ((k + 1 : Nat) : Int) := by rw [Go.IntWalk.i64_in _ (by omega)]; omega
      have ix : (if 0 ≤ (k : Int) ∧ (k : Int) < ((4096 : Nat) : Int) then some (V.ptr h.n ((k : Int).toNat * 1)) else none) = some (.ptr h.n k) := by rw [if_pos (by omega)]; simp
      have ldk : (if k ≤ (tkV cs).length then some (List.drop k (tkV cs)) else none) = some (.bool (hasAt cs (k : Nat)) :: (tkV cs).drop (k + 1)) := by
        rw [if_pos (by rw [tkV_len]; omega), List.drop_eq_getElem_cons (by rw [tkV_len]; omega)]
        simp [tkV]
      have hs := holesTo_succ cs k
      have hln := holesTo_len cs k
      cases hb : hasAt cs (k : Nat)
      · rw [hb] at ldk hs
        rw [if_neg (by decide)] at hs
        obtain ⟨v, h3, ea, o3, kp3, nw3⟩ := append_elemM (P := Try.prog) sl_61 (by decide) a2.own (xs := [.int .i64 (k : Int)]) rfl rfl (fun m hm => by
          change m * 1 = (i64V _).length + 1 at hm
          rw [il] at hm
          exact ⟨by simp only [lim]; omega, by simp only [lim]; omega⟩)
        have a3 := a2.step o3 kp3 nw3
        have lit := lit1i h2 (k : Int)
        have g3 : h3.get h.n = .cells (tkV cs) 82 none := (kp3.get h.n n2 (fun hh => id2 hh)).trans g2
        have n3 := kp3.n
        have id3 : idOf v ≠ some h.n := fun hh => by
          rcases nw3 with d | d
          · exact id2 (d ▸ hh)
          · have := d _ hh; omega
        simp only [wpA_skip, wpA_region, wpA_seq, wpA_cond, wpA_block, condI_true, seqQ_normal, blkQ_normal, endI_mk, andThen_normal, goI_out, goI_ops, opsA_nil, opsA_cons, stepA_move, stepA_assign, stepA_buildSlice, stepA_load, stepA_binOp, stepA_unOp, stepA_indexAddr, stepA_append, thenV_some, thenH_some, eval_tmp, eval_const, put_some, aBin_add, aBin_lss, aUn_not, absV_int, aLoad_eq, loadGo_one, aPlace_ptr, dropC_cells, aIndexAddr_eq, ixGo_ptr, Nat.reduceEqDiff, List.map_cons, List.map_nil, Nat.zero_add, if_true, if_false, Bool.not_false, as_82, lt_4, ss_82, f3, f32, f33, d2, ix, g2, ldk, lit, ea, hw2]
        refine hid_mk ⟨k + 1, ⟨f3, f32, rfl, hkn, g3, by omega, ?_, id3⟩, by omega⟩
        rw [hs]; unfold i64V; rw [List.map_append]; exact a3
      · rw [hb] at ldk hs
        rw [if_pos rfl, List.append_nil] at hs
        simp only [wpA_skip, wpA_region, wpA_seq, wpA_cond, wpA_block, condI_true, condI_false, seqQ_normal, blkQ_normal, endI_mk, andThen_normal, goI_out, goI_ops, opsA_nil, opsA_cons, stepA_move, stepA_assign, stepA_load, stepA_binOp, stepA_unOp, stepA_indexAddr, thenV_some, eval_tmp, eval_const, put_some, aBin_add, aBin_lss, aUn_not, absV_int, aLoad_eq, loadGo_one, aPlace_ptr, dropC_cells, aIndexAddr_eq, ixGo_ptr, Nat.reduceEqDiff, Nat.zero_add, if_true, if_false, Bool.not_true, as_82, lt_4, ss_82, f3, f32, f33, d2, ix, g2, ldk, hw2]
        exact hid_mk ⟨k + 1, ⟨f3, f32, rfl, hkn, g2, n2, by rw [hs]; exact a2, id2⟩, by omega⟩
    · have d2 : decide ((k : Int) < ((n : Nat) : Int)) = false := decide_eq_false (by omega)
      have hkn2 : k = n := by omega
      subst hkn2
      obtain ⟨h5, c5, k5⟩ := a2.cast (n := (holesTo cs k).length) (by rw [il, Nat.mul_one]) (by decide)
      simp only [wpA_region, wpA_seq, wpA_cond, wpA_exit, wpA_ret, condI_false, seqQ_normal, seqQ_exit, blkQ_exit, endI_mk, goE, andThen_exit, goI_out, goI_ops, opsA_nil, opsA_cons, stepA_move, stepA_assign, stepA_binOp, thenV_some, eval_tmp, put_some, aBin_lss, Nat.reduceEqDiff, if_true, if_false, f32, f33, d2, retA_ret, Try.results30, resultsA_1]
      exact hid_mk ⟨_, c5, k5⟩
end Go.Proofs.Ytmgjjhpkhjebbaa.Pk
