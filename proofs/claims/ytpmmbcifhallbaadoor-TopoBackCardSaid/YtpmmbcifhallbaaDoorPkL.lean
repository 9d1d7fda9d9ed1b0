/-
  What functions of the program do, told of abstract states. Conditions: as each theorem says.
-/
import Derived.Test.YtpmmbcifhallbaaDoorPkJ
namespace Go.Proofs.YtpmmbcifhallbaaDoor.Pk
open Go Go.Proofs Go.Proofs.YtpmmbcifhallbaaDoor.Ab
set_option linter.unusedVariables false
set_option linter.unusedSimpArgs false

def goInts : Nat → List Nat → List Int → List Int × List Nat × Nat
  | 0, rest, acc => (acc, rest, 0)
  | k + 1, rest, acc =>
    if (dec rest 0 0).2.2 ≠ 0 then ([], [], (dec rest 0 0).2.2)
    else if unz (dec rest 0 0).1 < -2147483648 ∨ 2147483647 < unz (dec rest 0 0).1 then ([], [], 2)
    else goInts k (rest.drop (dec rest 0 0).2.1) (acc ++ [unz (dec rest 0 0).1])
def getInts (bs : List Nat) (most : Int) : List Int × List Nat × Nat :=
  if (dec bs 0 0).2.2 ≠ 0 then ([], bs, (dec bs 0 0).2.2)
  else if most < 0 ∨ most < ((dec bs 0 0).1 : Nat) then ([], bs, 2)
  else if (goInts (dec bs 0 0).1 (bs.drop (dec bs 0 0).2.1) []).2.2 ≠ 0 then ([], bs, (goInts (dec bs 0 0).1 (bs.drop (dec bs 0 0).2.1) []).2.2)
  else goInts (dec bs 0 0).1 (bs.drop (dec bs 0 0).2.1) []

theorem dec_step {rest : List Nat} (hb : ∀ b ∈ rest, b < 256) (h : (dec rest 0 0).2.2 = 0) : 1 ≤ (dec rest 0 0).2.1 ∧ (dec rest 0 0).2.1 ≤ rest.length := by
  have h1 := (dec_enc rest 0 0 (dec rest 0 0).1 (dec rest 0 0).2.1 hb (by
    have q : dec rest 0 0 = ((dec rest 0 0).1, (dec rest 0 0).2.1, (dec rest 0 0).2.2) := rfl
    rw [h] at q
    exact q)).1
  have h2 := dec_used rest 0 0
  omega
theorem lit1i (h : AHeap) (a : Int) : aBuildSlice Tryd.prog 33 1 [(0, .int .i64 a)] h = some (.sl h.n 0 1 1, h.push (.cells [.int .i64 a] 3 none)) := by rw [buildSlice_go sl_33]; rfl
theorem mem_drop {P : Nat → Prop} {l : List Nat} (h : ∀ b ∈ l, P b) (k : Nat) : ∀ b ∈ l.drop k, P b := fun b hb => h b (List.mem_of_mem_drop hb)

set_option maxRecDepth 10000 in
theorem RIntsG (p : V) (i : Nat) (bs : List Nat) (most : Int) (h : AHeap) (hr : IsRd h p i bs) (hb : ∀ b ∈ bs, b < 256) (hc : bs.length ≤ 2 ^ 47) (hcm : bs.length ≤ 2 ^ 40 ∨ most ≤ 2 ^ 40) (hm : -2 ^ 63 ≤ most ∧ most < 2 ^ 63) :
    SCalls Tryd.prog 79 [p, .int .i64 most] h (fun r h' => r = .tuple [.imm (getInts bs most).1.length (i64V (getInts bs most).1), .int .i64 ((getInts bs most).2.2 : Nat)] ∧ IsRd h' p i (getInts bs most).2.1 ∧ Keep h h' (· = i)) := by
  refine SCalls.cast ?_
  refine SCalls.enterI (c := _) Tryd.func79 rfl (by kernel_rfl) (by simp) ?_
  have hin := hr.2.1
  simp only [wpA_region, wpA_seq, seqQ_normal, goI_out, goI_ops, opsA_nil, opsA_cons, stepA_move, stepA_assign, stepA_call, eval_tmp, eval_const, put_some, enterF_zero, enterF_succ, absV_int, absV_snil, Int.reduceNeg, Nat.reduceEqDiff, reduceCtorEq, List.map_cons, List.map_nil, if_true, if_false]
  refine callI_pure cal71 (rest h p i bs hr) ?_
  simp only [wpA_region, wpA_seq, seqQ_normal, goI_out, goI_ops, opsA_nil, opsA_cons, stepA_alloc, stepA_build, stepA_store, stepA_call, thenV_some, thenH_some, thenS_some, eval_tmp, put_some, put_none, enterF_succ, cells_imm, cells_agg, one_imm, all_nil, all_cons, aStore_eq, storeGo_ptr, setC_row, setAll_nil, setAll_cons, aAlloc_eq, aBuild_go, aFill_nil, aFill_cons, fillGo_some, buildGo_struct, get_push_new, set_push, List.getElem?_cons_zero, Int.reduceNeg, Nat.reduceEqDiff, List.map_cons, List.map_nil, Option.map_some, Nat.zero_add, List.length_cons, List.length_nil, List.set_cons_zero, and_self, if_true, if_false, Bool.and_self, Nat.le_refl, pl_102, zc_102, zt_102]
  have k0 : Keep h (h.push (.cells [.imm bs.length (bytesV bs)] 102 none)) none_ := Keep.push _ _ _
  have r0 : IsRd (h.push (.cells [.imm bs.length (bytesV bs)] 102 none)) (.ptr h.n 0) h.n bs := ⟨rfl, by rw [push_n]; omega, get_push_new⟩
  refine callI_of cal78 (RUint _ h.n bs _ r0 hb (by omega)) fun r h1 ⟨e1, r1, k1⟩ => ?_
  subst e1
  have kp : Keep h h1 none_ := k0.trans k1 fun k hk hi => by omega
  have rp := hr.keep kp (by simp [none_])
  have hjn : h.n < h1.n := r1.2.1
  have hlt := dec_lt bs 0 0 (by omega) (by decide) hb
  by_cases herr : (dec bs 0 0).2.2 = 0
  rotate_left
  · have hne : ((((dec bs 0 0).2.2 : Nat) : Int) != 0) = true := by simp; omega
    have hG : getInts bs most = ([], bs, (dec bs 0 0).2.2) := by unfold getInts; rw [if_pos herr]
    simp only [wpA_region, wpA_seq, wpA_cond, wpA_ret, condI_true, seqQ_normal, seqQ_ret, endI_mk, goI_out, goI_ops, opsA_nil, opsA_cons, stepA_move, stepA_assign, stepA_binOp, stepA_extract, thenV_some, extV_zero, extV_succ, eval_tmp, eval_const, put_some, put_none, enterF_succ, aBin_neq, absV_int, absV_snil, Int.reduceNeg, Nat.reduceEqDiff, if_true, if_false, hne, retA_ret, Tryd.results79, resultsA_2]
    exact hid_mk ⟨_, _, nil_cast _ _, by rw [hG]; rfl, by rw [hG]; exact rp, kp.up⟩
  · have hne : ((((dec bs 0 0).2.2 : Nat) : Int) != 0) = false := by simp [herr]
    have hst := dec_step hb herr
    have hout : (decide (most < (0 : Int)) = true ∨ (decide (most < (0 : Int)) = false ∧ decide (IntKind.u64.wrap most < (((dec bs 0 0).1 : Nat) : Int)) = decide (most < (((dec bs 0 0).1 : Nat) : Int)))) := by
      by_cases h0 : most < 0
      · left; simpa using h0
      · right
        refine ⟨by simp; omega, ?_⟩
        rw [IntKind.wrap_u64, Int.emod_eq_of_lt (by omega) (by omega)]
    by_cases hrange : most < 0 ∨ most < (((dec bs 0 0).1 : Nat) : Int)
    · have hG : getInts bs most = ([], bs, 2) := by unfold getInts; rw [if_neg (by omega), if_pos hrange]
      rcases hout with c1 | ⟨c1, c2⟩
      · simp only [wpA_skip, wpA_region, wpA_seq, wpA_cond, wpA_ret, condI_true, condI_false, seqQ_normal, seqQ_ret, endI_mk, goI_out, goI_ops, opsA_nil, opsA_cons, opsA_guardS, gvI_tf, slotAt_zero, slotAt_succ, stepA_move, stepA_assign, stepA_pick, stepA_binOp, stepA_extract, thenV_some, pickV_true, extV_zero, extV_succ, eval_tmp, eval_const, put_some, put_none, enterF_zero, enterF_succ, aBin_neq, aBin_lss, absV_int, absV_bool, absV_snil, Int.reduceNeg, Nat.reduceEqDiff, if_true, if_false, hne, c1, retA_ret, Tryd.results79, resultsA_2]
        exact hid_mk ⟨_, _, nil_cast _ _, by rw [hG]; rfl, by rw [hG]; exact rp, kp.up⟩
      · have c3 : decide (most < (((dec bs 0 0).1 : Nat) : Int)) = true := by
          rcases hrange with h0 | h0
          · simp at c1; omega
          · simpa using h0
        simp only [wpA_skip, wpA_region, wpA_seq, wpA_cond, wpA_ret, condI_true, condI_false, seqQ_normal, seqQ_ret, endI_mk, goI_out, goI_ops, opsA_nil, opsA_cons, opsA_guardS, gvI_same, slotAt_zero, slotAt_succ, stepA_move, stepA_assign, stepA_pick, stepA_binOp, stepA_convert, stepA_extract, thenV_some, thenC_some, pickV_false, extV_zero, extV_succ, eval_tmp, eval_const, put_some, put_none, enterF_zero, enterF_succ, aBin_neq, aBin_lss, aBin_gtr, absV_int, absV_bool, absV_snil, Int.reduceNeg, Nat.reduceEqDiff, if_true, if_false, hne, c1, c2, c3, aConv_int it_3 it_71, retA_ret, Tryd.results79, resultsA_2]
        exact hid_mk ⟨_, _, nil_cast _ _, by rw [hG]; rfl, by rw [hG]; exact rp, kp.up⟩
    · have c1 : decide (most < (0 : Int)) = false := by simp; omega
      have c2 : decide (IntKind.u64.wrap most < (((dec bs 0 0).1 : Nat) : Int)) = false := by
        rw [IntKind.wrap_u64, Int.emod_eq_of_lt (by omega) (by omega)]
        simp; omega
      simp only [wpA_skip, wpA_region, wpA_seq, wpA_cond, wpA_block, wpA_loop, condI_false, seqQ_normal, goI_out, goI_ops, opsA_nil, opsA_cons, opsA_guardS, gvI_same, slotAt_zero, slotAt_succ, stepA_move, stepA_assign, stepA_pick, stepA_binOp, stepA_convert, stepA_extract, thenV_some, thenC_some, pickV_false, extV_zero, extV_succ, eval_tmp, eval_const, put_some, put_none, enterF_zero, enterF_succ, aBin_neq, aBin_lss, aBin_gtr, absV_int, absV_bool, absV_snil, Int.reduceNeg, Nat.reduceEqDiff, if_true, if_false, hne, c1, c2, aConv_int it_3 it_71]
      refine SWp.loopG (α := V × Nat × List Nat × List Int) (fun x f h' => f 0 = p ∧ f 6 = .ptr h.n 0 ∧ f 9 = x.1 ∧ f 30 = .int .u64 ((dec bs 0 0).1 : Nat) ∧ f 31 = .int .u64 (x.2.1 : Nat) ∧
          Own h' 3 1 x.1 (i64V x.2.2.2) ∧ (∀ k, idOf x.1 = some k → h1.n ≤ k) ∧ Keep h1 h' (· = h.n) ∧ IsRd h' (.ptr h.n 0) h.n x.2.2.1 ∧
          goInts ((dec bs 0 0).1 - x.2.1) x.2.2.1 x.2.2.2 = goInts (dec bs 0 0).1 (bs.drop (dec bs 0 0).2.1) [] ∧ x.2.1 ≤ (dec bs 0 0).1 ∧ (x.2.2.2.length + x.2.2.1.length ≤ bs.length ∧ x.2.2.2.length ≤ x.2.1) ∧ ∀ b ∈ x.2.2.1, b < 256)
        (fun x => (dec bs 0 0).1 - x.2.1) (.snil, 0, bs.drop (dec bs 0 0).2.1, [])
        ⟨rfl, rfl, rfl, rfl, rfl, Own.snil _ _ _, by simp [idOf], Keep.refl _ _, r1, by simp, Nat.zero_le _, ⟨by simp, by simp⟩, mem_drop hb _⟩ ?_
      rintro ⟨v, k, rest, acc⟩ f h2 ⟨f0, f6, f9, f30, f31, ho, hid, hk, hrd, hgo, hkn, ⟨hlen, hlenk⟩, hb2⟩
      simp only at f9 f31 ho hid hrd hgo hkn hlen hlenk hb2
      have hacc : acc.length ≤ 2 ^ 40 := by rcases hcm with hcm | hcm <;> omega
      refine wpI_sound (by kernel_rfl) ?_
      have kall : Keep h h2 none_ := kp.trans hk fun k hk hi => by omega
      by_cases hlast : k < (dec bs 0 0).1
      · have d1 : decide ((k : Int) < (((dec bs 0 0).1 : Nat) : Int)) = true := by simp; omega
        have hw1 : IntKind.u64.wrap ((k : Int) + 1) = ((k + 1 : Nat) : Int) := by rw [IntKind.wrap_u64]; omega
        rw [show (dec bs 0 0).1 - k = ((dec bs 0 0).1 - (k + 1)) + 1 by omega, goInts] at hgo
        simp only [wpA_skip, wpA_region, wpA_seq, wpA_cond, wpA_block, condI_true, seqQ_normal, goI_out, goI_ops, opsA_nil, opsA_cons, stepA_binOp, stepA_call, thenV_some, eval_tmp, put_some, aBin_lss, Int.reduceNeg, Nat.reduceEqDiff, List.map_cons, List.map_nil, if_true, if_false, f6, f30, f31, d1]
        refine callI_of cal80 (RInt _ _ rest h2 hrd hb2 (by omega)) fun r h3 ⟨e3, r3, k3⟩ => ?_
        subst e3
        have kall3 : Keep h h3 none_ := kall.trans k3 fun k hk hi => by omega
        have ho3 : Own h3 3 1 v (i64V acc) := ho.keep k3 fun k hk hi => by have := hid k hk; omega
        have rp3 := hr.keep kall3 (by simp [none_])
        by_cases herr2 : (dec rest 0 0).2.2 = 0
        rotate_left
        · have hne2 : ((((dec rest 0 0).2.2 : Nat) : Int) != 0) = true := by simp; omega
          rw [if_pos herr2] at hgo
          have hG : getInts bs most = ([], bs, (dec rest 0 0).2.2) := by
            unfold getInts; rw [if_neg (by omega), if_neg hrange, ← hgo, if_pos herr2]
          simp only [wpA_region, wpA_seq, wpA_cond, wpA_ret, condI_true, seqQ_normal, seqQ_ret, blkQ_ret, endI_mk, goE, andThen_ret, goI_out, goI_ops, opsA_nil, opsA_cons, stepA_move, stepA_assign, stepA_binOp, stepA_extract, thenV_some, extV_zero, extV_succ, eval_tmp, eval_const, put_some, aBin_neq, absV_int, absV_snil, Int.reduceNeg, Nat.reduceEqDiff, if_true, if_false, hne2, retA_ret, Tryd.results79, resultsA_2]
          exact hid_mk ⟨_, _, nil_cast _ _, by rw [hG]; rfl, by rw [hG]; exact rp3, kall3.up⟩
        · have hne2 : ((((dec rest 0 0).2.2 : Nat) : Int) != 0) = false := by simp [herr2]
          rw [if_neg (by omega)] at hgo
          have hst2 := dec_step hb2 herr2
          by_cases hrg : unz (dec rest 0 0).1 < -2147483648 ∨ 2147483647 < unz (dec rest 0 0).1
          · rw [if_pos hrg] at hgo
            have hG : getInts bs most = ([], bs, 2) := by
              unfold getInts; rw [if_neg (by omega), if_neg hrange, ← hgo]; rfl
            by_cases hlo : unz (dec rest 0 0).1 < -2147483648
            · have g1 : decide (unz (dec rest 0 0).1 < (-2147483648 : Int)) = true := by simpa using hlo
              simp only [wpA_skip, wpA_region, wpA_seq, wpA_cond, wpA_ret, condI_true, condI_false, seqQ_normal, seqQ_ret, blkQ_ret, endI_mk, goE, andThen_ret, goI_out, goI_ops, opsA_nil, opsA_cons, opsA_guardS, gvI_tf, slotAt_zero, slotAt_succ, stepA_move, stepA_assign, stepA_pick, stepA_binOp, stepA_extract, thenV_some, pickV_true, extV_zero, extV_succ, eval_tmp, eval_const, put_some, aBin_neq, aBin_lss, absV_int, absV_bool, absV_snil, Int.reduceNeg, Nat.reduceEqDiff, if_true, if_false, hne2, g1, retA_ret, Tryd.results79, resultsA_2]
              exact hid_mk ⟨_, _, nil_cast _ _, by rw [hG]; rfl, by rw [hG]; exact rp3, kall3.up⟩
            · have g1 : decide (unz (dec rest 0 0).1 < (-2147483648 : Int)) = false := by simpa using hlo
              have g2 : decide ((2147483647 : Int) < unz (dec rest 0 0).1) = true := by simp; omega
              simp only [wpA_skip, wpA_region, wpA_seq, wpA_cond, wpA_ret, condI_true, condI_false, seqQ_normal, seqQ_ret, blkQ_ret, endI_mk, goE, andThen_ret, goI_out, goI_ops, opsA_nil, opsA_cons, opsA_guardS, gvI_same, slotAt_zero, slotAt_succ, stepA_move, stepA_assign, stepA_pick, stepA_binOp, stepA_extract, thenV_some, pickV_false, extV_zero, extV_succ, eval_tmp, eval_const, put_some, aBin_neq, aBin_lss, aBin_gtr, absV_int, absV_bool, absV_snil, Int.reduceNeg, Nat.reduceEqDiff, if_true, if_false, hne2, g1, g2, retA_ret, Tryd.results79, resultsA_2]
              exact hid_mk ⟨_, _, nil_cast _ _, by rw [hG]; rfl, by rw [hG]; exact rp3, kall3.up⟩
          · rw [if_neg hrg] at hgo
            have g1 : decide (unz (dec rest 0 0).1 < (-2147483648 : Int)) = false := by simp; omega
            have g2 : decide ((2147483647 : Int) < unz (dec rest 0 0).1) = false := by simp; omega
            obtain ⟨v4, h4, q1, q2, q3, q4⟩ := append_elem (P := Tryd.prog) sl_33 (by decide) ho3 (xs := [.int .i64 (unz (dec rest 0 0).1)]) rfl rfl (by simp [i64V_length, lim]; omega) (by simp [i64V_length, lim]; omega)
            simp only [wpA_skip, wpA_region, wpA_seq, wpA_cond, condI_false, seqQ_normal, blkQ_normal, endI_mk, andThen_normal, goI_out, goI_ops, opsA_nil, opsA_cons, opsA_guardS, gvI_same, slotAt_zero, slotAt_succ, stepA_move, stepA_assign, stepA_pick, stepA_buildSlice, stepA_binOp, stepA_extract, stepA_append, thenV_some, thenH_some, pickV_false, extV_zero, extV_succ, eval_tmp, eval_const, put_some, aBin_add, aBin_neq, aBin_lss, aBin_gtr, absV_int, absV_bool, Int.reduceNeg, Nat.reduceEqDiff, List.map_cons, List.map_nil, if_true, if_false, f9, f31, hne2, g1, g2, lit1i, q1, hw1]
            have hni : ¬ isId v h.n := fun hh => by have := hid _ hh; omega
            refine hid_mk ⟨(v4, k + 1, rest.drop (dec rest 0 0).2.1, acc ++ [unz (dec rest 0 0).1]), ⟨f0, f6, rfl, f30, rfl, ?_, ?_, ?_, r3.keep q3 hni, hgo, by simp only; omega, ?_, mem_drop hb2 _⟩, by simp only; omega⟩
            · simp only [i64V, List.map_append, List.map_cons, List.map_nil]; exact q2
            · intro k' hk'
              rcases q4 with q4 | q4
              · exact hid k' (by rw [← q4]; exact hk')
              · have := q4 k' hk'; have := hk.n; have := k3.n; omega
            · refine (hk.trans' k3).trans q3 fun k' hk' hi => ?_
              have := hid k' hi; omega
            · simp only [List.length_append, List.length_drop, List.length_cons, List.length_nil]; omega
      · have d1 : decide ((k : Int) < (((dec bs 0 0).1 : Nat) : Int)) = false := by simp; omega
        rw [show (dec bs 0 0).1 - k = 0 by omega, goInts] at hgo
        have hG : getInts bs most = (acc, rest, 0) := by
          unfold getInts; rw [if_neg (by omega), if_neg hrange, ← hgo]; rfl
        have rp2 := hr.keep kall (by simp [none_])
        obtain ⟨rfl, _, hg2⟩ := rp2
        obtain ⟨_, _, hgj⟩ := hrd
        simp only [wpA_region, wpA_seq, wpA_cond, wpA_exit, wpA_ret, condI_false, seqQ_normal, seqQ_exit, blkQ_exit, endI_mk, goE, andThen_exit, goI_out, goI_ops, opsA_nil, opsA_cons, stepA_move, stepA_assign, stepA_load, stepA_store, stepA_nilCheck, stepA_binOp, stepA_fieldAddr, thenV_some, thenS_some, nilV_ptr, eval_tmp, eval_const, put_some, put_none, aBin_lss, absV_int, cells_imm, one_imm, all_nil, all_cons, aField_eq, fieldGo_ptr, aLoad_eq, loadGo_one, aPlace_ptr, dropC_cells, aStore_eq, storeGo_ptr, setC_row, setAll_nil, setAll_cons, Int.reduceNeg, Nat.reduceEqDiff, reduceCtorEq, Option.map_some, Nat.add_zero, Nat.zero_add, Nat.zero_le, List.length_cons, List.length_nil, List.drop_zero, List.set_cons_zero, if_true, if_false, Bool.and_self, Nat.le_refl, ft_102_0, lt_36, zt_36, f0, f6, f9, f30, f31, d1, hg2, hgj, retA_ret, Tryd.results79, resultsA_2]
        have hkset : Keep h2 (h2.set i (.cells [.imm rest.length (bytesV rest)] 102 none)) (· = i) := Keep.set _ _ _
        have ho2 : Own (h2.set i (.cells [.imm rest.length (bytesV rest)] 102 none)) 3 1 v (i64V acc) := ho.keep hkset fun k' hk' hi => by have := hid k' hk'; omega
        obtain ⟨h5, c5, k5⟩ := Cast.own ho2 (n := acc.length) (by rw [i64V_length, Nat.mul_one]) (by omega)
        have hni : ¬ isId v i := fun hh => by have := hid _ hh; omega
        have r5 : IsRd (h2.set i (.cells [.imm rest.length (bytesV rest)] 102 none)) (.ptr i 0) i rest := ⟨rfl, by rw [set_n]; exact Nat.lt_of_lt_of_le hin kall.n, get_set_same⟩
        refine hid_mk ⟨_, h5, Cast.tuple (CastL.cons c5 (CastL.refl _ _)), by rw [hG]; rfl, by rw [hG]; exact r5.keep k5 hni, ?_⟩
        refine (kall.up.trans' hkset).trans k5 fun k' hk' hi => ?_
        have := hid k' hi; omega
theorem RInts (p : V) (i : Nat) (bs : List Nat) (most : Int) (h : AHeap) (hr : IsRd h p i bs) (hb : ∀ b ∈ bs, b < 256) (hc : bs.length ≤ 2 ^ 40) (hm : -2 ^ 63 ≤ most ∧ most < 2 ^ 63) :
    SCalls Tryd.prog 79 [p, .int .i64 most] h (fun r h' => r = .tuple [.imm (getInts bs most).1.length (i64V (getInts bs most).1), .int .i64 ((getInts bs most).2.2 : Nat)] ∧ IsRd h' p i (getInts bs most).2.1 ∧ Keep h h' (· = i)) :=
  RIntsG p i bs most h hr hb (by omega) (.inl hc) hm
end Go.Proofs.YtpmmbcifhallbaaDoor.Pk
