/-
  What functions of the program do, told of abstract states. Conditions: as each theorem says.
-/
import Derived.Test.YtlbekgogjlchjaaSnO
namespace Go.Proofs.Ytlbekgogjlchjaa.Pk
open Go Go.Proofs Go.Proofs.Ytlbekgogjlchjaa.Ab
set_option linter.unusedVariables false
set_option linter.unusedSimpArgs false
theorem ro_ix {l : List (List Nat)} {i : Nat} (hi : i < l.length) : aIndexAddr Try.prog 54 (.imm l.length (rowV l)) (.int .i64 (i : Int)) = some (.at (.imm l[i].length (bytesV l[i]) :: rowV (l.drop (i + 1)))) := by
  have h := index_imm (P := Try.prog) (t := 54) (k := .i64) (i := (i : Int)) (n := l.length) (cs := rowV l) ss_54 (by omega) (by omega) (by rw [rowV_len]; omega)
  rw [h, Int.toNat_natCast, Nat.mul_one]
  unfold rowV
  rw [← List.map_drop, List.drop_eq_getElem_cons hi]
  rfl
theorem cntN_cut {l : List Bool} : ∀ {n k : Nat}, k ≤ n → l.length ≤ k → cntN (rch l) n = cntN (rch l) k
  | 0, k, h1, h2 => by have : k = 0 := by omega
                       subst this; rfl
  | n + 1, k, h1, h2 => by
    by_cases e : k = n + 1
    · subst e; rfl
    · show _ + _ = _
      rw [rch_ge (show l.length ≤ n by omega), if_neg (by decide), cntN_cut (n := n) (k := k) (by omega) h2]
      rfl
set_option maxHeartbeats 4000000 in
set_option maxRecDepth 20000 in
theorem slogMinor (n : Nat) (hn : n < 256) (l : List (List Nat)) (hl : l.length ≤ 2 ^ 47) (hb : ∀ b ∈ l, ∀ x ∈ b, x < 256) (hb2 : ∀ b ∈ l, b.length ≤ 2 ^ 47) (reach : List Bool) (hr : reach.length ≤ 2 ^ 47) (h : AHeap) : SCalls Try.prog 9 [.int .u8 (n : Int), .imm l.length (rowV l), .imm reach.length (bV reach)] h (fun r h' => r = .bool true) := by
  have hm1 : (n : Int).tmod 4 = ((n % 4 : Nat) : Int) := by rw [Int.tmod_eq_emod_of_nonneg (by omega)]; omega
  have wu : IntKind.u8.wrap ((n % 4 : Nat) : Int) = ((n % 4 : Nat) : Int) := by rw [IntKind.wrap_u8]; omega
  have wi : IntKind.i64.wrap ((n % 4 : Nat) : Int) = ((n % 4 : Nat) : Int) := Go.IntWalk.i64_in _ (by omega)
  have wm : IntKind.i64.wrap (2 * ((n % 4 : Nat) : Int)) = ((2 * (n % 4) : Nat) : Int) := by rw [Go.IntWalk.i64_in _ (by omega)]; omega
  have wa : IntKind.i64.wrap (1 + ((2 * (n % 4) : Nat) : Int)) = ((1 + 2 * (n % 4) : Nat) : Int) := by rw [Go.IntWalk.i64_in _ (by omega)]; omega
  have hN : 1 + 2 * (n % 4) = 1 ∨ 1 + 2 * (n % 4) = 3 ∨ 1 + 2 * (n % 4) = 5 ∨ 1 + 2 * (n % 4) = 7 := by omega
  refine SCalls.enterI (c := _) Try.func9 rfl (by kernel_rfl) (by simp) ?_
  simp only [wpA_region, wpA_seq, seqQ_normal, goI_out, goI_ops, opsA_nil, opsA_cons, stepA_assign, stepA_call, eval_const, absV_bool, List.map_nil]
  refine callI_pure cal23 (shown10 h) ?_
  simp only [wpA_region, wpA_seq, seqQ_normal, goI_out, goI_ops, opsA_nil, opsA_cons, stepA_move, stepA_assign, stepA_binOp, stepA_convert, stepA_call, thenV_some, thenC_some, eval_tmp, eval_const, put_some, enterF_zero, enterF_succ, aBin_add, aBin_mul, absV_int, Nat.reduceEqDiff, reduceCtorEq, List.map_cons, List.map_nil, if_true, if_false, aBin_rem (show (4 : Int) ≠ 0 by decide), hm1, aConv_int it_5 it_3, wi, wm, wa]
  generalize 1 + 2 * (n % 4) = N at hN ⊢
  refine callI_of cal24 (logNew h N hN 1048576 (by decide)) fun r1 h1 ⟨L, rs, dv, nv, ow, e1, w1⟩ => ?_
  subst e1
  have n0 : ((0 : Int) != 0) = false := rfl
  have hN10 : N ≤ 2 ^ 10 := by omega
  simp only [wpA_skip, wpA_region, wpA_seq, wpA_cond, wpA_block, wpA_loop, condI_false, seqQ_normal, goI_out, goI_ops, opsA_nil, opsA_cons, opsA_guardS, gvI_same, slotAt_zero, slotAt_succ, stepA_move, stepA_assign, stepA_pick, stepA_binOp, stepA_extract, thenV_some, pickV_false, extV_zero, extV_succ, eval_tmp, eval_const, put_some, enterF_succ, aBin_neq, ptr_nil_eql, absV_int, absV_bool, absV_pnil, bne_self_eq_false, Nat.reduceEqDiff, if_true, if_false, kt_51]
  refine SWp.loopG (α := Nat) (fun i f h' => f 1 = .imm l.length (rowV l) ∧ f 2 = .imm reach.length (bV reach) ∧ f 7 = .bool true ∧ f 8 = .int .i64 (N : Int) ∧ f 9 = .ptr L 0 ∧ f 11 = .int .i64 (cntN (rch reach) i : Nat) ∧ f 12 = .int .i64 (i : Nat) ∧ i ≤ N ∧ i ≤ reach.length ∧ h' = h1) (fun i => N - i) 0
    ⟨rfl, rfl, rfl, rfl, rfl, rfl, rfl, Nat.zero_le _, Nat.zero_le _, rfl⟩ ?_
  rintro i f h1' ⟨f1, f2, f7, f8, f9, f11, f12, hi, hir, rfl⟩
  refine wpI_sound (by kernel_rfl) ?_
  by_cases hlt : i < N ∧ i < reach.length
  · obtain ⟨hlt, hlt2⟩ := hlt
    have c1 : decide ((i : Int) < (N : Int)) = true := decide_eq_true (by omega)
    have c2 : decide ((i : Int) < ((reach.length : Nat) : Int)) = true := decide_eq_true (by omega)
    have hw : IntKind.i64.wrap ((i : Int) + 1) = ((i + 1 : Nat) : Int) := by rw [Go.IntWalk.i64_in _ (by omega)]; rfl
    have x1 := bo_ix hlt2
    have yl := bo_ld
    have hri := rch_lt hlt2
    have cle := cntN_le (rch reach) i
    cases hb3 : reach[i] with
    | true =>
      rw [hb3] at x1 hri
      have e2 : cntN (rch reach) (i + 1) = cntN (rch reach) i + 1 := by show _ + _ = _; rw [if_pos hri]
      have hw2 : IntKind.i64.wrap (((cntN (rch reach) i : Nat) : Int) + 1) = ((cntN (rch reach) (i + 1) : Nat) : Int) := by rw [e2, Go.IntWalk.i64_in _ (by omega)]; rfl
      simp only [wpA_skip, wpA_region, wpA_seq, wpA_cond, wpA_block, condI_true, seqQ_normal, blkQ_normal, endI_mk, andThen_normal, goI_out, goI_ops, opsA_nil, opsA_cons, opsA_guardS, gvI_same, slotAt_zero, slotAt_succ, stepA_move, stepA_assign, stepA_pick, stepA_load, stepA_binOp, stepA_indexAddr, stepA_len, thenV_some, pickV_true, eval_tmp, eval_const, put_some, aBin_add, aBin_lss, absV_int, absV_bool, aLoad_eq, aPlace_at, aLen_imm, Nat.reduceEqDiff, if_true, if_false, kt_55, lt_4, f2, f8, f11, f12, c1, c2, x1, yl, hw, hw2]
      exact hid_mk ⟨i + 1, ⟨f1, f2, f7, f8, f9, rfl, rfl, hlt, hlt2, rfl⟩, by omega⟩
    | false =>
      rw [hb3] at x1 hri
      have e2 : cntN (rch reach) (i + 1) = cntN (rch reach) i := by show _ + _ = _; rw [if_neg (by rw [hri]; decide)]; rfl
      simp only [wpA_skip, wpA_region, wpA_seq, wpA_cond, wpA_block, condI_true, condI_false, seqQ_normal, blkQ_normal, endI_mk, andThen_normal, goI_out, goI_ops, opsA_nil, opsA_cons, opsA_guardS, gvI_same, slotAt_zero, slotAt_succ, stepA_move, stepA_assign, stepA_pick, stepA_load, stepA_binOp, stepA_indexAddr, stepA_len, thenV_some, pickV_true, eval_tmp, eval_const, put_some, aBin_add, aBin_lss, absV_int, absV_bool, aLoad_eq, aPlace_at, aLen_imm, Nat.reduceEqDiff, if_true, if_false, kt_55, lt_4, f2, f8, f12, c1, c2, x1, yl, hw]
      exact hid_mk ⟨i + 1, ⟨f1, f2, f7, f8, f9, by rw [e2]; exact f11, rfl, hlt, hlt2, rfl⟩, by omega⟩
  have hcnt : cntN (rch reach) i = cntN (rch reach) N := by
    by_cases e : i = N
    · rw [e]
    · exact (cntN_cut (by omega) (by omega)).symm
  have hend : decide ((i : Int) < (N : Int)) = false ∨ (decide ((i : Int) < (N : Int)) = true ∧ decide ((i : Int) < ((reach.length : Nat) : Int)) = false) := by
    simp only [decide_eq_false_iff_not, decide_eq_true_eq]
    omega
  rw [hcnt] at f11
  have cle := cntN_le (rch reach) N
  have hwc : IntKind.i64.wrap (2 * ((cntN (rch reach) N : Nat) : Int)) = ((2 * cntN (rch reach) N : Nat) : Int) := by rw [Go.IntWalk.i64_in _ (by omega)]; omega
  rcases hend with c1 | ⟨c1, c2⟩
  all_goals first | simp only [wpA_region, wpA_seq, wpA_cond, wpA_exit, condI_false, seqQ_normal, seqQ_exit, blkQ_exit, endI_mk, goE, andThen_exit, goI_out, goI_ops, opsA_nil, opsA_cons, opsA_guardS, gvI_same, slotAt_zero, slotAt_succ, stepA_move, stepA_pick, stepA_binOp, stepA_len, stepA_call, thenV_some, pickV_true, eval_tmp, eval_const, put_some, aBin_lss, absV_bool, aLen_imm, Nat.reduceEqDiff, List.map_cons, List.map_nil, if_true, if_false, kt_55, f2, f8, f9, f12, c1, c2] | simp only [wpA_region, wpA_seq, wpA_cond, wpA_exit, condI_false, seqQ_normal, seqQ_exit, blkQ_exit, endI_mk, goE, andThen_exit, goI_out, goI_ops, opsA_nil, opsA_cons, opsA_guardS, gvI_ft, slotAt_zero, slotAt_succ, stepA_move, stepA_pick, stepA_binOp, stepA_call, thenV_some, pickV_false, eval_tmp, eval_const, put_some, aBin_lss, absV_bool, Nat.reduceEqDiff, List.map_cons, List.map_nil, if_true, if_false, f2, f8, f9, f12, c1]
  all_goals
    refine callI_of cal26 (logOpen w1 (by decide) hN10 reach (RVal.imm _ _ _) hr) fun x h3 ⟨s3, e3, rs3, pv3, ow3, O3, ex, w3, ep3, f3⟩ => ?_
    subst ex
    have ep3' : s3.ep = 1 := ep3
    have post : s3.row = [] ∧ ((N / 2 + 1 ≤ cntN (rch reach) N ∧ e3 = 0 ∧ s3.op = true ∧ Good N s3.nd s3.ep [] 54) ∨ (¬ N / 2 + 1 ≤ cntN (rch reach) N ∧ e3 = 8 ∧ s3.op = false)) := by
      by_cases hq : N / 2 + 1 ≤ cntN (rch reach) N
      · obtain ⟨a, b, c, _, g, _⟩ := (good0 N).open_ (M := 2048) O3 (by decide) (by decide) (by simp) (by simp) hq (.inl rfl) (by simp)
        exact ⟨b, .inl ⟨hq, a, c, by rw [ep3']; exact g⟩⟩
      · obtain ⟨a, b, c⟩ := open_few O3 hq
        exact ⟨c, .inr ⟨hq, a, b⟩⟩
    obtain ⟨row3, post⟩ := post
    have c3 : ((e3 == 0) != decide ((N : Int) < ((2 * cntN (rch reach) N : Nat) : Int))) = false := by
      rcases post with ⟨hq, rfl, _⟩ | ⟨hq, rfl, _⟩
      · rw [decide_eq_true (by omega)]; rfl
      · rw [decide_eq_false (by omega)]; rfl
    simp only [wpA_skip, wpA_region, wpA_seq, wpA_cond, wpA_block, wpA_loop, condI_false, seqQ_normal, goI_out, goI_ops, opsA_nil, opsA_cons, stepA_move, stepA_assign, stepA_binOp, thenV_some, eval_tmp, eval_const, put_some, aBin_mul, aBin_eql, aBin_gtr, aBin_bool_neq, absV_int, absV_snil, Nat.reduceEqDiff, if_true, if_false, bt_4, f8, f11, hwc, c3]
    refine SWp.loopG (α := Nat × (Nat → NR) × V × (Nat → Nat) × LS × V) (fun x f h' => f 1 = .imm l.length (rowV l) ∧ f 2 = .imm reach.length (bV reach) ∧ f 7 = .bool true ∧ f 9 = .ptr L 0 ∧ f 13 = .int .i64 e3 ∧ f 14 = x.2.2.2.2.2 ∧ f 15 = .int .i64 (x.1 : Nat) ∧ x.1 ≤ 40 ∧ LogS h h' L 1048576 N x.2.1 dv nv x.2.2.1 x.2.2.2.1 x.2.2.2.2.1 ∧ KV h' x.2.2.2.1 x.2.2.2.2.2 x.2.2.2.2.1.row ∧ (∀ y, idOf x.2.2.2.2.2 = some y → h.n ≤ y) ∧ x.2.2.2.2.1.row.length ≤ x.1 ∧
        ((e3 = 0 ∧ x.2.2.2.2.1.op = true ∧ x.2.2.2.2.1.ep = 1 ∧ Good N x.2.2.2.2.1.nd x.2.2.2.2.1.ep x.2.2.2.2.1.row (54 + x.1 * 2102)) ∨ (e3 = 8 ∧ x.2.2.2.2.1.op = false))) (fun x => 40 - x.1) (0, rs3, pv3, ow3, s3, .snil)
      ⟨f1, f2, f7, f9, rfl, rfl, rfl, Nat.zero_le _, w3, ⟨by rw [row3]; exact Own.snil _ _ _, fun x hx => (by cases hx)⟩, fun x hx => (by cases hx), by rw [row3]; exact Nat.le_refl _, by
        rcases post with ⟨_, a, b, c⟩ | ⟨_, a, b⟩
        · exact .inl ⟨a, b, ep3', by rw [row3]; exact c⟩
        · exact .inr ⟨a, b⟩⟩ ?_
    rintro ⟨j, rs4, pv4, ow4, s, kv⟩ f h4 ⟨f1, f2, f7, f9, f13, f14, f15, hj, w4, kV4, hkv, hrl, gd⟩
    simp only at f14 f15 hj w4 kV4 hkv hrl gd
    refine wpI_sound (by kernel_rfl) ?_
    by_cases hlt : j < l.length ∧ j < 40
    · obtain ⟨hlt, hlt2⟩ := hlt
      have d1 : decide ((j : Int) < ((l.length : Nat) : Int)) = true := decide_eq_true (by omega)
      have d2 : decide ((j : Int) < 40) = true := decide_eq_true (by omega)
      have hw : IntKind.i64.wrap ((j : Int) + 1) = ((j + 1 : Nat) : Int) := by rw [Go.IntWalk.i64_in _ (by omega)]; rfl
      have x1 := ro_ix hlt
      have hbb := hb _ (List.getElem_mem hlt)
      have hbl := hb2 _ (List.getElem_mem hlt)
      generalize l[j] = b at x1 hbb hbl
      have lenb : ∀ hh : AHeap, aLen Try.prog 30 (.imm b.length (bytesV b)) hh = some (.int .i64 (b.length : Nat)) := fun _ => aLen_imm kt_30
      have z0 : ((0 : Int) != 0) = false := rfl
      have z00 : ((0 : Int) == 0) = true := rfl
      have z20 : ((2 : Int) == 0) = false := rfl
      have z8 : ((8 : Int) != 0) = true := rfl
      have z80 : ((8 : Int) == 0) = false := rfl
      have z88 : ((8 : Int) != 8) = false := rfl
      have hrl4 := w4.rl
      simp only [wpA_skip, wpA_region, wpA_seq, wpA_cond, wpA_block, condI_true, seqQ_normal, goI_out, goI_ops, opsA_nil, opsA_cons, opsA_guardS, gvI_same, slotAt_zero, slotAt_succ, stepA_move, stepA_pick, stepA_load, stepA_binOp, stepA_indexAddr, stepA_len, stepA_call, thenV_some, pickV_true, eval_tmp, eval_const, put_some, aBin_lss, absV_int, absV_bool, aLoad_eq, loadGo_one, aPlace_at, aLen_imm, Nat.reduceEqDiff, List.map_cons, List.map_nil, if_true, if_false, kt_54, lt_30, f1, f2, f9, f15, d1, d2, x1]
      refine callI_of cal25 (logAppend w4 hN10 b hbb reach (RVal.imm _ _ _) hr) fun x h5 ⟨ex, rs5, pv5, ow5, w5, fr5⟩ => ?_
      subst ex
      have kV5 := kV4.fr fr5
      rcases gd with ⟨he3, op, ep1, gd⟩ | ⟨he3, op⟩
      · have hq : N / 2 + 1 ≤ cntN (rch reach) N := by
          rcases post with ⟨hq, _⟩ | ⟨_, e, _⟩
          · exact hq
          · omega
        subst he3
        by_cases hz : b.length = 0
        · have b1 : decide ((0 : Int) < ((b.length : Nat) : Int)) = false := decide_eq_false (by omega)
          have hA := app_range (room := 1048576) (n := N) (rc := rch reach) (b := b) op (.inl hz)
          rw [hA] at w5 ⊢
          simp only at w5 ⊢
          simp only [wpA_skip, wpA_region, wpA_seq, wpA_cond, condI_false, seqQ_normal, blkQ_normal, endI_mk, andThen_normal, goI_out, goI_ops, opsA_nil, opsA_cons, opsA_guardS, gvI_same, gvI_ft, slotAt_zero, slotAt_succ, stepA_move, stepA_assign, stepA_pick, stepA_load, stepA_binOp, stepA_indexAddr, stepA_extract, stepA_len, thenV_some, pickV_true, pickV_false, extV_zero, extV_succ, eval_tmp, eval_const, put_some, aBin_add, aBin_eql, aBin_neq, aBin_gtr, aBin_bool_neq, absV_int, absV_bool, aLoad_eq, loadGo_one, aPlace_at, bne_self_eq_false, beq_self_eq_true, Nat.reduceEqDiff, if_true, if_false, bt_4, lt_30, f1, f13, f15, x1, lenb, b1, z20, hw]
          exact hid_mk ⟨(j + 1, rs5, pv5, ow5, s, kv), ⟨f1, f2, f7, f9, f13, f14, rfl, by simp only; omega, w5, kV5, hkv, by simp only; omega, .inl ⟨rfl, op, ep1, gd.rise (Int.le_refl _) (by simp only; omega)⟩⟩, by simp only; omega⟩
        have b1 : decide ((0 : Int) < ((b.length : Nat) : Int)) = true := decide_eq_true (by omega)
        by_cases hg : 2048 < b.length
        · have b2 : decide (((b.length : Nat) : Int) ≤ 2048) = false := decide_eq_false (by omega)
          have hA := app_range (room := 1048576) (n := N) (rc := rch reach) (b := b) op (.inr hg)
          rw [hA] at w5 ⊢
          simp only at w5 ⊢
          simp only [wpA_skip, wpA_region, wpA_seq, wpA_cond, condI_false, seqQ_normal, blkQ_normal, endI_mk, andThen_normal, goI_out, goI_ops, opsA_nil, opsA_cons, opsA_guardS, gvI_same, gvI_ft, slotAt_zero, slotAt_succ, stepA_move, stepA_assign, stepA_pick, stepA_load, stepA_binOp, stepA_indexAddr, stepA_extract, stepA_len, thenV_some, pickV_true, pickV_false, extV_zero, extV_succ, eval_tmp, eval_const, put_some, aBin_add, aBin_eql, aBin_neq, aBin_leq, aBin_gtr, aBin_bool_neq, absV_int, absV_bool, aLoad_eq, loadGo_one, aPlace_at, bne_self_eq_false, beq_self_eq_true, Nat.reduceEqDiff, if_true, if_false, bt_4, lt_30, f1, f13, f15, x1, lenb, b1, b2, z20, hw]
          exact hid_mk ⟨(j + 1, rs5, pv5, ow5, s, kv), ⟨f1, f2, f7, f9, f13, f14, rfl, by simp only; omega, w5, kV5, hkv, by simp only; omega, .inl ⟨rfl, op, ep1, gd.rise (Int.le_refl _) (by simp only; omega)⟩⟩, by simp only; omega⟩
        · have b2 : decide (((b.length : Nat) : Int) ≤ 2048) = true := decide_eq_true (by omega)
          obtain ⟨gd5, _, ep5, A5⟩ := gd.app (room := 1048576) (rc := rch reach) (b := b) (M := 2048) op (by decide) (by omega) hz (by omega) (by omega) (by omega)
          rw [if_pos hq] at A5
          obtain ⟨a5, row5, op5⟩ := A5
          rw [a5]
          generalize (appL 1048576 N (rch reach) b s).1 = s5 at w5 gd5 ep5 row5 op5
          obtain ⟨v6, h6, ea, kV6, k6, hkv6, w6⟩ := KV.append w5 kV5 (by omega) hkv b
          rw [← row5] at kV6
          have lit := litRow h5 (.imm b.length (bytesV b)) rfl rfl
          have len5 := row_len kV5.own
          have zz : (((s.row.length : Nat) : Int) != ((s.row.length : Nat) : Int)) = false := by simp
          simp only [wpA_skip, wpA_region, wpA_seq, wpA_cond, condI_true, condI_false, seqQ_normal, blkQ_normal, endI_mk, andThen_normal, goI_out, goI_ops, opsA_nil, opsA_cons, opsA_guardS, gvI_same, gvI_ft, slotAt_zero, slotAt_succ, stepA_move, stepA_assign, stepA_pick, stepA_buildSlice, stepA_load, stepA_binOp, stepA_indexAddr, stepA_extract, stepA_len, stepA_append, thenV_some, thenH_some, pickV_true, pickV_false, extV_zero, extV_succ, eval_tmp, eval_const, put_some, aBin_add, aBin_eql, aBin_neq, aBin_leq, aBin_gtr, aBin_bool_neq, absV_int, absV_bool, aLoad_eq, loadGo_one, aPlace_at, bne_self_eq_false, beq_self_eq_true, Nat.reduceEqDiff, List.map_cons, List.map_nil, if_true, if_false, bt_4, lt_30, f1, f13, f14, f15, x1, lenb, b1, b2, len5, lit, ea, hw]
          exact hid_mk ⟨(j + 1, rs5, pv5, ow5, s5, v6), ⟨f1, f2, f7, f9, f13, rfl, rfl, by simp only; omega, w6, kV6, hkv6, by simp only; rw [row5, List.length_append]; simp; omega, .inl ⟨rfl, op5, by simp only; omega, by rw [row5, ep5]; exact gd5.rise (Int.le_refl _) (by simp only; omega)⟩⟩, by simp only; omega⟩
      · subst he3
        by_cases hz : b.length = 0
        · have b1 : decide ((0 : Int) < ((b.length : Nat) : Int)) = false := decide_eq_false (by omega)
          have hA := app_shut (room := 1048576) (n := N) (rc := rch reach) (b := b) op
          rw [hA] at w5 ⊢
          simp only at w5 ⊢
          simp only [wpA_skip, wpA_region, wpA_seq, wpA_cond, condI_false, seqQ_normal, blkQ_normal, endI_mk, andThen_normal, goI_out, goI_ops, opsA_nil, opsA_cons, opsA_guardS, gvI_same, gvI_ft, slotAt_zero, slotAt_succ, stepA_move, stepA_assign, stepA_pick, stepA_load, stepA_binOp, stepA_indexAddr, stepA_extract, stepA_len, thenV_some, pickV_true, pickV_false, extV_zero, extV_succ, eval_tmp, eval_const, put_some, aBin_add, aBin_eql, aBin_neq, aBin_gtr, absV_int, absV_bool, aLoad_eq, loadGo_one, aPlace_at, bne_self_eq_false, Nat.reduceEqDiff, if_true, if_false, lt_30, f1, f13, f15, x1, lenb, z8, b1, z80, hw]
          exact hid_mk ⟨(j + 1, rs5, pv5, ow5, s, kv), ⟨f1, f2, f7, f9, f13, f14, rfl, by simp only; omega, w5, kV5, hkv, by simp only; omega, .inr ⟨rfl, op⟩⟩, by simp only; omega⟩
        have b1 : decide ((0 : Int) < ((b.length : Nat) : Int)) = true := decide_eq_true (by omega)
        by_cases hg : 2048 < b.length
        · have b2 : decide (((b.length : Nat) : Int) ≤ 2048) = false := decide_eq_false (by omega)
          have hA := app_shut (room := 1048576) (n := N) (rc := rch reach) (b := b) op
          rw [hA] at w5 ⊢
          simp only at w5 ⊢
          simp only [wpA_skip, wpA_region, wpA_seq, wpA_cond, condI_false, seqQ_normal, blkQ_normal, endI_mk, andThen_normal, goI_out, goI_ops, opsA_nil, opsA_cons, opsA_guardS, gvI_same, gvI_ft, slotAt_zero, slotAt_succ, stepA_move, stepA_assign, stepA_pick, stepA_load, stepA_binOp, stepA_indexAddr, stepA_extract, stepA_len, thenV_some, pickV_true, pickV_false, extV_zero, extV_succ, eval_tmp, eval_const, put_some, aBin_add, aBin_eql, aBin_neq, aBin_leq, aBin_gtr, absV_int, absV_bool, aLoad_eq, loadGo_one, aPlace_at, bne_self_eq_false, Nat.reduceEqDiff, if_true, if_false, lt_30, f1, f13, f15, x1, lenb, z8, b1, b2, z80, hw]
          exact hid_mk ⟨(j + 1, rs5, pv5, ow5, s, kv), ⟨f1, f2, f7, f9, f13, f14, rfl, by simp only; omega, w5, kV5, hkv, by simp only; omega, .inr ⟨rfl, op⟩⟩, by simp only; omega⟩
        · have b2 : decide (((b.length : Nat) : Int) ≤ 2048) = true := decide_eq_true (by omega)
          have hA := app_shut (room := 1048576) (n := N) (rc := rch reach) (b := b) op
          rw [hA] at w5 ⊢
          simp only at w5 ⊢
          simp only [wpA_skip, wpA_region, wpA_seq, wpA_cond, condI_false, seqQ_normal, blkQ_normal, endI_mk, andThen_normal, goI_out, goI_ops, opsA_nil, opsA_cons, opsA_guardS, gvI_same, gvI_ft, slotAt_zero, slotAt_succ, stepA_move, stepA_assign, stepA_pick, stepA_load, stepA_binOp, stepA_indexAddr, stepA_extract, stepA_len, thenV_some, pickV_true, pickV_false, extV_zero, extV_succ, eval_tmp, eval_const, put_some, aBin_add, aBin_eql, aBin_neq, aBin_leq, aBin_gtr, absV_int, absV_bool, aLoad_eq, loadGo_one, aPlace_at, bne_self_eq_false, Nat.reduceEqDiff, if_true, if_false, lt_30, f1, f13, f15, x1, lenb, z8, b1, b2, z80, hw]
          exact hid_mk ⟨(j + 1, rs5, pv5, ow5, s, kv), ⟨f1, f2, f7, f9, f13, f14, rfl, by simp only; omega, w5, kV5, hkv, by simp only; omega, .inr ⟨rfl, op⟩⟩, by simp only; omega⟩
    · have hend2 : decide ((j : Int) < ((l.length : Nat) : Int)) = false ∨ (decide ((j : Int) < ((l.length : Nat) : Int)) = true ∧ decide ((j : Int) < 40) = false) := by
        simp only [decide_eq_false_iff_not, decide_eq_true_eq]
        omega
      rcases hend2 with d1 | ⟨d1, d2⟩
      all_goals first | simp only [wpA_region, wpA_seq, wpA_cond, wpA_exit, condI_false, seqQ_normal, seqQ_exit, blkQ_exit, endI_mk, goE, andThen_exit, goI_out, goI_ops, opsA_nil, opsA_cons, opsA_guardS, gvI_same, slotAt_zero, slotAt_succ, stepA_move, stepA_pick, stepA_binOp, stepA_len, stepA_call, thenV_some, pickV_true, eval_tmp, eval_const, put_some, aBin_lss, absV_int, absV_bool, aLen_imm, Nat.reduceEqDiff, List.map_cons, List.map_nil, if_true, if_false, kt_54, f1, f7, f9, f15, d1, d2] | simp only [wpA_region, wpA_seq, wpA_cond, wpA_exit, condI_false, seqQ_normal, seqQ_exit, blkQ_exit, endI_mk, goE, andThen_exit, goI_out, goI_ops, opsA_nil, opsA_cons, opsA_guardS, gvI_same, gvI_ft, slotAt_zero, slotAt_succ, stepA_move, stepA_pick, stepA_binOp, stepA_len, stepA_call, thenV_some, pickV_false, eval_tmp, eval_const, put_some, aBin_lss, absV_bool, aLen_imm, Nat.reduceEqDiff, List.map_cons, List.map_nil, if_true, if_false, kt_54, f1, f7, f9, f15, d1]
      all_goals
        refine callI_of cal27 (pRow10 w4) fun rv hA accA => ?_
        have KA := kV4.fr (LFr.none ow4 accA.keep)
        have hlA := pLists accA.own KA.own (by omega) (by omega) (fun x hx => (w4.rok x hx).2) (fun x hx => (w4.rok x hx).2)
        rw [decide_eq_true rfl] at hlA
        simp only [goI_ops, opsA_guardS, gvI_same, slotAt_zero, slotAt_succ, stepA_move, stepA_call, eval_tmp, put_some, Nat.reduceEqDiff, List.map_cons, List.map_nil, if_true, if_false, f14]
        refine callI_pure cal30 hlA ?_
        simp only [wpA_ret, seqQ_normal, endI_mk, goI_out, goI_ops, opsA_nil, opsA_cons, stepA_assign, stepA_pick, thenV_some, pickV_true, eval_tmp, eval_const, put_some, absV_bool, Nat.reduceEqDiff, if_true, if_false, retA_ret, Try.results9, resultsA_1]
        exact hid_mk rfl
end Go.Proofs.Ytlbekgogjlchjaa.Pk
