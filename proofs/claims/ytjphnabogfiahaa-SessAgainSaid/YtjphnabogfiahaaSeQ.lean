/-
  What functions of the program do, told of abstract states. Conditions: as each theorem says.
-/
import Derived.Test.YtjphnabogfiahaaSeP
namespace Go.Proofs.Ytjphnabogfiahaa.Pk
open Go Go.Proofs Go.Proofs.Ytjphnabogfiahaa.Ab
set_option linter.unusedVariables false
set_option linter.unusedSimpArgs false
theorem sub_has {l E : List Chg} (hs : SS l) (hE : E.Sublist l) {j : Nat} {p : Chg} (hp : E[j]? = some p) : p ∈ rmAll l (E.take j) := by
  have hs' : SS E := List.Pairwise.sublist hE hs
  refine mem_rmAll hs (hE.subset (List.mem_of_getElem? hp)) (fun hin => ?_) fun y hy => hE.subset (List.mem_of_mem_take hy)
  have hj := (List.getElem?_eq_some_iff.1 hp).1
  have e : E = E.take j ++ p :: E.drop (j + 1) := by
    have := List.take_append_drop j E
    rw [List.drop_eq_getElem_cons hj, (List.getElem?_eq_some_iff.1 hp).2] at this
    exact this.symm
  rw [e] at hs'
  exact absurd ((List.pairwise_append.1 hs').2.2 p hin p (by simp)) (lt3_irr (same3_iff.2 ⟨rfl, rfl, rfl⟩))
/-- What changes make of a store. -/
def Script (l cs l2 : List Chg) (E : List Chg) (o : Option Chg) : Prop :=
  cs = E.map goneS ++ o.toList ∧ (∀ k p, E[k]? = some p → p ∈ rmAll l (E.take k)) ∧ (∀ c, o = some c → okS c) ∧ l2 = (match o with | none => rmAll l E | some c => ins3 (rm3 (rmAll l E) c) c)
theorem script_end {g : Int} {l : List Chg} (hs : SS l) (t : Int) : Script l ((l.filter (ended g t)).map goneS) (l.filter fun x => !ended g t x) (l.filter (ended g t)) none :=
  ⟨by simp, fun k p hp => sub_has hs List.filter_sublist hp, fun c hc => (by cases hc), by simp only; rw [rmAll_filter hs]⟩
theorem script_put {g : Int} (hg : 0 ≤ g) {l : List Chg} (hs : SS l) (hok : ∀ x ∈ l, okS x) (k t v : Int) : ∃ E o, Script l (putN g l k t v) (putL g l k t v) E o ∧ E.length ≤ l.length := by
  cases hm : mayT t
  · refine ⟨[], none, ⟨by unfold putN; rw [hm]; rfl, by simp, fun c hc => (by cases hc), ?_⟩, Nat.zero_le _⟩
    unfold putL; rw [hm]; simp only; rw [rmAll_nil]; rfl
  · have ht := mayT_iff.1 hm
    refine ⟨(found g l k t).filter (otherS (mkS g l k t v)), some (mkS g l k t v), ⟨?_, fun j p hp => sub_has hs (List.filter_sublist.trans List.filter_sublist) hp, fun c hc => ?_, ?_⟩, ?_⟩
    · unfold putN; rw [if_pos hm]; rfl
    · cases hc; exact mkS_ok hok v ht.1 ht.2
    · unfold putL; rw [if_pos hm]; simp only; rw [put_again hg hs]; rfl
    · exact (List.filter_sublist.trans List.filter_sublist).length_le
set_option maxHeartbeats 8000000 in
set_option maxRecDepth 20000 in
theorem sessAgain (gap : Int) (ds : List Deed) (hd : ds.length < 2 ^ 47) (s0 : 0 ≤ gap) (s1 : gap < 256) (h : AHeap) : SCalls Try.prog 3 [.int .u8 gap, .imm ds.length (ds.flatMap dE)] h (fun r h' => r = .bool true) := by
  refine SCalls.enterI (c := _) Try.func3 rfl (by kernel_rfl) (by simp) ?_
  simp only [wpA_region, wpA_seq, seqQ_normal, goI_out, goI_ops, opsA_nil, opsA_cons, stepA_assign, stepA_call, eval_const, absV_bool, List.map_nil]
  refine callI_pure cal8 (pShown14 h) ?_
  have w1 : IntKind.i64.wrap gap = gap := Go.IntWalk.i64_in _ (by omega)
  have w2 : IntKind.i64.wrap (1 + gap) = 1 + gap := Go.IntWalk.i64_in _ (by omega)
  simp only [wpA_region, wpA_seq, seqQ_normal, goI_out, goI_ops, opsA_nil, opsA_cons, stepA_move, stepA_assign, stepA_binOp, stepA_convert, stepA_call, thenV_some, thenC_some, eval_tmp, eval_const, put_some, enterF_zero, enterF_succ, aBin_add, aConv_int, absV_int, Option.some.injEq, Nat.reduceEqDiff, reduceCtorEq, List.map_cons, List.map_nil, if_true, if_false, it_2, it_5, w1, w2]
  refine callI_of cal9 (sesNew 500 (1 + gap) (by decide) (by decide) (by omega) (by omega) h) fun r h1 ⟨e1, e2⟩ => ?_
  subst e1
  have k1 : IsSes h1 h.n .snil 500 (1 + gap) [] := by rw [e2]; exact IsSes.new (by omega) (by omega)
  clear e2
  simp only [wpA_region, wpA_seq, seqQ_normal, goI_out, goI_ops, opsA_nil, opsA_cons, stepA_move, stepA_assign, stepA_binOp, stepA_convert, stepA_extract, stepA_call, thenV_some, thenC_some, extV_zero, extV_succ, eval_tmp, eval_const, put_some, enterF_zero, enterF_succ, aBin_add, aConv_int, absV_int, Option.some.injEq, Nat.reduceEqDiff, reduceCtorEq, List.map_cons, List.map_nil, if_true, if_false, it_2, it_5, w1, w2]
  refine callI_of cal9 (sesNew 1024 (1 + gap) (by decide) (by decide) (by omega) (by omega) h1) fun r h2 ⟨e1, e2⟩ => ?_
  subst e1
  have k2 : IsSes h2 h1.n .snil 1024 (1 + gap) [] := by rw [e2]; exact IsSes.new (by omega) (by omega)
  have kp : Keep h1 h2 none_ := by rw [e2]; exact Keep.push _ _ _
  have k1' := k1.keepN kp
  have ap : Apart h.n .snil h1.n .snil := ⟨by have := k1.lt; omega, by simp [idOf], by simp [idOf], by simp [idOf]⟩
  clear e2
  simp only [wpA_skip, wpA_region, wpA_seq, wpA_cond, wpA_block, wpA_loop, condI_false, seqQ_normal, goI_out, goI_ops, opsA_nil, opsA_cons, opsA_guardS, gvI_same, slotAt_zero, slotAt_succ, stepA_move, stepA_assign, stepA_pick, stepA_binOp, stepA_extract, thenV_some, pickV_false, extV_zero, extV_succ, eval_tmp, eval_const, put_some, enterF_succ, aBin_neq, ptr_nil_eql, absV_int, absV_bool, absV_pnil, bne_self_eq_false, Nat.reduceEqDiff, if_true, if_false, kt_24]
  generalize h.n = i at k1' ap
  generalize h1.n = j at k2 ap
  clear k1 kp
  have hg0 : 1 ≤ 1 + gap := by omega
  generalize 1 + gap = g at k1' k2 hg0
  refine SWp.loopG (α := Nat × List Chg × V × V) (fun x f h' => f 1 = .imm ds.length (ds.flatMap dE) ∧ f 5 = .bool true ∧ f 6 = .ptr i 0 ∧ f 8 = .ptr j 0 ∧ f 10 = .int .i64 (x.1 : Nat) ∧ x.1 ≤ 200 ∧ IsSes h' i x.2.2.1 500 g x.2.1 ∧ IsSes h' j x.2.2.2 1024 g x.2.1 ∧ Apart i x.2.2.1 j x.2.2.2 ∧ x.2.1.length ≤ x.1) (fun x => 200 - x.1) (0, [], .snil, .snil)
    ⟨rfl, rfl, rfl, rfl, rfl, Nat.zero_le _, k1', k2, ap, Nat.zero_le _⟩ ?_
  clear k1' k2 ap
  rintro ⟨t, l, v, u⟩ f h' ⟨f1, f5, f6, f8, f10, ht, ka, kb, apt, hl⟩
  simp only at f10 ht ka kb apt hl
  refine wpI_sound (by kernel_rfl) ?_
  by_cases hlt : t < ds.length ∧ t < 200
  · have d1 : decide ((t : Int) < ((ds.length : Nat) : Int)) = true := decide_eq_true (by omega)
    have d2 : decide ((t : Int) < 200) = true := decide_eq_true (by omega)
    have hw := inc64w hlt.2 (by omega)
    obtain ⟨rr, x1⟩ := deed_ix hlt.1
    generalize ds[t] = d at x1
    simp only [wpA_skip, wpA_region, wpA_seq, wpA_cond, wpA_block, condI_true, seqQ_normal, goI_out, goI_ops, opsA_nil, opsA_cons, opsA_guardS, gvI_same, slotAt_zero, slotAt_succ, stepA_move, stepA_assign, stepA_pick, stepA_load, stepA_binOp, stepA_fieldAddr, stepA_indexAddr, stepA_len, thenV_some, pickV_true, eval_tmp, eval_const, put_some, aBin_eql, aBin_lss, absV_int, absV_bool, absV_snil, aField_eq, fieldGo_at, aLoad_eq, aPlace_at, aLen_imm, Nat.reduceEqDiff, Nat.zero_le, List.drop_zero, if_true, if_false, ft_32_0, kt_22, lt_3, f1, f10, d1, d2, x1, ldE0]
    cases hk : (d.kind == 1)
    · simp only [wpA_seq, wpA_draw, condI_false]
      refine SWp.drawnS none_ [16] (.q 0 (.q 1 (.q 2 (.q 3 (.q 4 (.q 5 (.q 6 (.q 7 (.q 8 (.q 9 (.q 10 (.q 11 (.q 12 (.q 13 (.q 14 (.q 15 (.a 16 (.q 17 (.q 18 (.q 19 (.q 20 (.q 21 .done)))))))))))))))))))))) (by kernel_rfl) (by kernel_rfl) (by kernel_rfl) ?_
      simp only [siI_q, siI_a, sqI_some, saI_some, mOk_none', implies_true, qI_nil, qI_cons, thenQ_some, q_move, q_load, q_fieldAddr, q_indexAddr, goI_mk, opsA_cons, stepA_call, eval_tmp, put_some, aField_eq, fieldGo_at, aLoad_eq, loadGo_one, aPlace_at, List.getElem?_cons_zero, List.getElem?_cons_succ, Nat.reduceEqDiff, List.map_cons, List.map_nil, true_and, if_true, if_false, ft_32_1, ft_32_2, ft_32_3, lt_2, f1, f6, f10, x1, fdE1, fdE2, fdE3]
      refine callI_of cal11 (sesPutAny h' i v 500 g d.key d.time d.val l (by omega) (by omega) ka) fun r h3 ⟨v2, er, kS, kp3, n3⟩ => ?_
      subst er
      have kT := apt.keep kb kp3
      have apt2 := apt.step kb n3
      obtain ⟨E, o, sc, hEl0⟩ := script_put (g := g) (by omega) ka.ss ka.ok d.key d.time d.val
      have hl3 := putL_len (g := g) ka.ss d.key d.time d.val
      generalize putN g l d.key d.time d.val = cs at sc
      generalize putL g l d.key d.time d.val = l2 at sc kS hl3
      have hEl : E.length ≤ 1024 := by omega
      have sc : ∃ E o, cs = E.map goneS ++ o.toList ∧ (∀ k p, E[k]? = some p → p ∈ rmAll l (E.take k)) ∧ (∀ c, o = some c → okS c) ∧ l2 = (match o with | none => rmAll l E | some c => ins3 (rm3 (rmAll l E) c) c) ∧ E.length ≤ 1024 := ⟨E, o, sc.1, sc.2.1, sc.2.2.1, sc.2.2.2, hEl⟩
      clear hEl hEl0
      obtain ⟨E, o, hce, hE, ho, hl2, hEl⟩ := sc
      have hcl : cs.length ≤ E.length + 1 := by rw [hce]; cases o <;> simp
      have hE2 : E.length ≤ 1024 := hEl
      simp only [siI_done, siI_q, sqI_some, mOk_none', implies_true, qI_nil, qI_cons, thenQ_some, q_move, q_assign, q_extract, wpA_region, wpA_seq, wpA_block, wpA_loop, seqQ_normal, goI_out, goI_ops, goI_mk, opsA_nil, opsA_cons, stepA_move, stepA_assign, extV_zero, extV_succ, eval_tmp, eval_const, put_some, absV_int, List.getElem?_cons_zero, List.getElem?_cons_succ, Bool.false_eq_true, Nat.reduceEqDiff, true_and, if_true, if_false]
      refine SWp.loopG (α := Nat × V) (fun x f h' => f 1 = .imm ds.length (ds.flatMap dE) ∧ f 5 = .bool true ∧ f 6 = .ptr i 0 ∧ f 8 = .ptr j 0 ∧ f 10 = .int .i64 (t : Nat) ∧ f 11 = .imm cs.length (cs.flatMap chgE) ∧ f 14 = .int .i64 (x.1 : Nat) ∧ x.1 ≤ cs.length ∧
          IsSes h' i v2 500 g l2 ∧ IsSes h' j x.2 1024 g (if x.1 ≤ E.length then rmAll l (E.take x.1) else l2) ∧ Apart i v2 j x.2) (fun x => cs.length - x.1) (0, u)
        ⟨f1, f5, f6, f8, f10, rfl, rfl, Nat.zero_le _, kS, by rw [if_pos (Nat.zero_le _), List.take_zero, rmAll_nil]; exact kT, apt2⟩ ?_
      clear f1 f5 f6 f8 f10 kS kT apt2
      rintro ⟨q, u1⟩ f h4 ⟨f1, f5, f6, f8, f10, f11, f14, hq, kS, kT, apt2⟩
      simp only at f14 hq kT apt2
      refine wpI_sound (by kernel_rfl) ?_
      by_cases hqt : q < cs.length
      · have e1 : decide ((q : Int) < ((cs.length : Nat) : Int)) = true := decide_eq_true (by omega)
        have hwq := inc64 hqt (by omega)
        have xq := chg_ix (kk := .i64) hqt
        by_cases hqE : q < E.length
        · have hpe : cs[q] = goneS E[q] := by
            have : cs[q]? = some (goneS E[q]) := by rw [hce, List.getElem?_append_left (by simpa using hqE), List.getElem?_map, List.getElem?_eq_getElem hqE]; rfl
            rw [List.getElem?_eq_getElem hqt] at this
            exact Option.some.inj this
          have hpm := hE q E[q] (List.getElem?_eq_getElem hqE)
          have hrm := rmAll_snoc l (E.take q) E[q]
          rw [← List.take_succ_eq_append_getElem hqE] at hrm
          rw [hpe] at xq
          generalize E[q] = p at xq hpm hrm
          rw [if_pos (by omega)] at kT
          have hpok := kT.ok p hpm
          have ld := chg_ld (goneS p)
          simp only [wpA_skip, wpA_region, wpA_seq, wpA_cond, wpA_block, condI_true, seqQ_normal, goI_out, goI_ops, opsA_nil, opsA_cons, stepA_move, stepA_load, stepA_binOp, stepA_indexAddr, stepA_len, stepA_call, thenV_some, eval_tmp, put_some, aBin_lss, aLoad_eq, aPlace_at, aLen_imm, Nat.reduceEqDiff, List.map_cons, List.map_nil, if_true, if_false, kt_28, lt_30, f8, f11, f14, e1, xq, ld]
          refine callI_of cal12 (sesDoGone h4 j u1 1024 g _ p hpok (has3_mem hpm) kT) fun r h5 ⟨u2, er, k5, kp5, n5⟩ => ?_
          subst er
          rw [← hrm] at k5
          simp only [wpA_skip, wpA_region, wpA_cond, condI_false, seqQ_normal, blkQ_normal, endI_mk, andThen_normal, goI_out, goI_ops, opsA_nil, opsA_cons, stepA_move, stepA_assign, stepA_binOp, thenV_some, eval_tmp, eval_const, put_some, aBin_add, aBin_neq, absV_int, bne_self_eq_false, Nat.reduceEqDiff, if_true, if_false, f14, hwq]
          exact hid_mk ⟨(q + 1, u2), ⟨f1, f5, f6, f8, f10, f11, rfl, hqt, apt2.symm.keep kS kp5, by simp only; rw [if_pos (by omega)]; exact k5, (apt2.symm.step kS n5).symm⟩, by simp only; omega⟩
        · have hqe : q = E.length := by omega
          cases o with
          | none => rw [hce] at hqt; simp at hqt; omega
          | some c =>
            have hpe : cs[q] = c := by
              have : cs[q]? = some c := by rw [hce, List.getElem?_append_right (by simp; omega)]; simp [hqe]
              rw [List.getElem?_eq_getElem hqt] at this
              exact Option.some.inj this
            have hcok := ho c rfl
            rw [hpe] at xq
            rw [if_pos (by omega), hqe, List.take_of_length_le (Nat.le_refl _)] at kT
            have ld := chg_ld c
            have hrl : (rmAll l E).length ≤ l.length := List.length_filter_le ..
            simp only [wpA_skip, wpA_region, wpA_seq, wpA_cond, wpA_block, condI_true, seqQ_normal, goI_out, goI_ops, opsA_nil, opsA_cons, stepA_move, stepA_load, stepA_binOp, stepA_indexAddr, stepA_len, stepA_call, thenV_some, eval_tmp, put_some, aBin_lss, aLoad_eq, aPlace_at, aLen_imm, Nat.reduceEqDiff, List.map_cons, List.map_nil, if_true, if_false, kt_28, lt_30, f8, f11, f14, e1, xq, ld]
            refine callI_of cal12 (sesDoSet h4 j u1 1024 g _ c hcok (.inl (by omega)) (.inl (by omega)) kT) fun r h5 ⟨u2, er, k5, kp5, n5⟩ => ?_
            subst er
            simp only at hl2
            rw [← hl2] at k5
            simp only [wpA_skip, wpA_region, wpA_cond, condI_false, seqQ_normal, blkQ_normal, endI_mk, andThen_normal, goI_out, goI_ops, opsA_nil, opsA_cons, stepA_move, stepA_assign, stepA_binOp, thenV_some, eval_tmp, eval_const, put_some, aBin_add, aBin_neq, absV_int, bne_self_eq_false, Nat.reduceEqDiff, if_true, if_false, f14, hwq]
            exact hid_mk ⟨(q + 1, u2), ⟨f1, f5, f6, f8, f10, f11, rfl, hqt, apt2.symm.keep kS kp5, by simp only; rw [if_neg (by omega)]; exact k5, (apt2.symm.step kS n5).symm⟩, by simp only; omega⟩
      · have e1 : decide ((q : Int) < ((cs.length : Nat) : Int)) = false := decide_eq_false (by omega)
        have hfin : (if q ≤ E.length then rmAll l (E.take q) else l2) = l2 := by
          cases o with
          | none =>
            have : cs.length = E.length := by rw [hce]; simp
            rw [if_pos (by omega), List.take_of_length_le (by omega), hl2]
          | some c =>
            have : cs.length = E.length + 1 := by rw [hce]; simp
            rw [if_neg (by omega)]
        rw [hfin] at kT
        simp only [wpA_region, wpA_seq, wpA_cond, wpA_exit, condI_false, seqQ_normal, seqQ_exit, blkQ_normal, blkQ_exit, endI_mk, goE, andThen_normal, andThen_exit, goI_out, goI_ops, opsA_nil, opsA_cons, opsA_guardS, gvI_same, slotAt_zero, slotAt_succ, stepA_move, stepA_assign, stepA_binOp, stepA_len, stepA_call, thenV_some, eval_tmp, eval_const, put_some, aBin_add, aBin_lss, absV_int, aLen_imm, Nat.reduceEqDiff, reduceCtorEq, List.map_cons, List.map_nil, if_true, if_false, kt_28, f5, f6, f10, f11, f14, e1, hw]
        exact hid_mk ⟨(t + 1, l2, v2, u1), ⟨f1, f5, f6, f8, rfl, by simp only; omega, kS, kT, apt2, by simp only; omega⟩, by simp only; omega⟩
    · simp only [wpA_region, condI_true, goI_ops, opsA_cons, stepA_move, stepA_load, stepA_fieldAddr, stepA_indexAddr, stepA_call, thenV_some, eval_tmp, put_some, aField_eq, fieldGo_at, aLoad_eq, loadGo_one, aPlace_at, Nat.reduceEqDiff, List.map_cons, List.map_nil, if_true, if_false, ft_32_2, lt_2, f1, f6, f10, x1, fdE2]
      refine callI_of cal10 (sesExpire h' i v 500 g d.time l ka) fun r h3 ⟨v2, er, kS, kp3, n3⟩ => ?_
      subst er
      have kT := apt.keep kb kp3
      have apt2 := apt.step kb n3
      have sc := script_end (g := g) ka.ss d.time
      have hEl0 : (l.filter (ended g d.time)).length ≤ l.length := List.length_filter_le ..
      have hl3 : (l.filter fun x => !ended g d.time x).length ≤ l.length + 1 := Nat.le_trans (List.length_filter_le ..) (Nat.le_succ _)
      have sc : ∃ E o, ((l.filter (ended g d.time)).map goneS) = E.map goneS ++ o.toList ∧ (∀ k p, E[k]? = some p → p ∈ rmAll l (E.take k)) ∧ (∀ c, o = some c → okS c) ∧ (l.filter fun x => !ended g d.time x) = (match o with | none => rmAll l E | some c => ins3 (rm3 (rmAll l E) c) c) ∧ E.length ≤ 1024 := ⟨_, _, sc.1, sc.2.1, sc.2.2.1, sc.2.2.2, by omega⟩
      generalize ((l.filter (ended g d.time)).map goneS) = cs at sc
      generalize (l.filter fun x => !ended g d.time x) = l2 at sc kS hl3
      obtain ⟨E, o, hce, hE, ho, hl2, hEl⟩ := sc
      have hcl : cs.length ≤ E.length + 1 := by rw [hce]; cases o <;> simp
      have hE2 : E.length ≤ 1024 := hEl
      simp only [wpA_region, wpA_seq, wpA_block, wpA_loop, seqQ_normal, goI_out, goI_ops, opsA_nil, opsA_cons, stepA_assign, eval_tmp, eval_const, put_some, absV_int, Nat.reduceEqDiff, if_true, if_false]
      refine SWp.loopG (α := Nat × V) (fun x f h' => f 1 = .imm ds.length (ds.flatMap dE) ∧ f 5 = .bool true ∧ f 6 = .ptr i 0 ∧ f 8 = .ptr j 0 ∧ f 10 = .int .i64 (t : Nat) ∧ f 11 = .imm cs.length (cs.flatMap chgE) ∧ f 14 = .int .i64 (x.1 : Nat) ∧ x.1 ≤ cs.length ∧
          IsSes h' i v2 500 g l2 ∧ IsSes h' j x.2 1024 g (if x.1 ≤ E.length then rmAll l (E.take x.1) else l2) ∧ Apart i v2 j x.2) (fun x => cs.length - x.1) (0, u)
        ⟨f1, f5, f6, f8, f10, rfl, rfl, Nat.zero_le _, kS, by rw [if_pos (Nat.zero_le _), List.take_zero, rmAll_nil]; exact kT, apt2⟩ ?_
      clear f1 f5 f6 f8 f10 kS kT apt2
      rintro ⟨q, u1⟩ f h4 ⟨f1, f5, f6, f8, f10, f11, f14, hq, kS, kT, apt2⟩
      simp only at f14 hq kT apt2
      refine wpI_sound (by kernel_rfl) ?_
      by_cases hqt : q < cs.length
      · have e1 : decide ((q : Int) < ((cs.length : Nat) : Int)) = true := decide_eq_true (by omega)
        have hwq := inc64 hqt (by omega)
        have xq := chg_ix (kk := .i64) hqt
        by_cases hqE : q < E.length
        · have hpe : cs[q] = goneS E[q] := by
            have : cs[q]? = some (goneS E[q]) := by rw [hce, List.getElem?_append_left (by simpa using hqE), List.getElem?_map, List.getElem?_eq_getElem hqE]; rfl
            rw [List.getElem?_eq_getElem hqt] at this
            exact Option.some.inj this
          have hpm := hE q E[q] (List.getElem?_eq_getElem hqE)
          have hrm := rmAll_snoc l (E.take q) E[q]
          rw [← List.take_succ_eq_append_getElem hqE] at hrm
          rw [hpe] at xq
          generalize E[q] = p at xq hpm hrm
          rw [if_pos (by omega)] at kT
          have hpok := kT.ok p hpm
          have ld := chg_ld (goneS p)
          simp only [wpA_skip, wpA_region, wpA_seq, wpA_cond, wpA_block, condI_true, seqQ_normal, goI_out, goI_ops, opsA_nil, opsA_cons, stepA_move, stepA_load, stepA_binOp, stepA_indexAddr, stepA_len, stepA_call, thenV_some, eval_tmp, put_some, aBin_lss, aLoad_eq, aPlace_at, aLen_imm, Nat.reduceEqDiff, List.map_cons, List.map_nil, if_true, if_false, kt_28, lt_30, f8, f11, f14, e1, xq, ld]
          refine callI_of cal12 (sesDoGone h4 j u1 1024 g _ p hpok (has3_mem hpm) kT) fun r h5 ⟨u2, er, k5, kp5, n5⟩ => ?_
          subst er
          rw [← hrm] at k5
          simp only [wpA_skip, wpA_region, wpA_cond, condI_false, seqQ_normal, blkQ_normal, endI_mk, andThen_normal, goI_out, goI_ops, opsA_nil, opsA_cons, stepA_move, stepA_assign, stepA_binOp, thenV_some, eval_tmp, eval_const, put_some, aBin_add, aBin_neq, absV_int, bne_self_eq_false, Nat.reduceEqDiff, if_true, if_false, f14, hwq]
          exact hid_mk ⟨(q + 1, u2), ⟨f1, f5, f6, f8, f10, f11, rfl, hqt, apt2.symm.keep kS kp5, by simp only; rw [if_pos (by omega)]; exact k5, (apt2.symm.step kS n5).symm⟩, by simp only; omega⟩
        · have hqe : q = E.length := by omega
          cases o with
          | none => rw [hce] at hqt; simp at hqt; omega
          | some c =>
            have hpe : cs[q] = c := by
              have : cs[q]? = some c := by rw [hce, List.getElem?_append_right (by simp; omega)]; simp [hqe]
              rw [List.getElem?_eq_getElem hqt] at this
              exact Option.some.inj this
            have hcok := ho c rfl
            rw [hpe] at xq
            rw [if_pos (by omega), hqe, List.take_of_length_le (Nat.le_refl _)] at kT
            have ld := chg_ld c
            have hrl : (rmAll l E).length ≤ l.length := List.length_filter_le ..
            simp only [wpA_skip, wpA_region, wpA_seq, wpA_cond, wpA_block, condI_true, seqQ_normal, goI_out, goI_ops, opsA_nil, opsA_cons, stepA_move, stepA_load, stepA_binOp, stepA_indexAddr, stepA_len, stepA_call, thenV_some, eval_tmp, put_some, aBin_lss, aLoad_eq, aPlace_at, aLen_imm, Nat.reduceEqDiff, List.map_cons, List.map_nil, if_true, if_false, kt_28, lt_30, f8, f11, f14, e1, xq, ld]
            refine callI_of cal12 (sesDoSet h4 j u1 1024 g _ c hcok (.inl (by omega)) (.inl (by omega)) kT) fun r h5 ⟨u2, er, k5, kp5, n5⟩ => ?_
            subst er
            simp only at hl2
            rw [← hl2] at k5
            simp only [wpA_skip, wpA_region, wpA_cond, condI_false, seqQ_normal, blkQ_normal, endI_mk, andThen_normal, goI_out, goI_ops, opsA_nil, opsA_cons, stepA_move, stepA_assign, stepA_binOp, thenV_some, eval_tmp, eval_const, put_some, aBin_add, aBin_neq, absV_int, bne_self_eq_false, Nat.reduceEqDiff, if_true, if_false, f14, hwq]
            exact hid_mk ⟨(q + 1, u2), ⟨f1, f5, f6, f8, f10, f11, rfl, hqt, apt2.symm.keep kS kp5, by simp only; rw [if_neg (by omega)]; exact k5, (apt2.symm.step kS n5).symm⟩, by simp only; omega⟩
      · have e1 : decide ((q : Int) < ((cs.length : Nat) : Int)) = false := decide_eq_false (by omega)
        have hfin : (if q ≤ E.length then rmAll l (E.take q) else l2) = l2 := by
          cases o with
          | none =>
            have : cs.length = E.length := by rw [hce]; simp
            rw [if_pos (by omega), List.take_of_length_le (by omega), hl2]
          | some c =>
            have : cs.length = E.length + 1 := by rw [hce]; simp
            rw [if_neg (by omega)]
        rw [hfin] at kT
        simp only [wpA_region, wpA_seq, wpA_cond, wpA_exit, condI_false, seqQ_normal, seqQ_exit, blkQ_normal, blkQ_exit, endI_mk, goE, andThen_normal, andThen_exit, goI_out, goI_ops, opsA_nil, opsA_cons, opsA_guardS, gvI_same, slotAt_zero, slotAt_succ, stepA_move, stepA_assign, stepA_binOp, stepA_len, stepA_call, thenV_some, eval_tmp, eval_const, put_some, aBin_add, aBin_lss, absV_int, aLen_imm, Nat.reduceEqDiff, reduceCtorEq, List.map_cons, List.map_nil, if_true, if_false, kt_28, f5, f6, f10, f11, f14, e1, hw]
        exact hid_mk ⟨(t + 1, l2, v2, u1), ⟨f1, f5, f6, f8, rfl, by simp only; omega, kS, kT, apt2, by simp only; omega⟩, by simp only; omega⟩
  have hend : ∀ b1 b2 : Bool, decide ((t : Int) < ((ds.length : Nat) : Int)) = b1 → decide ((t : Int) < 200) = b2 → (b1 && b2) = false := fun b1 b2 h1 h2 => by
    rw [← h1, ← h2, Bool.and_eq_false_iff]
    simp only [decide_eq_false_iff_not]
    omega
  generalize hb1 : decide ((t : Int) < ((ds.length : Nat) : Int)) = b1 at hend
  generalize hb2 : decide ((t : Int) < 200) = b2 at hend
  have hbb := hend b1 b2 rfl rfl
  have hor : b1 = false ∨ (b1 = true ∧ b2 = false) := by
    cases b1
    · exact .inl rfl
    · exact .inr ⟨rfl, by simpa using hbb⟩
  clear hend hbb
  have de : decide (l = l) = true := decide_eq_true rfl
  rcases hor with rfl | ⟨rfl, rfl⟩
  all_goals
    simp only [wpA_region, wpA_seq, wpA_cond, wpA_exit, condI_false, seqQ_normal, seqQ_exit, blkQ_exit, endI_mk, goE, andThen_exit, goI_out, goI_ops, opsA_nil, opsA_cons, opsA_guardS, gvI_same, gvI_ft, slotAt_zero, slotAt_succ, stepA_move, stepA_pick, stepA_binOp, stepA_len, stepA_call, thenV_some, pickV_true, pickV_false, eval_tmp, eval_const, put_some, aBin_lss, absV_int, absV_bool, aLen_imm, Nat.reduceEqDiff, List.map_cons, List.map_nil, if_true, if_false, kt_22, f1, f5, f6, f10, hb1, hb2]
    refine callI_pure cal14 (sesList _ _ _ _ _ _ ka) ?_
    simp only [goI_ops, opsA_guardS, gvI_same, slotAt_zero, slotAt_succ, stepA_move, stepA_call, eval_tmp, put_some, Nat.reduceEqDiff, List.map_cons, List.map_nil, if_true, if_false, f8]
    refine callI_pure cal14 (sesList _ _ _ _ _ _ kb) ?_
    simp only [goI_ops, opsA_guardS, gvI_same, slotAt_zero, slotAt_succ, stepA_call, eval_tmp, put_some, Nat.reduceEqDiff, List.map_cons, List.map_nil, if_true, if_false]
    refine callI_pure cal13 (pChgsEq l l _ (by omega)) ?_
    simp only [wpA_ret, seqQ_normal, endI_mk, goI_out, goI_ops, opsA_nil, opsA_cons, stepA_assign, stepA_pick, thenV_some, pickV_true, eval_tmp, eval_const, put_some, absV_bool, decide_true, Nat.reduceEqDiff, if_true, if_false, retA_ret, Try.results3, resultsA_1]
    exact hid_mk rfl
end Go.Proofs.Ytjphnabogfiahaa.Pk
