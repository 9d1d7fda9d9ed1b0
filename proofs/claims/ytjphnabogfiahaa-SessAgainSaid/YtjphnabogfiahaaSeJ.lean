/-
  What functions of the program do, told of abstract states. Conditions: as each theorem says.
-/
import Derived.Test.YtjphnabogfiahaaSeI
namespace Go.Proofs.Ytjphnabogfiahaa.Pk
open Go Go.Proofs Go.Proofs.Ytjphnabogfiahaa.Ab
set_option linter.unusedVariables false
set_option linter.unusedSimpArgs false

set_option maxRecDepth 10000 in
theorem insertC (v : V) (k j : Nat) (cs xs : List V) (h : AHeap) (o : Own h 52 3 v cs) (hl : cs.length < 2 ^ 40) (hk : k * 3 ≤ cs.length) (hj : h.get j = .cells xs 52 none) (hjn : j < h.n) (hij : idOf v ≠ some j)
    (hx : xs.length = 3) (hone : xs.all (·.one) = true) (hcone : cs.all (·.one) = true) : SCalls Try.prog 27 [v, .int .i64 (k : Nat), .sl j 0 1 1] h
      (fun r h' => Own h' 52 3 r (cs.take (k * 3) ++ xs ++ cs.drop (k * 3)) ∧ Keep h h' (isId v) ∧ NewOr h v r) := by
  refine SCalls.ownK o (by decide) (fun hv hc => ?_) fun i len cap c ex h2 hv ok hcap kk hn => ?_
  · subst hc
    obtain rfl : k = 0 := by simp at hk; omega
    have hoj : Own h 52 3 (.sl j 0 1 1) xs := .inr ⟨j, 1, 1, xs, none, rfl, hjn, hj, by rw [hx], by rw [List.take_of_length_le (by omega)], .inl ⟨by unfold unk; omega, by omega, Nat.le_refl _⟩⟩
    have hsrc := own_src (P := Try.prog) (t := 47) kt_47 hoj (n := 1) (by rw [hx]) (by decide) hone
    obtain ⟨v', h', ea, oa, ka, na⟩ := append_ownM (P := Try.prog) (t := 47) (tx := 47) sl_47 (by decide) o hsrc (by rw [hx]; rfl) (fun m hm => by
      change m * 3 = _ at hm
      rw [hx] at hm
      simp only [List.length_nil] at hm
      exact ⟨by simp only [lim]; omega, by simp only [lim]; omega⟩)
    obtain ⟨e, hu1, hz⟩ := slSz_eq (P := Try.prog) ss_47
    have c1 : ((1 : Nat) : Int) = 1 := rfl
    have c0 : ((0 : Nat) : Int) = 0 := rfl
    have fin : Own h' 52 3 v' (([] : List V).take (0 * 3) ++ xs ++ ([] : List V).drop (0 * 3)) ∧ Keep h h' (isId v) ∧ NewOr h v v' := ⟨by simpa using oa, ka, na⟩
    rcases hv with rfl | rfl
    · have s1 : aSlice Try.prog 47 .snil (some (.int .i64 0)) none none = some .snil := by unfold aSlice; rw [hu1]; simp only [hz]; rfl
      refine SCalls.enterI (c := _) Try.func27 rfl (by kernel_rfl) (by simp) ?_
      simp only [wpA_skip, wpA_region, wpA_seq, wpA_cond, wpA_ret, condI_true, condI_false, seqQ_normal, seqQ_ret, endI_mk, goI_out, goI_ops, opsA_nil, opsA_cons, stepA_move, stepA_assign, stepA_binOp, stepA_slice, stepA_len, stepA_append, thenV_some, thenH_some, eval_tmp, eval_const, put_some, enterF_zero, enterF_succ, aBin_eql, absV_int, absV_snil, aLen_sl, aLen_snil, Int.reduceBEq, beq_self_eq_true, Nat.reduceEqDiff, reduceCtorEq, Option.map_some, Option.map_none, if_true, if_false, kt_47, c0, s1, c1, ea, retA_ret, Try.results27, resultsA_1]
      exact hid_mk fin
    · have s1 : aSlice Try.prog 47 .z0 (some (.int .i64 0)) none none = some .z0 := by unfold aSlice; rw [hu1]; simp only [hz]; rfl
      refine SCalls.enterI (c := _) Try.func27 rfl (by kernel_rfl) (by simp) ?_
      simp only [wpA_skip, wpA_region, wpA_seq, wpA_cond, wpA_ret, condI_true, condI_false, seqQ_normal, seqQ_ret, endI_mk, goI_out, goI_ops, opsA_nil, opsA_cons, stepA_move, stepA_assign, stepA_binOp, stepA_slice, stepA_len, stepA_append, thenV_some, thenH_some, eval_tmp, eval_const, put_some, enterF_zero, enterF_succ, aBin_eql, absV_int, absV_snil, aLen_sl, aLen_z0, Int.reduceBEq, beq_self_eq_true, Nat.reduceEqDiff, reduceCtorEq, Option.map_some, Option.map_none, if_true, if_false, kt_47, c0, s1, c1, ea, retA_ret, Try.results27, resultsA_1]
      exact hid_mk fin
  · have hvi : idOf v = some i := by rcases hv with rfl | rfl <;> rfl
    have hji : j ≠ i := fun hh => hij (by rw [hvi, hh])
    have hlen := ok.2.2.1
    refine (insertK i len cap k j c cs xs ex h2 ok (by omega) (by omega) ((kk.get j hjn hji).trans hj) (by omega) hji hx hone hcone).mono fun r h' ⟨o', k', n'⟩ => ⟨o', (kk.trans' k').mono fun q hq => by subst hq; exact hvi, ?_⟩
    rcases n' with n' | n'
    · exact .inl (by rw [n', hvi]; rfl)
    · exact .inr fun q hq => by have := n' q hq; omega
set_option maxHeartbeats 2000000 in
set_option maxRecDepth 10000 in
theorem deleteK (i len cap k : Nat) (c cs : List V) (ex : Option Nat) (h : AHeap) (o : OwnK h 52 3 i len cap c ex cs) (hl : len < 2 ^ 40) (hk : k < len) (hcone : cs.all (·.one) = true) :
    SCalls Try.prog 26 [.sl i 0 len cap, .int .i64 (k : Nat), .int .i64 ((k + 1 : Nat) : Int)] h
      (fun r h' => Own h' 52 3 r (cs.take (k * 3) ++ cs.drop ((k + 1) * 3)) ∧ Keep h h' (fun q => q = i) ∧ idOf r = some i) := by
  refine SCalls.enterI (c := _) Try.func26 rfl (by kernel_rfl) (by simp) ?_
  have oo := o
  obtain ⟨hi, hg, hlen, htake, hu, hcc, hlc⟩ := oo
  obtain ⟨vx, s0⟩ := slK_max (P := Try.prog) (t := 47) (i := i) (o := 0) (len := len) (cap := cap) (k := .i64) (k2 := .i64) (k3 := .i64) (l := k) (m := k + 1) (n := len) ss_47 hu (by omega) (by omega) hlc
  have d1 : ((k : Int) == ((k + 1 : Nat) : Int)) = false := by simp; omega
  have s1 := slK_to (P := Try.prog) (t := 47) (i := i) (o := 0) (len := len) (cap := cap) (k := .i64) (m := k) ss_47 hu (by omega)
  have s2 := slK_from (P := Try.prog) (t := 47) (i := i) (o := 0) (len := len) (cap := cap) (k := .i64) (l := k + 1) ss_47 hu (by omega) hlc
  have hlA : (cs.take (k * 3)).length = k * 3 := by rw [List.length_take]; omega
  have hlB : (cs.drop ((k + 1) * 3)).length = (len - (k + 1)) * 3 := by rw [List.length_drop]; omega
  have hB : (c.drop ((k + 1) * 3)).take ((len - (k + 1)) * 3) = cs.drop ((k + 1) * 3) := by rw [← htake, List.drop_take]; congr 1; omega
  have hcl : len * 3 ≤ c.length := by omega
  have hsrcB : ∃ b, aSlice Try.prog 47 (.sl i 0 len cap) (some (.int .i64 ((k + 1 : Nat) : Int))) none none = some b ∧ aSrc Try.prog 3 47 b h = some (len - (k + 1), cs.drop ((k + 1) * 3)) := by
    refine ⟨_, s2, ?_⟩
    obtain ⟨e, hu1, hz⟩ := slSz_eq (P := Try.prog) ss_47
    have hone : (cs.drop ((k + 1) * 3)).all (·.one) = true := List.all_eq_true.2 fun v hv => List.all_eq_true.1 hcone v (List.mem_of_mem_drop hv)
    unfold aSrc
    simp only [hu1]
    by_cases hck : cap = k + 1
    · rw [if_pos hck]
      have hl0 : len - (k + 1) = 0 := by omega
      simp only [hg, hl0, Nat.zero_mul, List.take_zero]
      rw [if_pos ⟨by omega, rfl⟩, List.drop_of_length_le (by omega)]
    · rw [if_neg hck, Nat.zero_add]
      simp only [hg]
      rw [hB, if_pos ⟨by omega, hone⟩]
  obtain ⟨b, hb, hsrc⟩ := hsrcB
  have okA : OwnK h 52 3 i k cap c ex (cs.take (k * 3)) := ⟨hi, hg, hlA, by rw [← htake, List.take_take, Nat.min_eq_left (by omega)], hu, hcc, by omega⟩
  obtain ⟨c', hap, hc'len, hc'⟩ : ∃ c', aAppend Try.prog 47 47 (.sl i 0 k cap) b h = some (.sl i 0 (len - 1) cap, h.set i (.cells c' 52 ex)) ∧ c'.length = c.length ∧ c'.take ((len - 1) * 3) = cs.take (k * 3) ++ cs.drop ((k + 1) * 3) := by
    obtain ⟨he, hz, hsz, hbs, hzs, _⟩ := slT_eq (P := Try.prog) sl_47
    unfold aAppend
    simp only [he, hz, hsz, hbs, hsrc, List.length_cons, List.length_nil, if_true, Nat.zero_add, Nat.reduceAdd]
    by_cases hl0 : len - (k + 1) = 0
    · refine ⟨c, ?_, rfl, ?_⟩
      · rw [if_pos hl0, show len - 1 = k by omega, set_self hg]
      · rw [show len - 1 = k by omega, okA.2.2.2.1, List.drop_of_length_le (by omega), List.append_nil]
    · refine ⟨lay c (k * 3) (cs.drop ((k + 1) * 3)), ?_, length_lay _ _ _ (by rw [hlB]; omega), ?_⟩
      · rw [if_neg hl0, if_pos ⟨by simp only [lim]; omega, by simp only [lim]; omega⟩]
        simp only [hg]
        rw [if_pos hu, if_pos (by omega), if_pos (by omega), show k + (len - (k + 1)) = len - 1 by omega]
      · rw [lay_take _ _ _ _ (by rw [hlB]; omega) (by omega)]
        have : c.take ((len - 1) * 3) = cs.take (k * 3) ++ (c.drop (k * 3)).take ((len - 1 - k) * 3) := by
          rw [← okA.2.2.2.1, show (len - 1) * 3 = k * 3 + (len - 1 - k) * 3 by omega, List.take_add]
        rw [this, lay_at _ _ _ hlA, List.drop_of_length_le (l := (c.drop (k * 3)).take ((len - 1 - k) * 3)) (by rw [List.length_take, List.length_drop, hlB]; omega), List.append_nil]
  obtain ⟨H1, hH1⟩ : ∃ y, y = h.set i (.cells c' 52 ex) := ⟨_, rfl⟩
  rw [← hH1] at hap
  have g1 : H1.get i = .cells c' 52 ex := by rw [hH1]; exact get_set_same
  have s3 := slK_rng (P := Try.prog) (t := 47) (i := i) (o := 0) (len := len - 1) (cap := cap) (k := .i64) (k2 := .i64) (l := len - 1) (m := len) ss_47 hu (by omega) hlc
  rw [if_neg (by omega), Nat.zero_add] at s3
  have hcr : aClear Try.prog 47 (.sl i ((len - 1) * 3) (len - (len - 1)) (cap - (len - 1))) H1 = some (H1.set i (.cells (lay c' ((len - 1) * 3) (made [V.int .i64 0, V.complex .f64 0 0, V.int .i64 0] 1)) 52 ex)) := by
    obtain ⟨he, hz, hsz, hbs, hzs, _⟩ := slT_eq (P := Try.prog) sl_47
    unfold aClear
    simp only [he, hz, g1]
    rw [show len - (len - 1) = 1 by omega, if_neg (by decide), if_pos ⟨rfl, by rw [length_made, hc'len]; simp only [List.length_cons, List.length_nil]; omega⟩]
  simp only [wpA_skip, wpA_region, wpA_seq, wpA_cond, wpA_draw, condI_false, seqQ_normal, goI_out, goI_ops, opsA_nil, opsA_cons, stepA_move, stepA_assign, stepA_binOp, stepA_slice, stepA_len, thenV_some, eval_tmp, eval_const, put_some, enterF_zero, enterF_succ, aBin_eql, absV_snil, aLen_sl, Nat.reduceEqDiff, reduceCtorEq, Option.map_some, if_true, if_false, kt_47, s0, d1]
  refine SWp.drawnS none_ [6] (.q 0 (.q 1 (.q 2 (.q 3 (.q 4 (.q 5 (.a 6 (.q 7 .done)))))))) (by kernel_rfl) (by kernel_rfl) (by kernel_rfl) ?_
  simp only [siI_done, siI_q, siI_a, sqI_some, saI_some, mOk_none', implies_true, qI_nil, qI_cons, thenQ_some, q_move, q_assign, q_slice, wpA_region, wpA_seq, wpA_ret, seqQ_normal, endI_mk, goI_out, goI_ops, goI_mk, opsA_nil, opsA_cons, stepA_move, stepA_assign, stepA_slice, stepA_len, stepA_append, stepA_clear, thenV_some, thenH_some, eval_tmp, put_some, put_none, enterF_zero, enterF_succ, aLen_sl, List.getElem?_cons_zero, List.getElem?_cons_succ, Bool.false_eq_true, Nat.reduceEqDiff, reduceCtorEq, Option.map_some, Option.map_none, true_and, if_true, if_false, kt_47, s1, hb, hap, s3, hcr, retA_ret, Try.results26, resultsA_1]
  refine hid_mk ⟨.inr ⟨i, len - 1, cap, _, ex, rfl, by rw [set_n, hH1, set_n]; exact hi, get_set_same, ?_, ?_, .inl ⟨hu, ?_, by omega⟩⟩, ?_, rfl⟩
  · rw [List.length_append, hlA, hlB]; omega
  · have hm : (made [V.int .i64 0, V.complex .f64 0 0, V.int .i64 0] 1).length = 3 := rfl
    unfold lay
    rw [List.append_assoc, List.take_append_of_le_length (by rw [List.length_take]; omega), List.take_take, Nat.min_self, hc']
  · rw [length_lay _ _ _ (by rw [length_made, hc'len]; simp only [List.length_cons, List.length_nil]; omega), hc'len]; exact hcc
  · rw [hH1]; exact (Keep.set _ _ _).trans' (Keep.set _ _ _)
theorem deleteC (v : V) (k : Nat) (cs : List V) (h : AHeap) (o : Own h 52 3 v cs) (hl : cs.length < 2 ^ 40) (hk : (k + 1) * 3 ≤ cs.length) (hcone : cs.all (·.one) = true) :
    SCalls Try.prog 26 [v, .int .i64 (k : Nat), .int .i64 ((k + 1 : Nat) : Int)] h
      (fun r h' => Own h' 52 3 r (cs.take (k * 3) ++ cs.drop ((k + 1) * 3)) ∧ Keep h h' (isId v) ∧ NewOr h v r) := by
  refine SCalls.ownK o (by decide) (fun hv hc => ?_) fun i len cap c ex h2 hv ok hcap kk hn => ?_
  · subst hc; simp at hk
  · have hvi : idOf v = some i := by rcases hv with rfl | rfl <;> rfl
    have hlen := ok.2.2.1
    refine (deleteK i len cap k c cs ex h2 ok (by omega) (by omega) hcone).mono fun r h' ⟨o', k', n'⟩ => ⟨o', (kk.trans' k').mono fun q hq => by subst hq; exact hvi, .inl (by rw [n', hvi])⟩
end Go.Proofs.Ytjphnabogfiahaa.Pk
