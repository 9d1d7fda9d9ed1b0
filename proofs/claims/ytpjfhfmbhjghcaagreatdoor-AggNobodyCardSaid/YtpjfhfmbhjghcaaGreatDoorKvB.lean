/-
  What functions of the program do, told of abstract states. Conditions: as each theorem says.
-/
import Derived.Test.YtpjfhfmbhjghcaaGreatDoorKvA
namespace Go.Proofs.YtpjfhfmbhjghcaaGreatDoor.Pk
open Go Go.Proofs Go.Proofs.YtpjfhfmbhjghcaaGreatDoor.Ab
set_option linter.unusedVariables false
set_option linter.unusedSimpArgs false

/-! ### Lists laid into lists -/
theorem lay_at {α : Type} (A M X : List α) {a : Nat} (ha : A.length = a) : lay (A ++ M) a X = A ++ X ++ M.drop X.length := by
  unfold lay
  rw [← ha, List.take_left, show A.length + X.length = A.length + X.length from rfl, List.drop_append]
  simp
theorem lay_two {α : Type} (A M X B : List α) {a x b : Nat} (ha : A.length = a) (hx : X.length = x) (hb : B.length = b) (hm : M.length = x + b) : lay (lay (A ++ M) a X) (a + x) B = A ++ X ++ B := by
  rw [lay_at A M X ha, lay_at (A ++ X) _ B (by simp [ha, hx])]
  rw [List.drop_of_length_le (l := M.drop X.length) (by simp; omega)]
  simp
theorem lay_shift {α : Type} (c A B X : List α) {a x b : Nat} (ht : c.take (a + b) = A ++ B) (ha : A.length = a) (hb : B.length = b) (hx : X.length = x) (hl : a + x + b ≤ c.length) :
    ∃ R, lay (lay c (a + x) B) a X = A ++ X ++ (B ++ R) ∧ (lay (lay c (a + x) B) a X).length = c.length := by
  have h1 : c.take a = A := by
    have := congrArg (List.take a) ht
    rw [List.take_take, Nat.min_eq_left (by omega), ← ha, List.take_left] at this
    rw [← ha]; exact this
  have l1 : (lay c (a + x) B).length = c.length := length_lay _ _ _ (by omega)
  refine ⟨c.drop (a + x + b), ?_, by rw [length_lay _ _ _ (by omega), l1]⟩
  have e1 : (lay c (a + x) B).take a = A := by
    unfold lay
    rw [List.append_assoc, List.take_append_of_le_length (by rw [List.length_take]; omega), List.take_take, Nat.min_eq_left (by omega), h1]
  have e2 : (lay c (a + x) B).drop (a + x) = B ++ c.drop (a + x + b) := by
    unfold lay
    rw [List.append_assoc, List.drop_append_of_le_length (by rw [List.length_take]; omega), List.drop_of_length_le (by rw [List.length_take]; omega), hb]
    simp
  generalize lay c (a + x) B = d at e1 e2 l1
  unfold lay
  rw [e1, hx, e2]
theorem ovS : ovOk Tryz.prog 148 := ⟨_, Tryz.func148, by kernel_rfl, by kernel_rfl, by kernel_rfl, by kernel_rfl, 193, 223, 2, 4, by kernel_rfl, by kernel_rfl, Tryz.underlying193, by kernel_rfl⟩
set_option maxHeartbeats 2000000 in
set_option maxRecDepth 10000 in
theorem insertK (i len cap k j : Nat) (c cs xs : List V) (ex : Option Nat) (h : AHeap) (o : OwnK h 223 2 i len cap c ex cs) (hl : len < 2 ^ 40) (hk : k ≤ len) (hj : h.get j = .cells xs 223 none) (hjn : j < h.n) (hij : j ≠ i)
    (hx : xs.length = 2) (hone : xs.all (·.one) = true) (hcone : cs.all (·.one) = true) : SCalls Tryz.prog 118 [.sl i 0 len cap, .int .i64 (k : Nat), .sl j 0 1 1] h
      (fun r h' => Own h' 223 2 r (cs.take (k * 2) ++ xs ++ cs.drop (k * 2)) ∧ Keep h h' (fun q => q = i) ∧ NewOr h (.sl i 0 len cap) r) := by
  refine SCalls.enterI (c := _) Tryz.func118 rfl (by kernel_rfl) (by simp) ?_
  have oo := o
  obtain ⟨hi, hg, hlen, htake, hu, hcc, hlc⟩ := oo
  have c1 : ((1 : Nat) : Int) = 1 := rfl
  have s1 := slK_from (P := Tryz.prog) (t := 193) (i := i) (o := 0) (len := len) (cap := cap) (k := .i64) ss_193 hu hk hlc
  have hoj : Own h 223 2 (.sl j 0 1 1) xs := .inr ⟨j, 1, 1, xs, none, rfl, hjn, hj, by rw [hx], by rw [List.take_of_length_le (by omega)], .inl ⟨by unfold unk; omega, by omega, Nat.le_refl _⟩⟩
  have hsrc := own_src (P := Tryz.prog) (t := 193) kt_193 hoj (n := 1) (by rw [hx]) (by decide) hone
  by_cases hkl : k = len
  · subst hkl
    have d1 : ((k : Int) == (k : Int)) = true := by simp
    obtain ⟨v', h', ea, oa, ka, na⟩ := append_ownM (P := Tryz.prog) (t := 193) (tx := 193) sl_193 (by decide) o.own hsrc (by rw [hx]; rfl) (fun m hm => by
      change m * 2 = _ at hm
      rw [hlen, hx] at hm
      exact ⟨by simp only [lim]; omega, by simp only [lim]; omega⟩)
    simp only [wpA_skip, wpA_region, wpA_seq, wpA_cond, wpA_ret, condI_true, condI_false, seqQ_normal, seqQ_ret, endI_mk, goI_out, goI_ops, opsA_nil, opsA_cons, stepA_move, stepA_assign, stepA_binOp, stepA_slice, stepA_len, stepA_append, thenV_some, thenH_some, eval_tmp, eval_const, put_some, enterF_zero, enterF_succ, aBin_eql, absV_int, absV_snil, aLen_sl, Int.reduceBEq, beq_self_eq_true, Nat.reduceEqDiff, reduceCtorEq, Option.map_some, Option.map_none, Nat.zero_add, if_true, if_false, kt_193, s1, c1, ea, retA_ret, Tryz.results118, resultsA_1]
    refine hid_mk ⟨?_, ka.mono fun q hq => (Option.some.inj hq).symm, na⟩
    rw [List.take_of_length_le (by omega), List.drop_of_length_le (by omega), List.append_nil]
    exact oa
  have hkl : k < len := by omega
  have d1 : ((k : Int) == (len : Int)) = false := by simp; omega
  have w1 := inc64 (i := len) (n := len + 1) (by omega) (by omega)
  have wk := inc64 (i := k) (n := len) (by omega) (by omega)
  have hc := aCap_k (P := Tryz.prog) (t := 193) (i := i) (o := 0) (len := len) sl_193 hu
  have hlA : (cs.take (k * 2)).length = k * 2 := by rw [List.length_take]; omega
  have hlB : (cs.drop (k * 2)).length = (len - k) * 2 := by rw [List.length_drop]; omega
  have hB : (c.drop (k * 2)).take ((len - k) * 2) = cs.drop (k * 2) := by rw [← htake, List.drop_take]; congr 1; omega
  have hBone : ((c.drop (k * 2)).take ((len - k) * 2)).all (·.one) = true := by
    rw [hB, List.all_eq_true]
    exact fun v hv => List.all_eq_true.1 hcone v (List.mem_of_mem_drop hv)
  have hxs : (xs.drop 0).take (1 * 2) = xs := by rw [List.drop_zero, List.take_of_length_le (by omega)]
  by_cases hroom : cap < len + 1
  · have d2 : decide ((cap : Int) < ((len + 1 : Nat) : Int)) = true := decide_eq_true (by omega)
    have s2 := slK_to (P := Tryz.prog) (t := 193) (i := i) (o := 0) (len := len) (cap := cap) (k := .i64) (m := k) ss_193 hu (by omega)
    have w2 : IntKind.i64.wrap (((len + 1 : Nat) : Int) - (k : Int)) = ((len + 1 - k : Nat) : Int) := by rw [Go.IntWalk.i64_in _ (by omega)]; omega
    have e1 := append_made (P := Tryz.prog) (t := 193) (kq := .i64) (o := 0) (len := k) (cap := cap) (n := len + 1 - k) (kn := .i64) (tn := 3) sl_193 (by kernel_rfl) (by decide) hg (by omega) hu (by omega) (by simp only [lim]; omega) (by simp only [lim]; omega) (by simp only []; omega)
    simp only [List.drop_zero] at e1
    have hN : k + (len + 1 - k) = len + 1 := by omega
    rw [hN] at e1
    obtain ⟨H1, hH1⟩ : ∃ y, y = h.push (.cells (c.take (k * 2) ++ made [V.int .i64 0, V.int .i64 0] (len + 1 - k)) 223 (some 2)) := ⟨_, rfl⟩
    rw [← hH1] at e1
    have g1 : H1.get h.n = .cells (c.take (k * 2) ++ made [V.int .i64 0, V.int .i64 0] (len + 1 - k)) 223 (some 2) := by rw [hH1]; exact get_push_new
    have gj : H1.get j = .cells xs 223 none := by rw [hH1, get_push_lt hjn]; exact hj
    have gi : H1.get i = .cells c 223 ex := by rw [hH1, get_push_lt hi]; exact hg
    have n1 : H1.n = h.n + 1 := by rw [hH1]; rfl
    have k1 : Keep h H1 none_ := by rw [hH1]; exact Keep.push _ _ _
    have s3 : aSlice Tryz.prog 193 (.sl h.n 0 (len + 1) unk) (some (.int .i64 (k : Int))) none none = some (.sl h.n (0 + k * 2) (len + 1 - k) (unk + 0 + k)) := slU_from (a := 0) ss_193 (by omega)
    have s4 : aSlice Tryz.prog 193 (.sl h.n 0 (len + 1) unk) (some (.int .i64 ((k + 1 : Nat) : Int))) none none = some (.sl h.n (0 + (k + 1) * 2) (len + 1 - (k + 1)) (unk + 0 + (k + 1))) := slU_from (a := 0) ss_193 (by omega)
    rw [Nat.zero_add, Nat.add_zero] at s3 s4
    have hcA : c.take (k * 2) = cs.take (k * 2) := by rw [← htake, List.take_take, Nat.min_eq_left (by omega)]
    have hml : (made [V.int .i64 0, V.int .i64 0] (len + 1 - k)).length = (len + 1 - k) * 2 := length_made _ _
    have e2 := copy_sl (P := Tryz.prog) (t := 193) (tx := 193) (o := k * 2) (dl := len + 1 - k) (dc := unk + k) (p := 0) (n := 1) (d := 1) (m := 1) sl_193 g1 gj (by show min 1 (len + 1 - k) = 1; omega) (by decide) (by simp only []; omega) (by rw [List.length_append, hml, hcA, hlA]; simp only []; omega) (by rw [hxs]; exact hone)
    rw [hxs] at e2
    obtain ⟨H2, hH2⟩ : ∃ y, y = H1.set h.n (.cells (lay (c.take (k * 2) ++ made [V.int .i64 0, V.int .i64 0] (len + 1 - k)) (k * 2) xs) 223 (some 2)) := ⟨_, rfl⟩
    rw [← hH2] at e2
    have g2 : H2.get h.n = .cells (lay (c.take (k * 2) ++ made [V.int .i64 0, V.int .i64 0] (len + 1 - k)) (k * 2) xs) 223 (some 2) := by rw [hH2]; exact get_set_same
    have gi2 : H2.get i = .cells c 223 ex := by rw [hH2, get_set_ne (by omega)]; exact gi
    have l2 : (lay (c.take (k * 2) ++ made [V.int .i64 0, V.int .i64 0] (len + 1 - k)) (k * 2) xs).length = (len + 1) * 2 := by rw [length_lay _ _ _ (by rw [List.length_append, hml, hcA, hlA, hx]; omega), List.length_append, hml, hcA, hlA]; omega
    have k2 : Keep h H2 none_ := by rw [hH2]; exact k1.trans (Keep.set _ _ _) fun q hq hh => by omega
    have s5 := slK_from (P := Tryz.prog) (t := 193) (i := i) (o := 0) (len := len) (cap := cap) (k := .i64) (l := k) ss_193 hu hk hlc
    rw [if_neg (by omega), Nat.zero_add] at s5
    have e3 := copy_sl (P := Tryz.prog) (t := 193) (tx := 193) (o := (k + 1) * 2) (dl := len + 1 - (k + 1)) (dc := unk + (k + 1)) (p := k * 2) (n := len - k) (d := cap - k) (m := len - k) sl_193 g2 gi2 (by show min (len - k) (len + 1 - (k + 1)) = len - k; omega) (by omega) (by simp only []; omega) (by rw [l2]; simp only []; omega) hBone
    simp only at e3
    rw [hB] at e3
    rw [show (k + 1) * 2 = k * 2 + 2 by omega] at s4 e3
    rw [hcA, lay_two (cs.take (k * 2)) (made [V.int .i64 0, V.int .i64 0] (len + 1 - k)) xs (cs.drop (k * 2)) hlA hx hlB (by rw [hml]; omega)] at e3
    simp only [wpA_skip, wpA_region, wpA_seq, wpA_cond, wpA_draw, condI_true, condI_false, seqQ_normal, goI_out, goI_ops, opsA_nil, opsA_cons, stepA_move, stepA_assign, stepA_binOp, stepA_slice, stepA_len, stepA_append, stepA_copy, stepA_cap, thenV_some, thenH_some, eval_tmp, eval_const, put_some, enterF_zero, enterF_succ, aBin_add, aBin_sub, aBin_eql, aBin_gtr, absV_int, absV_snil, aLen_sl, Int.reduceBEq, Nat.reduceEqDiff, reduceCtorEq, Option.map_some, Option.map_none, Nat.add_zero, Nat.zero_add, if_true, if_false, kt_193, s1, c1, d1, w1, hc, d2, s2, w2, e1, s3, e2]
    refine SWp.drawnS none_ [8] (.q 0 (.q 1 (.q 2 (.q 3 (.q 4 (.q 5 (.q 6 (.q 7 (.a 8 .done))))))))) (by kernel_rfl) (by kernel_rfl) (by kernel_rfl) ?_
    simp only [siI_done, siI_q, siI_a, sqI_some, saI_some, mOk_none', implies_true, qI_nil, qI_cons, thenQ_some, q_move, q_binOp, q_slice, wpA_region, wpA_seq, wpA_ret, seqQ_normal, seqQ_ret, endI_mk, goI_out, goI_ops, goI_mk, opsA_nil, opsA_cons, stepA_move, stepA_assign, stepA_copy, thenH_some, eval_tmp, put_some, enterF_zero, enterF_succ, aBin_add, List.getElem?_cons_zero, List.getElem?_cons_succ, Nat.reduceEqDiff, reduceCtorEq, Option.map_some, Option.map_none, Nat.add_zero, true_and, if_true, if_false, wk, s4, s5, e3, retA_ret, Tryz.results118, resultsA_1]
    refine hid_mk ⟨?_, ?_, .inr fun q hq => ?_⟩
    · refine Own.grown (by rw [set_n, hH2, set_n, n1]; omega) get_set_same ?_
      simp only [List.length_append, hlA, hlB, hx]; omega
    · exact (k2.trans (Keep.set _ _ _) fun q hq hh => by omega).up
    · simp only [idOf, Option.some.injEq] at hq; omega
  · have d2 : decide ((cap : Int) < ((len + 1 : Nat) : Int)) = false := decide_eq_false (by omega)
    have hroom2 : len + 1 ≤ cap := by omega
    have s2 := slK_to (P := Tryz.prog) (t := 193) (i := i) (o := 0) (len := len) (cap := cap) (k := .i64) (m := len + 1) ss_193 hu hroom2
    have s3 := slK_from (P := Tryz.prog) (t := 193) (i := i) (o := 0) (len := len + 1) (cap := cap) (k := .i64) (l := k + 1) ss_193 hu (by omega) hroom2
    rw [if_neg (by omega), Nat.zero_add] at s3
    have s4 := slK_from (P := Tryz.prog) (t := 193) (i := i) (o := 0) (len := len + 1) (cap := cap) (k := .i64) (l := k) ss_193 hu (by omega) hroom2
    rw [if_neg (by omega), Nat.zero_add] at s4
    have hov : aOv h [.sl j 0 1 1, .sl i ((k + 1) * 2) (len + 1 - (k + 1)) (cap - (k + 1))] = some (.bool false) := by
      cases c with
      | nil => simp at hcc; omega
      | cons c0 cr => simp [aOv, hj, hg, hij]
    have hcl : len * 2 + 2 ≤ c.length := by omega
    have e2 := copy_sl (P := Tryz.prog) (t := 193) (tx := 193) (o := (k + 1) * 2) (dl := len + 1 - (k + 1)) (dc := cap - (k + 1)) (p := k * 2) (n := len + 1 - k) (d := cap - k) (m := len - k) sl_193 hg hg (by show min (len + 1 - k) (len + 1 - (k + 1)) = len - k; omega) (by omega) (by simp only []; omega) (by simp only []; omega) hBone
    simp only at e2
    rw [hB] at e2
    obtain ⟨R, hR, hRl⟩ := lay_shift c (cs.take (k * 2)) (cs.drop (k * 2)) xs (a := k * 2) (x := 2) (b := (len - k) * 2) (by rw [List.take_append_drop, show k * 2 + (len - k) * 2 = len * 2 by omega]; exact htake) hlA hlB hx (by omega)
    rw [show (k + 1) * 2 = k * 2 + 2 by omega] at s3 hov e2
    obtain ⟨H1, hH1⟩ : ∃ y, y = h.set i (.cells (lay c (k * 2 + 2) (cs.drop (k * 2))) 223 ex) := ⟨_, rfl⟩
    rw [← hH1] at e2
    have g1 : H1.get i = .cells (lay c (k * 2 + 2) (cs.drop (k * 2))) 223 ex := by rw [hH1]; exact get_set_same
    have gj : H1.get j = .cells xs 223 none := by rw [hH1, get_set_ne hij]; exact hj
    have k1 : Keep h H1 (fun q => q = i) := by rw [hH1]; exact Keep.set _ _ _
    have n1 : H1.n = h.n := by rw [hH1]; rfl
    have l1 : (lay c (k * 2 + 2) (cs.drop (k * 2))).length = c.length := length_lay _ _ _ (by rw [hlB]; omega)
    have e3 := copy_sl (P := Tryz.prog) (t := 193) (tx := 193) (o := k * 2) (dl := len + 1 - k) (dc := cap - k) (p := 0) (n := 1) (d := 1) (m := 1) sl_193 g1 gj (by show min 1 (len + 1 - k) = 1; omega) (by decide) (by simp only []; omega) (by rw [l1]; simp only []; omega) (by rw [hxs]; exact hone)
    simp only at e3
    rw [hxs] at e3
    simp only [wpA_skip, wpA_region, wpA_seq, wpA_cond, condI_false, seqQ_normal, goI_out, goI_ops, opsA_nil, opsA_cons, stepA_move, stepA_assign, stepA_binOp, stepA_slice, stepA_len, stepA_cap, stepA_call, thenV_some, eval_tmp, eval_const, put_some, enterF_zero, enterF_succ, aBin_add, aBin_eql, aBin_gtr, absV_int, absV_snil, aLen_sl, Int.reduceBEq, Nat.reduceEqDiff, reduceCtorEq, List.map_cons, List.map_nil, Option.map_some, Option.map_none, Nat.zero_add, if_true, if_false, kt_193, s1, c1, d1, w1, hc, d2, s2, wk, s3]
    refine callI_ov ncal148 ovS hov ?_
    simp only [wpA_seq, wpA_cond, wpA_draw, condI_true, seqQ_normal, goI_out, goI_ops, opsA_nil, opsA_cons, stepA_unOp, thenV_some, eval_tmp, put_some, enterF_succ, aUn_not, Nat.reduceEqDiff, reduceCtorEq, if_true, if_false, Bool.not_false]
    refine SWp.drawnS none_ [8] (.q 0 (.q 1 (.q 2 (.q 3 (.q 4 (.q 5 (.q 6 (.q 7 (.a 8 .done))))))))) (by kernel_rfl) (by kernel_rfl) (by kernel_rfl) ?_
    simp only [siI_done, siI_q, siI_a, sqI_some, saI_some, mOk_none', implies_true, qI_nil, qI_cons, thenQ_some, q_move, q_binOp, q_slice, wpA_region, wpA_seq, wpA_ret, seqQ_normal, seqQ_ret, endI_mk, goI_out, goI_ops, goI_mk, opsA_nil, opsA_cons, stepA_move, stepA_assign, stepA_slice, stepA_copy, thenV_some, thenH_some, eval_tmp, put_some, enterF_zero, enterF_succ, aBin_add, List.getElem?_cons_zero, List.getElem?_cons_succ, Nat.reduceEqDiff, reduceCtorEq, Option.map_some, Option.map_none, true_and, if_true, if_false, wk, s3, s4, e2, e3, retA_ret, Tryz.results118, resultsA_1]
    refine hid_mk ⟨.inr ⟨i, len + 1, cap, _, ex, rfl, by rw [set_n, n1]; exact hi, get_set_same, ?_, ?_, .inl ⟨hu, by rw [hRl]; exact hcc, hroom2⟩⟩, k1.trans' (Keep.set _ _ _), .inl rfl⟩
    · simp only [List.length_append, hlA, hlB, hx]; omega
    · rw [hR, ← List.append_assoc]
      exact List.take_left' (by simp only [List.length_append, hlA, hlB, hx]; omega)
end Go.Proofs.YtpjfhfmbhjghcaaGreatDoor.Pk
