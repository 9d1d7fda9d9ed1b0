/-
  What functions of the program do, told of abstract states. Conditions: as each theorem says.
-/
import Derived.Test.YtedkjhifbibpmaaGreatDoorMeB
import Derived.Test.YtedkjhifbibpmaaGreatDoorMeA
import Derived.Test.YtedkjhifbibpmaaGreatDoorAbD
import Derived.Test.YtedkjhifbibpmaaGreatDoorAbD
import Derived.Test.YtedkjhifbibpmaaGreatDoorAbD
import Derived.Test.YtedkjhifbibpmaaGreatDoorAbD
namespace Go.Proofs.YtedkjhifbibpmaaGreatDoor.Pk
open Go Go.Proofs Go.Proofs.YtedkjhifbibpmaaGreatDoor.Ab
set_option linter.unusedVariables false
set_option linter.unusedSimpArgs false
set_option maxRecDepth 10000
/-! ### The store of a vertex, whatever its kind -/
def IsA (h : AHeap) (a : Nat) (O : List Nat) (K : KK) (e : Ex) (n : Int) (l : List Chg) : Prop :=
  ∃ i O1, O = a :: O1 ∧ AgB h a (tyK K) i e n ∧ IsK h i O1 K l ∧ a ∉ O1 ∧ gpK K n
section
variable {h h' : AHeap} {a : Nat} {O : List Nat} {K : KK} {e : Ex} {n : Int} {l : List Chg}
theorem IsA.lt (s : IsA h a O K e n l) : ∀ q ∈ O, q < h.n := by
  obtain ⟨i, O1, rfl, sa, k, ne, gp⟩ := s
  intro q hq
  rcases List.mem_cons.1 hq with rfl | hq
  · exact sa.lt
  · exact k.lt q hq
theorem IsA.keep {M : Nat → Prop} (s : IsA h a O K e n l) (hk : Keep h h' M) (hm : ∀ q ∈ O, ¬ M q) : IsA h' a O K e n l := by
  obtain ⟨i, O1, rfl, sa, k, ne, gp⟩ := s
  exact ⟨i, O1, rfl, sa.keep hk (hm _ (by simp)), k.keep hk (fun q hq => hm q (by simp [hq])), ne, gp⟩
theorem IsA.keepN (s : IsA h a O K e n l) (hk : Keep h h' none_) : IsA h' a O K e n l := s.keep hk fun _ _ => by simp [none_]
theorem IsA.wf (s : IsA h a O K e n l) : WfK K l := by obtain ⟨i, O1, rfl, sa, k, ne, gp⟩ := s; exact k.wf
/-- What becomes of a record: an error, or the value. -/
def apK (K : KK) (e : Ex) (l : List Chg) (r : Rec) : Except Int Int :=
  if mayTa r.t = false then .error 2 else
  match valF r.k r.v r.t (gathK K l r.k r.t) 16 e with
  | none => .error 10
  | some N => if fullK K l r.k r.t then .error 3 else .ok N
def apR (K : KK) (e : Ex) (l : List Chg) (r : Rec) : V :=
  match apK K e l r with
  | .error c => errA c
  | .ok N => okA r.k N (timeK K l r.k r.t) (rowC (putCs K l r.k r.t N))
def apL (K : KK) (e : Ex) (l : List Chg) (r : Rec) : List Chg :=
  match apK K e l r with
  | .error _ => l
  | .ok N => putLs K l r.k r.t N
set_option maxHeartbeats 1000000 in
theorem agApplyK (s : IsA h a O K e n l) (hm : mayX e = true) (hg : KG h) (r : Rec) :
    SCalls Tryz.prog 19 [.ptr a 0, .agg (recE r)] h (fun q h' => ∃ O', q = apR K e l r ∧ Keep h h' (· ∈ O) ∧ NewL h O O' ∧ IsA h' a O' K e n (apL K e l r)) := by
  have hlt := s.lt
  obtain ⟨i, O1, rfl, sa, k, ne, gp⟩ := s
  have hal := sa.lt
  have hil := k.lt
  refine (agApplyG sa hm hg r (gathK K l r.k r.t) (· ∈ O1) ne (fun q hq hh => by have := hil q hh; omega)
    (fun H h2 N c t er => ∃ O', NewL H O1 O' ∧ if fullK K l r.k r.t = true then er = 3 ∧ IsK h2 i O' K l else er = 0 ∧ t = timeK K l r.k r.t ∧ c = rowC (putCs K l r.k r.t N) ∧ IsK h2 i O' K (putLs K l r.k r.t N))
    (fun h' kh hT => pGathK (k.keepN kh) r hT)
    (fun h' N kh hT _ => (pPutK (k.keepN kh) r N hT).mono fun q h2 ⟨c, t, er, O', e1, kp, nl, hc⟩ => ⟨c, t, er, e1, kp, O', nl, hc⟩)).mono fun q hh ⟨h1', h2, k1, n1, k2, P⟩ => ?_
  have up : ∀ {O' : List Nat}, NewL h1' O1 O' → NewL h (a :: O1) (a :: O') := fun nl x hx => by
    rcases List.mem_cons.1 hx with rfl | hx
    · exact .inl (by simp)
    · rcases nl x hx with hx | hx
      · exact .inl (by simp [hx])
      · exact .inr (by omega)
  cases ht : mayTa r.t with
  | false =>
    have e1 : apR K e l r = errA 2 := by unfold apR apK; rw [if_pos ht]
    have e2 : apL K e l r = l := by unfold apL apK; rw [if_pos ht]
    rw [if_pos ht] at P
    obtain ⟨rfl, rfl⟩ := P
    rw [e1, e2]
    refine ⟨a :: O1, rfl, (k1.trans k2 fun q hq hh => by omega).up, NewL.refl _ _, i, O1, rfl, (sa.keep k1 (by simp [none_])).keep k2 (by omega), (k.keepN k1).keep k2 fun q hq => by have := hil q hq; omega, ne, gp⟩
  | true =>
    rw [if_neg (by rw [ht]; decide)] at P
    cases hv : valF r.k r.v r.t (gathK K l r.k r.t) 16 e with
    | none =>
      have e0 : apK K e l r = .error 10 := by unfold apK; rw [if_neg (by rw [ht]; decide), hv]
      have e1 : apR K e l r = errA 10 := by unfold apR; rw [e0]
      have e2 : apL K e l r = l := by unfold apL; rw [e0]
      rw [hv] at P
      obtain ⟨rfl, rfl⟩ := P
      rw [e1, e2]
      exact ⟨a :: O1, rfl, (k1.trans k2 fun q hq hh => by omega).up, NewL.refl _ _, i, O1, rfl, (sa.keep k1 (by simp [none_])).keep k2 (by omega), (k.keepN k1).keep k2 fun q hq => by have := hil q hq; omega, ne, gp⟩
    | some N =>
      rw [hv] at P
      obtain ⟨c, t, er, kp, ⟨O', nl, hc⟩, eq⟩ := P
      have kall : Keep h hh (· ∈ a :: O1) := ((k1.up).trans' (kp.mono fun q hq => by simp [hq])).trans k2 fun q hq e => by omega
      have sa2 := ((sa.keep k1 (by simp [none_])).keep kp ne).keep k2 (by omega)
      have nv : ∀ {x}, x ∈ O' → x ≠ h.n + 1 := fun {x} hx => by
        rcases nl x hx with hx | hx
        · have := hil x hx; omega
        · omega
      have na : a ∉ O' := fun hx => by
        rcases nl a hx with hx | hx
        · exact ne hx
        · omega
      cases hf : fullK K l r.k r.t with
      | true =>
        rw [hf, if_pos rfl] at hc
        obtain ⟨rfl, hk⟩ := hc
        have e0 : apK K e l r = .error 3 := by unfold apK; rw [if_neg (by rw [ht]; decide), hv]; simp only [hf, if_true]
        have e1 : apR K e l r = errA 3 := by unfold apR; rw [e0]
        have e2 : apL K e l r = l := by unfold apL; rw [e0]
        rw [if_neg (by decide)] at eq
        rw [e1, e2, eq]
        exact ⟨a :: O', rfl, kall, up nl, i, O', rfl, sa2, hk.keep k2 fun q hq => nv hq, na, gp⟩
      | false =>
        rw [hf, if_neg (by decide)] at hc
        obtain ⟨rfl, rfl, rfl, hk⟩ := hc
        have e0 : apK K e l r = .ok N := by unfold apK; rw [if_neg (by rw [ht]; decide), hv]; simp only [hf, Bool.false_eq_true, if_false]
        have e1 : apR K e l r = okA r.k N (timeK K l r.k r.t) (rowC (putCs K l r.k r.t N)) := by unfold apR; rw [e0]
        have e2 : apL K e l r = putLs K l r.k r.t N := by unfold apL; rw [e0]
        rw [if_pos rfl] at eq
        rw [e1, e2, eq]
        exact ⟨a :: O', rfl, kall, up nl, i, O', rfl, sa2, hk.keep k2 fun q hq => nv hq, na, gp⟩
/-! ### Do, List, Expire, Late -/
theorem agListK (s : IsA h a O K e n l) : Pure Tryz.prog 22 [.ptr a 0] h (rowC (listK K l)) := by
  obtain ⟨i, O1, rfl, sa, k, ne, gp⟩ := s
  refine SCalls.enterI (c := _) Tryz.func22 rfl (by kernel_rfl) (by simp) ?_
  have ga := sa.get
  obtain ⟨o, m, ks⟩ := e
  rw [encE_eq] at ga
  simp only [List.cons_append, List.nil_append] at ga
  have hcal : callable Tryz.prog (liF K) = true := (mLi K).2
  simp only [wpA_region, wpA_seq, seqQ_normal, goI_out, goI_ops, opsA_nil, opsA_cons, stepA_move, stepA_assign, stepA_call, eval_tmp, eval_const, put_some, enterF_zero, enterF_succ, absV_snil, Nat.reduceEqDiff, reduceCtorEq, List.map_cons, List.map_nil, if_true, if_false]
  refine callI_pure cal56 (ag_missingB sa) ?_
  simp only [wpA_skip, wpA_region, wpA_seq, wpA_cond, condI_false, seqQ_normal, goI_out, goI_ops, opsA_nil, opsA_cons, stepA_move, stepA_load, stepA_nilCheck, stepA_fieldAddr, stepA_inv, thenV_some, nilV_ptr, eval_tmp, put_some, enterF_zero, enterF_succ, aField_eq, fieldGo_ptr, aLoad_eq, loadGo_one, aPlace_ptr, dropC_cells, Nat.reduceEqDiff, Nat.reduceAdd, Nat.reduceLeDiff, reduceCtorEq, List.map_nil, Nat.zero_add, List.length_cons, List.length_nil, List.drop_zero, List.drop_succ_cons, if_true, if_false, ft_124_2, lt_118, ga, invI_of (mLi K)]
  refine callI_pure hcal (pListK k) ?_
  simp only [wpA_ret, seqQ_normal, endI_mk, goI_out, goI_ops, opsA_nil, opsA_cons, stepA_assign, eval_tmp, put_some, enterF_succ, Nat.reduceEqDiff, if_true, if_false, retA_ret, Tryz.results22, resultsA_1]
  exact hid_mk ⟨rfl, rfl⟩
theorem agExpK (s : IsA h a O K e n l) (mark : Int) (hm : -2 ^ 63 ≤ mark ∧ mark < 2 ^ 63) :
    SCalls Tryz.prog 18 [.ptr a 0, .int .i64 mark] h (fun r h' => ∃ O', Own h' 40 5 r ((expC K mark l).flatMap chgE) ∧ (∀ j, idOf r = some j → h.n ≤ j ∧ j ∉ O') ∧ Keep h h' (· ∈ O) ∧ NewL h O O' ∧ IsA h' a O' K e n (expL K mark l)) := by
  obtain ⟨i, O1, rfl, sa, k, ne, gp⟩ := s
  have hal := sa.lt
  have hil := k.lt
  refine SCalls.enterI (c := _) Tryz.func18 rfl (by kernel_rfl) (by simp) ?_
  have ga := sa.get
  obtain ⟨o, m, ks⟩ := e
  rw [encE_eq] at ga
  simp only [List.cons_append, List.nil_append] at ga
  simp only [wpA_region, wpA_seq, seqQ_normal, goI_out, goI_ops, opsA_nil, opsA_cons, stepA_move, stepA_assign, stepA_call, eval_tmp, eval_const, put_some, enterF_zero, enterF_succ, absV_snil, Nat.reduceEqDiff, reduceCtorEq, List.map_cons, List.map_nil, if_true, if_false]
  refine callI_pure cal56 (ag_missingB sa) ?_
  simp only [wpA_skip, wpA_seq, wpA_cond, wpA_draw, condI_false, seqQ_normal, goI_out, goI_ops, opsA_nil, eval_tmp, put_some, enterF_succ, Nat.reduceEqDiff, if_true, if_false]
  have f1 : (a ∈ O1) = False := eq_false ne
  refine SWp.drawnS (fun x => x ∈ O1) [9] (.q 0 (.q 1 (.q 2 (.q 3 (.q 4 (.q 5 (.q 6 (.q 7 (.q 8 (.a 9 (.q 10 .done))))))))))) (by kernel_rfl) (by kernel_rfl) (by kernel_rfl) ?_
  simp only [mOk_move, mOk_nilCheck, mOk_fieldAddr, mOk_load, mOkV_ptr, nne2, nne3, nne4, nne1', nne2', nne3', not_false_eq_true, siI_q, siI_a, sqI_some, saI_some, implies_true, qI_nil, qI_cons, thenQ_some, q_move, q_load, q_nilCheck, q_fieldAddr, goI_mk, opsA_cons, stepA_call, nilV_ptr, eval_tmp, put_some, enterF_zero, enterF_succ, aField_eq, fieldGo_ptr, aLoad_eq, loadGo_one, aPlace_ptr, dropC_cells, List.getElem?_cons_zero, List.getElem?_cons_succ, Nat.reduceEqDiff, Nat.reduceAdd, Nat.reduceLeDiff, reduceCtorEq, List.map_cons, List.map_nil, Nat.zero_add, List.length_cons, List.length_nil, List.drop_zero, List.drop_succ_cons, true_and, if_true, if_false, ft_124_1, ft_124_2, lt_118, lt_2, ga, f1]
  refine callI_of cal57 (pExpK k n mark gp hm) fun r h2 ⟨O', o2, n2, kp, nl, k2⟩ => ?_
  simp only [mOk_assign, nne2, nne3, nne4, nne1', nne2', nne3', siI_done, siI_q, sqI_some, implies_true, qI_nil, qI_cons, q_assign, wpA_ret, seqQ_normal, endI_mk, goI_out, goI_ops, goI_mk, opsA_nil, eval_tmp, put_some, enterF_succ, List.getElem?_cons_zero, List.getElem?_cons_succ, Bool.false_eq_true, Nat.reduceEqDiff, true_and, if_true, if_false, retA_ret, Tryz.results18, resultsA_1]
  refine hid_mk ⟨a :: O', o2, fun j hj => ⟨(n2 j hj).1, fun hx => ?_⟩, kp.mono fun q hq => by simp [hq], fun x hx => ?_, i, O', rfl, sa.keep kp ne, k2, fun hx => ?_, gp⟩
  · rcases List.mem_cons.1 hx with rfl | hx
    · have := (n2 _ hj).1; omega
    · exact (n2 j hj).2 hx
  · rcases List.mem_cons.1 hx with rfl | hx
    · exact .inl (by simp)
    · rcases nl x hx with hx | hx
      · exact .inl (by simp [hx])
      · exact .inr (by omega)
  · rcases nl a hx with hx | hx
    · exact ne hx
    · omega
def lateR (K : KK) (r : Rec) (mark : Int) : Bool := mayTa r.t && lateK K r.t mark
theorem agLateK (s : IsA h a O K e n l) (r : Rec) (mark : Int) : Pure Tryz.prog 23 [.ptr a 0, .agg (recE r), .int .i64 mark] h (.bool (lateR K r mark)) := by
  obtain ⟨i, O1, rfl, sa, k, ne, gp⟩ := s
  refine Pure.val (Clo.bool _) ?_
  obtain ⟨rk, rv, rt⟩ := r
  refine SCalls.enterI (c := _) Tryz.func23 rfl (by kernel_rfl) (by simp) ?_
  unfold recE lateR
  obtain ⟨H, hH⟩ : ∃ y, y = h.push (.cells [.int .i64 rk, .int .i64 rv, .int .i64 rt] 38 none) := ⟨_, rfl⟩
  have k0 : Keep h H none_ := by rw [hH]; exact Keep.push _ _ _
  have g0 : H.get h.n = .cells [.int .i64 rk, .int .i64 rv, .int .i64 rt] 38 none := by rw [hH]; exact get_push_new
  have s0 := sa.keep k0 (by simp [none_])
  have kk0 := k.keepN k0
  have ga := s0.get
  obtain ⟨o, m, ks⟩ := e
  rw [encE_eq] at ga
  simp only [List.cons_append, List.nil_append] at ga
  simp only [wpA_region, wpA_seq, seqQ_normal, goI_out, goI_ops, opsA_nil, opsA_cons, stepA_move, stepA_assign, stepA_box, stepA_call, thenH_some, eval_tmp, eval_const, put_some, enterF_zero, enterF_succ, absV_bool, cells_agg, aBox_eq, Nat.reduceEqDiff, reduceCtorEq, List.map_cons, List.map_nil, Option.map_some, if_true, if_false]
  rw [← hH]
  clear hH
  refine callI_pure cal56 (ag_missingB s0) ?_
  simp only [goI_ops, opsA_cons, opsA_guardS, gvI_same, slotAt_zero, slotAt_succ, stepA_move, stepA_load, stepA_fieldAddr, stepA_call, thenV_some, eval_tmp, put_some, enterF_succ, aField_eq, fieldGo_ptr, aLoad_eq, loadGo_one, aPlace_ptr, dropC_cells, Nat.reduceEqDiff, Nat.reduceAdd, Nat.reduceLeDiff, List.map_cons, List.map_nil, Nat.zero_add, List.length_cons, List.length_nil, List.drop_zero, List.drop_succ_cons, if_true, if_false, ft_38_2, lt_2, g0]
  refine callI_pure cal58 (pMayTa rt H) ?_
  cases hT : mayTa rt with
  | false =>
    rw [show decide (0 ≤ rt ∧ rt ≤ 1099511627776) = false from hT]
    simp only [wpA_region, wpA_seq, wpA_cond, wpA_ret, condI_true, seqQ_normal, seqQ_ret, endI_mk, goI_out, goI_ops, opsA_nil, opsA_cons, opsA_guardS, gvI_same, slotAt_zero, slotAt_succ, stepA_assign, stepA_pick, stepA_unOp, thenV_some, pickV_false, eval_tmp, eval_const, put_some, enterF_succ, aUn_not, absV_bool, Nat.reduceEqDiff, if_true, if_false, Bool.not_false, retA_ret, Tryz.results23, resultsA_1]
    exact hid_mk ⟨rfl, k0⟩
  | true =>
    rw [show decide (0 ≤ rt ∧ rt ≤ 1099511627776) = true from hT]
    simp only [wpA_skip, wpA_seq, wpA_cond, wpA_draw, condI_false, seqQ_normal, goI_out, goI_ops, opsA_nil, opsA_cons, opsA_guardS, gvI_same, slotAt_zero, slotAt_succ, stepA_pick, stepA_unOp, thenV_some, pickV_false, eval_tmp, eval_const, put_some, enterF_succ, aUn_not, absV_bool, Nat.reduceEqDiff, if_true, if_false, Bool.not_true]
    refine SWp.drawnS none_ [] (.q 0 (.q 1 (.q 2 (.q 3 (.q 4 (.q 5 (.q 6 (.q 7 (.q 8 (.q 9 (.q 10 (.c 11 (.q 12 .done))))))))))))) (by kernel_rfl) (by kernel_rfl) (by kernel_rfl) ?_
    simp only [siI_q, sqI_some, mOk_none', implies_true, qI_nil, qI_cons, thenQ_some, q_move, q_load, q_nilCheck, q_fieldAddr, goI_mk, nilV_ptr, eval_tmp, put_some, enterF_zero, enterF_succ, aField_eq, fieldGo_ptr, aLoad_eq, loadGo_one, aPlace_ptr, dropC_cells, List.getElem?_cons_zero, List.getElem?_cons_succ, Nat.reduceEqDiff, Nat.reduceAdd, Nat.reduceLeDiff, reduceCtorEq, Nat.zero_add, List.length_cons, List.length_nil, List.drop_zero, List.drop_succ_cons, true_and, if_true, if_false, ft_124_1, ft_124_2, ft_38_2, lt_118, lt_2, ga, g0]
    refine siI_c rfl rfl rfl (fun h' hk => pLateK (h := h') (by rcases hk with hk | rfl; exact kk0.keepN hk; exact kk0) n rt mark gp hT) ?_
    simp only [siI_done, siI_q, sqI_some, mOk_none', implies_true, qI_nil, qI_cons, q_assign, wpA_ret, seqQ_normal, endI_mk, goI_out, goI_mk, eval_tmp, put_some, enterF_succ, List.getElem?_cons_zero, List.getElem?_cons_succ, Nat.reduceEqDiff, true_and, if_true, if_false, retA_ret, Tryz.results23, resultsA_1]
    exact hid_mk ⟨rfl, k0⟩
def valK (K : KK) (l : List Chg) (key : Int) : Int := match K with | .kv => valOf l (atK .kv key 0 0) | _ => 0
theorem agValueK (s : IsA h a O K e n l) (key : Int) : Pure Tryz.prog 52 [.ptr a 0, .int .i64 key] h (.int .i64 (valK K l key)) := by
  obtain ⟨i, O1, rfl, sa, k, ne, gp⟩ := s
  have ga := sa.get
  obtain ⟨o, m, ks⟩ := e
  rw [encE_eq] at ga
  simp only [List.cons_append, List.nil_append] at ga
  have pT : Pure Tryz.prog 103 [.iface (tyK K) (.ptr i 0), .int .i64 key] h (.int .i64 (valK K l key)) := by
    cases k with
    | @kv v l k =>
      have := pTable6 k key
      rw [← kv_val (v := 0) (d := false) k.srt] at this
      exact this
    | @win m cl g e l k rr w =>
      refine SCalls.enterI (c := _) Tryz.func103 rfl (by kernel_rfl) (by simp) ?_
      have a1 : aAssert Tryz.prog (.iface (tyK (.win g)) (.ptr i 0)) 194 true = some (.tuple [.pnil, .bool false]) := by unfold aAssert; rw [Tryz.underlying194]; rfl
      simp only [wpA_region, wpA_seq, wpA_cond, wpA_ret, condI_true, seqQ_normal, seqQ_ret, endI_mk, goI_out, goI_ops, opsA_nil, opsA_cons, stepA_move, stepA_assign, stepA_unOp, stepA_typeAssert, stepA_extract, thenV_some, extV_zero, extV_succ, eval_tmp, eval_const, put_some, enterF_zero, enterF_succ, aUn_not, absV_int, Nat.reduceEqDiff, reduceCtorEq, if_true, if_false, Bool.not_false, a1, retA_ret, Tryz.results103, resultsA_1]
      exact hid_mk ⟨rfl, rfl⟩
    | @ses v g l k =>
      refine SCalls.enterI (c := _) Tryz.func103 rfl (by kernel_rfl) (by simp) ?_
      have a1 : aAssert Tryz.prog (.iface (tyK (.ses g)) (.ptr i 0)) 194 true = some (.tuple [.pnil, .bool false]) := by unfold aAssert; rw [Tryz.underlying194]; rfl
      simp only [wpA_region, wpA_seq, wpA_cond, wpA_ret, condI_true, seqQ_normal, seqQ_ret, endI_mk, goI_out, goI_ops, opsA_nil, opsA_cons, stepA_move, stepA_assign, stepA_unOp, stepA_typeAssert, stepA_extract, thenV_some, extV_zero, extV_succ, eval_tmp, eval_const, put_some, enterF_zero, enterF_succ, aUn_not, absV_int, Nat.reduceEqDiff, reduceCtorEq, if_true, if_false, Bool.not_false, a1, retA_ret, Tryz.results103, resultsA_1]
      exact hid_mk ⟨rfl, rfl⟩
  refine SCalls.enterI (c := _) Tryz.func52 rfl (by kernel_rfl) (by simp) ?_
  simp only [wpA_region, wpA_seq, seqQ_normal, goI_out, goI_ops, opsA_nil, opsA_cons, stepA_move, stepA_assign, stepA_call, eval_tmp, eval_const, put_some, enterF_zero, enterF_succ, absV_int, Nat.reduceEqDiff, reduceCtorEq, List.map_cons, List.map_nil, if_true, if_false]
  refine callI_pure cal56 (ag_missingB sa) ?_
  simp only [wpA_skip, wpA_region, wpA_seq, wpA_cond, condI_false, seqQ_normal, goI_out, goI_ops, opsA_nil, opsA_cons, stepA_move, stepA_load, stepA_nilCheck, stepA_fieldAddr, stepA_call, thenV_some, nilV_ptr, eval_tmp, put_some, enterF_zero, enterF_succ, aField_eq, fieldGo_ptr, aLoad_eq, loadGo_one, aPlace_ptr, dropC_cells, Nat.reduceEqDiff, Nat.reduceAdd, Nat.reduceLeDiff, reduceCtorEq, List.map_cons, List.map_nil, Nat.zero_add, List.length_cons, List.length_nil, List.drop_zero, List.drop_succ_cons, if_true, if_false, ft_124_2, lt_118, ga]
  refine callI_pure cal103 pT ?_
  simp only [wpA_ret, seqQ_normal, endI_mk, goI_out, goI_ops, opsA_nil, opsA_cons, stepA_assign, eval_tmp, put_some, enterF_succ, Nat.reduceEqDiff, if_true, if_false, retA_ret, Tryz.results52, resultsA_1]
  exact hid_mk ⟨rfl, rfl⟩
end
end Go.Proofs.YtedkjhifbibpmaaGreatDoor.Pk
namespace Go.Proofs.YtedkjhifbibpmaaGreatDoor.Pk
open Go Go.Proofs Go.Proofs.YtedkjhifbibpmaaGreatDoor.Ab
/-- What the variables hold. -/
def kgl : Nat → Option (List V) := fun k => if k = 1 then some kidsC else none
theorem kgOk : KG (globHeap kgl) := rfl
theorem globOk {w : World} {name : String} (hg : Tryz.prog.globalNamed name = some 1) (h : Lib.TabIs Tryz.prog w name .i64 kidsN) : GlobOk kgl w := fun k cs hk => by
  unfold kgl at hk
  split at hk
  · rename_i e
    subst e
    obtain rfl := Option.some.inj hk
    exact tab_glob hg h
  · cases hk
theorem rec_of {e : List V} (h : Sh.fitsB (.cat (.int .i64) (.cat (.int .i64) (.cat (.int .i64) .unit))) e) : ∃ c : Rec, e = recE c := by
  obtain ⟨l1, _, rfl, ⟨a, rfl, _⟩, l2, _, rfl, ⟨b, rfl, _⟩, l3, _, rfl, ⟨c, rfl, _⟩, rfl⟩ := h
  exact ⟨⟨a, b, c⟩, rfl⟩
theorem map_of {α : Type} {s : Sh} {enc : α → List V} (hs : ∀ e, s.fitsB e → ∃ c, e = enc c) : ∀ {es : List (List V)}, (∀ x ∈ es, s.fitsB x) → ∃ l : List α, es.length = l.length ∧ es.flatten = l.flatMap enc
  | [], _ => ⟨[], rfl, rfl⟩
  | e :: es, h => by
    obtain ⟨l, h1, h2⟩ := map_of hs (es := es) fun x hx => h x (by simp [hx])
    obtain ⟨c, rfl⟩ := hs e (h _ (by simp))
    exact ⟨c :: l, by simp [h1], by simp [h2]⟩
end Go.Proofs.YtedkjhifbibpmaaGreatDoor.Pk
namespace Go.Proofs.YtedkjhifbibpmaaGreatDoor.Pk
open Go Go.Proofs Go.Proofs.YtedkjhifbibpmaaGreatDoor.Ab
set_option linter.unusedVariables false
set_option linter.unusedSimpArgs false
set_option maxRecDepth 10000
/-! ### New -/
def kOf (kind n : Int) : Option KK :=
  if kind = 6 then some .kv else
  if kind = 7 then (if 1 ≤ n ∧ n ≤ 1048576 then some (.win n) else none) else
  if kind = 8 then (if 1 ≤ n ∧ n ≤ 1048576 then some (.ses n) else none) else none
theorem agNewK (x : Vx) {K : KK} (hK : kOf x.kind x.n = some K) (hm : mayX x.e = true) (hok : OkE x.e) (h : AHeap) (hg : KG h) :
    SCalls Tryz.prog 17 [.agg (encX x)] h (fun r h' => ∃ a O, r = .tuple [.ptr a 0, .int .i64 0] ∧ Keep h h' none_ ∧ (∀ q ∈ O, h.n ≤ q) ∧ IsA h' a O K x.e x.n []) := by
  have fin : ∀ (T : TypeId) (hT : T = tyK K) (hgp : gpK K x.n) (QK : AHeap → AHeap → Nat → Prop) (hQ : ∀ H h1 i, Keep h H none_ → QK H h1 i → ∃ O, IsK h1 i O K [] ∧ ∀ q ∈ O, H.n ≤ q)
      (hk : ∀ H, Keep h H none_ → SCalls Tryz.prog 54 [.agg (encX x)] H (fun r h' => ∃ i, r = .tuple [.iface T (.ptr i 0), .int .i64 0] ∧ Keep H h' none_ ∧ QK H h' i)),
      SCalls Tryz.prog 17 [.agg (encX x)] h (fun r h' => ∃ a O, r = .tuple [.ptr a 0, .int .i64 0] ∧ Keep h h' none_ ∧ (∀ q ∈ O, h.n ≤ q) ∧ IsA h' a O K x.e x.n []) := fun T hT hgp QK hQ hk => by
    refine (agNewG x hm hok h hg T QK hk).mono fun r h' ⟨a, i, H, h1, e, kH, q, k1, kk, ha, ha1, s⟩ => ?_
    obtain ⟨O, hO, hO2⟩ := hQ H h1 i kH q
    subst hT
    have hn := kH.n
    refine ⟨a, a :: O, e, kk, fun q hq => ?_, i, O, rfl, s, hO.keepN k1, fun hh => by have := hO.lt a hh; omega, hgp⟩
    rcases List.mem_cons.1 hq with rfl | hq
    · exact ha
    · exact Nat.le_trans hn (hO2 q hq)
  unfold kOf at hK
  split at hK
  · rename_i hk
    cases hK
    refine fin 194 rfl trivial (fun H h1 i => H.n ≤ i ∧ IsKv h1 i .snil 1024 []) (fun H h1 i _ ⟨q1, q2⟩ => ⟨[i], .kv q2, by simpa using q1⟩) fun H _ => ?_
    exact (pKeeper6 x hk H).mono fun r h' ⟨i, e, hi, k, kp⟩ => ⟨i, e, kp, hi, k⟩
  split at hK
  · rename_i hk
    split at hK
    case isFalse => cases hK
    rename_i hn
    cases hK
    refine fin 197 rfl rfl (fun H h1 i => ∃ m, H.n ≤ i ∧ H.n ≤ m ∧ IsWin h1 i m 1024 x.n [] 0) (fun H h1 i _ ⟨m, q1, q2, q3⟩ => ⟨[i, m], .win (e := []) ⟨q3, ⟨by simp [wE, mapK], by simp [wE, mapK]⟩, KNodup.nil, by simp⟩ (by simp [RelW]) (WfK.nil hn), by simp [q1, q2]⟩) fun H _ => ?_
    exact (pKeeper7 x hk hn.1 hn.2 H).mono fun r h' ⟨i, e, kp, m, hi, hm, k⟩ => ⟨i, e, kp, m, hi, hm, k⟩
  split at hK
  · rename_i hk
    split at hK
    case isFalse => cases hK
    rename_i hn
    cases hK
    refine fin 200 rfl rfl (fun H h1 i => H.n ≤ i ∧ IsSes h1 i .snil 1024 x.n []) (fun H h1 i _ ⟨q1, q2⟩ => ⟨[i], .ses q2, by simpa using q1⟩) fun H _ => ?_
    exact (pKeeper8 x hk hn.1 hn.2 H).mono fun r h' ⟨i, e, kp, hi, k⟩ => ⟨i, e, kp, hi, k⟩
  · cases hK
def kU (k : Nat) (n : Int) : KK := if k % 3 = 0 then .kv else if k % 3 = 1 then .win n else .ses n
theorem kOf_usual (k n : Nat) (hn : n < 256) : kOf (kindN k) (1 + (n : Int)) = some (kU k (1 + (n : Int))) := by
  have h3 : k % 3 = 0 ∨ k % 3 = 1 ∨ k % 3 = 2 := by omega
  have hb : 1 ≤ 1 + (n : Int) ∧ 1 + (n : Int) ≤ 1048576 := by omega
  rcases h3 with h | h | h <;> simp [kOf, kindN, kU, h, hb]
/-! ### Two stores -/
def Dis (O O2 : List Nat) : Prop := ∀ q ∈ O, q ∉ O2
theorem Dis.symm {O O2 : List Nat} (d : Dis O O2) : Dis O2 O := fun q hq hh => d q hh hq
theorem IsA.side {h h' : AHeap} {b : Nat} {O O2 : List Nat} {K2 : KK} {e2 : Ex} {n2 : Int} {l2 : List Chg} (s : IsA h b O2 K2 e2 n2 l2) (hk : Keep h h' (· ∈ O)) (d : Dis O O2) : IsA h' b O2 K2 e2 n2 l2 :=
  s.keep hk fun q hq hh => d q hh hq
theorem Dis.step {h : AHeap} {b : Nat} {O O' O2 : List Nat} {K2 : KK} {e2 : Ex} {n2 : Int} {l2 : List Chg} (s : IsA h b O2 K2 e2 n2 l2) (nl : NewL h O O') (d : Dis O O2) : Dis O' O2 := fun q hq hh => by
  rcases nl q hq with hq | hq
  · exact d q hq hh
  · have := s.lt q hh; omega
/-! ### Appending read-only changes -/
theorem srcN (h : AHeap) : aSrc Tryz.prog 5 35 .snil h = some (([] : List Chg).length, ([] : List Chg).flatMap chgE) := own_src kt_35 (Own.snil h 40 5) (n := 0) rfl (by decide) rfl
theorem srcC (ks : List Chg) (h : AHeap) : aSrc Tryz.prog 5 35 (rowC ks) h = some (ks.length, ks.flatMap chgE) := imm_src kt_35 (rows_len chgE_len ks) (rows_one chgE_one ks)
/-! ### Deeds -/
theorem rec_ixA {l : List Rec} {k : Nat} {kk : IntKind} (h : k < l.length) : ∃ r, aIndexAddr Tryz.prog 49 (.imm l.length (l.flatMap recE)) (.int kk (k : Int)) = some (.at (recE l[k] ++ r)) :=
  rows_at recE_len rfl (List.getElem?_eq_getElem h) ss_49
end Go.Proofs.YtedkjhifbibpmaaGreatDoor.Pk
namespace Go.Proofs.YtedkjhifbibpmaaGreatDoor.Pk
open Go Go.Proofs Go.Proofs.YtedkjhifbibpmaaGreatDoor.Ab
set_option linter.unusedVariables false
set_option linter.unusedSimpArgs false
set_option maxRecDepth 10000
/-! ### What the law shows of the reference, for a store of any kind -/
set_option maxHeartbeats 2000000 in
theorem pShownK (h : AHeap) (hg : KG h) : Pure Tryz.prog 15 [] h (.bool true) := by
  refine Pure.val (Clo.bool _) ?_
  refine SCalls.enterI (c := _) Tryz.func15 rfl (by kernel_rfl) (by simp) ?_
  have l3 : (encE sumE).length = 3 := rfl
  have s1 : setAll [V.int .i64 6, .snil, .int .i64 0, .int .i64 0, .snil, .int .i64 0] 2 (encE sumE) = [V.int .i64 6, .snil] ++ encE sumE ++ [.int .i64 0] := rfl
  simp only [wpA_region, wpA_seq, seqQ_normal, goI_out, goI_ops, opsA_nil, opsA_cons, stepA_assign, stepA_call, eval_const, absV_bool, List.map_nil]
  refine callI_pure cal51 (pSum h) ?_
  simp only [goI_ops, opsA_cons, stepA_build, stepA_call, thenV_some, eval_tmp, eval_const, put_some, absV_int, cells_int, cells_agg, setAll_nil, setAll_cons, aBuild_go, aFill_nil, aFill_cons, fillGo_some, buildGo_struct, List.getElem?_cons_zero, List.getElem?_cons_succ, Nat.reduceEqDiff, Nat.reduceAdd, Nat.reduceLeDiff, reduceCtorEq, List.map_cons, List.map_nil, Option.map_some, Nat.zero_add, List.length_cons, List.length_nil, List.set_cons_zero, List.nil_append, List.cons_append, and_self, if_true, if_false, pl_29, zc_29, l3, s1]
  refine callI_of cal17 (SCalls.args (CastL.cons (castX 6 sumE 0 h) (CastL.refl _ _)) (agNewK ⟨6, [], sumE, 0⟩ (K := .kv) rfl sum_may sum_ok h hg)) fun r h1 ⟨a, O, e1, k1, hO, s1⟩ => ?_
  subst e1
  simp only [wpA_skip, wpA_region, wpA_seq, wpA_cond, condI_false, seqQ_normal, goI_out, goI_ops, opsA_nil, opsA_cons, opsA_guardS, gvI_same, slotAt_zero, slotAt_succ, stepA_move, stepA_assign, stepA_pick, stepA_build, stepA_binOp, stepA_extract, stepA_call, thenV_some, pickV_false, extV_zero, extV_succ, eval_tmp, eval_const, put_some, aBin_neq, ptr_nil_eql, absV_int, absV_bool, absV_pnil, cells_int, setAll_nil, setAll_cons, aBuild_go, aFill_nil, aFill_cons, fillGo_some, buildGo_struct, List.getElem?_cons_zero, List.getElem?_cons_succ, bne_self_eq_false, Nat.reduceEqDiff, Nat.reduceAdd, Nat.reduceLeDiff, reduceCtorEq, List.map_cons, List.map_nil, Option.map_some, Nat.zero_add, List.length_cons, List.length_nil, List.set_cons_zero, List.set_cons_succ, and_self, if_true, if_false, kt_31, pl_38, zc_38]
  refine callI_of cal19 (agApplyK s1 sum_may (hg.keep k1) ⟨1, 5, 0⟩) fun r h2 ⟨O2, e2, k2, nl2, s2⟩ => ?_
  rw [show apR .kv sumE [] ⟨1, 5, 0⟩ = okA 1 5 0 (rowC [⟨1, 0, 0, 5, false⟩]) from rfl] at e2
  rw [show apL .kv sumE [] ⟨1, 5, 0⟩ = [⟨1, 0, 0, 5, false⟩] from rfl] at s2
  subst e2
  have kk2 : Keep h h2 none_ := k1.trans k2 fun q hq hh => by have := hO q hh; omega
  have hO2 : ∀ q ∈ O2, h.n ≤ q := fun q hq => by
    rcases nl2 q hq with hh | hh
    · exact hO q hh
    · have := k1.n; omega
  obtain ⟨H3, hH3⟩ : ∃ y, y = h2.push (.cells [.int .i64 1, .int .i64 5, .int .i64 0] 38 none) := ⟨_, rfl⟩
  have k3 : Keep h2 H3 none_ := by rw [hH3]; exact Keep.push _ _ _
  have g3 : H3.get h2.n = .cells [.int .i64 1, .int .i64 5, .int .i64 0] 38 none := by rw [hH3]; exact get_push_new
  have n3 : H3.n = h2.n + 1 := by rw [hH3]; rfl
  have s3 := s2.keepN k3
  simp only [wpA_region, wpA_seq, seqQ_normal, goI_out, goI_ops, opsA_nil, opsA_cons, stepA_move, stepA_assign, stepA_alloc, stepA_build, stepA_store, stepA_extract, stepA_call, thenV_some, thenH_some, thenS_some, extV_zero, extV_succ, eval_tmp, eval_const, put_some, put_none, absV_int, cells_int, cells_agg, one_int, all_nil, all_cons, aStore_eq, storeGo_ptr, setC_row, setAll_nil, setAll_cons, aAlloc_eq, aBuild_go, aFill_nil, aFill_cons, fillGo_some, buildGo_struct, get_push_new, set_push, List.getElem?_cons_zero, List.getElem?_cons_succ, Nat.reduceEqDiff, Nat.reduceAdd, Nat.reduceLeDiff, reduceCtorEq, List.map_cons, List.map_nil, Option.map_some, Nat.zero_add, List.length_cons, List.length_nil, List.set_cons_zero, List.set_cons_succ, and_self, if_true, if_false, Bool.and_self, Nat.le_refl, pl_38, zc_38, zt_38, okA]
  rw [← hH3]
  clear hH3
  refine callI_of cal19 (agApplyK s3 sum_may ((hg.keep kk2).keep k3) ⟨1, 6, 3⟩) fun r h4 ⟨O4, e4, k4, nl4, s4⟩ => ?_
  rw [show apR .kv sumE [⟨1, 0, 0, 5, false⟩] ⟨1, 6, 3⟩ = okA 1 11 3 (rowC [⟨1, 0, 0, 11, false⟩]) from rfl] at e4
  rw [show apL .kv sumE [⟨1, 0, 0, 5, false⟩] ⟨1, 6, 3⟩ = [⟨1, 0, 0, 11, false⟩] from rfl] at s4
  subst e4
  have kk4 : Keep h h4 none_ := (kk2.trans' k3).trans k4 fun q hq hh => by have := hO2 q hh; omega
  have lt2 := s2.lt
  have g4 := (k4.get h2.n (by omega) (fun hh => by have := lt2 _ hh; omega)).trans g3
  obtain ⟨H5, hH5⟩ : ∃ y, y = h4.push (.cells [.int .i64 1, .int .i64 11, .int .i64 3] 38 none) := ⟨_, rfl⟩
  have k5 : Keep h4 H5 none_ := by rw [hH5]; exact Keep.push _ _ _
  have g5 : H5.get h4.n = .cells [.int .i64 1, .int .i64 11, .int .i64 3] 38 none := by rw [hH5]; exact get_push_new
  have n4 := k4.n
  have n5 : H5.n = h4.n + 1 := by rw [hH5]; rfl
  have g54 := (k5.get h2.n (by omega) (by simp [none_])).trans g4
  have s5 := s4.keepN k5
  simp only [wpA_region, wpA_seq, seqQ_normal, goI_out, goI_ops, opsA_nil, opsA_cons, opsA_guardS, gvI_same, slotAt_zero, slotAt_succ, stepA_move, stepA_assign, stepA_pick, stepA_alloc, stepA_load, stepA_store, stepA_binOp, stepA_fieldAddr, stepA_extract, thenV_some, thenH_some, thenS_some, pickV_true, extV_zero, extV_succ, eval_tmp, eval_const, put_some, put_none, aBin_eql, absV_int, absV_bool, cells_agg, one_int, all_nil, all_cons, aField_eq, fieldGo_ptr, aLoad_eq, aPlace_ptr, aStore_eq, storeGo_ptr, setC_row, setAll_nil, setAll_cons, aAlloc_eq, get_push_new, set_push, beq_self_eq_true, Nat.reduceEqDiff, Nat.reduceAdd, reduceCtorEq, Option.map_some, Nat.zero_add, List.length_cons, List.length_nil, List.set_cons_zero, List.set_cons_succ, if_true, if_false, Bool.and_self, Nat.le_refl, ft_38_1, lt_2, zc_38, zt_38, okA]
  rw [← hH5]
  clear hH5
  have lit : ∀ H : AHeap, aBuildSlice Tryz.prog 35 1 [(0, .agg [.int .i64 1, .int .i64 0, .int .i64 0, .int .i64 11, .bool false])] H = some (.sl H.n 0 1 1, H.push (.cells (chgE ⟨1, 0, 0, 11, false⟩) 40 none)) := fun H => lit1ca H ⟨1, 0, 0, 11, false⟩
  have req : ∀ xo yo, aBin Tryz.prog .eql 38 xo yo (.agg [.int .i64 1, .int .i64 11, .int .i64 3]) (.agg [.int .i64 1, .int .i64 11, .int .i64 3]) = some (.bool true) := fun xo yo => by
    have := rec_eql ⟨1, 11, 3⟩ ⟨1, 11, 3⟩ (xo := xo) (yo := yo); simpa using this
  simp only [goI_ops, opsA_cons, opsA_guardS, gvI_same, slotAt_zero, slotAt_succ, stepA_move, stepA_pick, stepA_build, stepA_buildSlice, stepA_load, stepA_binOp, stepA_call, thenV_some, thenH_some, pickV_true, eval_tmp, eval_const, put_some, put_none, aBin_eql, absV_int, absV_bool, cells_int, aLoad_eq, loadGo_one, loadGo_row, aPlace_ptr, dropC_cells, setAll_nil, setAll_cons, aBuild_go, aFill_nil, aFill_cons, fillGo_some, buildGo_struct, List.getElem?_cons_zero, List.getElem?_cons_succ, beq_self_eq_true, Nat.reduceEqDiff, Nat.reduceAdd, Nat.reduceLeDiff, reduceCtorEq, List.map_cons, List.map_nil, Option.map_some, Nat.zero_add, Nat.zero_le, List.length_cons, List.length_nil, List.drop_zero, List.drop_succ_cons, List.take_succ_cons, List.take_nil, List.set_cons_zero, List.set_cons_succ, and_self, if_true, if_false, Nat.le_refl, lt_38, pl_38, pl_40, zc_38, zc_40, g54, g5, lit, req]
  obtain ⟨H6, hH6⟩ : ∃ y, y = H5.push (.cells (chgE ⟨1, 0, 0, 11, false⟩) 40 none) := ⟨_, rfl⟩
  have k6 : Keep H5 H6 none_ := by rw [hH6]; exact Keep.push _ _ _
  have oL : Own H6 40 5 (.sl H5.n 0 1 1) (chgE ⟨1, 0, 0, 11, false⟩) := by rw [hH6]; exact Own.fresh' _ 1 rfl (by decide)
  have n6 : H6.n = H5.n + 1 := by rw [hH6]; rfl
  rw [← hH6]
  clear hH6
  obtain ⟨hB, cB, kB⟩ := Cast.own oL (n := 1) rfl (by decide)
  refine callI_of cal21 (SCalls.args (CastL.cons (Cast.refl _ _) (CastL.cons cB (CastL.refl [] hB))) (pChgsEq [⟨1, 0, 0, 11, false⟩] [⟨1, 0, 0, 11, false⟩] hB (by decide))) fun r h7 ⟨e7, e7'⟩ => ?_
  subst e7 e7'
  have sB := (s5.keepN k6).keep kB fun q hq hh => by have := s4.lt q hq; simp [isId, idOf] at hh; omega
  simp only [goI_ops, opsA_cons, opsA_guardS, gvI_same, slotAt_zero, slotAt_succ, stepA_move, stepA_pick, stepA_call, thenV_some, pickV_true, eval_tmp, eval_const, put_some, put_none, absV_int, absV_bool, decide_true, Nat.reduceEqDiff, reduceCtorEq, List.map_cons, List.map_nil, if_true, if_false, decide_true]
  refine callI_pure cal52 (agValueK sB 1) ?_
  simp only [wpA_ret, seqQ_normal, endI_mk, goI_out, goI_ops, opsA_nil, opsA_cons, opsA_guardS, gvI_same, slotAt_zero, slotAt_succ, stepA_assign, stepA_pick, stepA_binOp, thenV_some, pickV_true, eval_tmp, eval_const, put_some, put_none, aBin_eql, absV_int, absV_bool, beq_self_eq_true, Nat.reduceEqDiff, reduceCtorEq, if_true, if_false, show valK .kv [⟨1, 0, 0, 11, false⟩] 1 = 11 from rfl, retA_ret, Tryz.results15, resultsA_1]
  exact hid_mk ⟨rfl, ((kk4.trans' k5).trans' k6).trans kB fun q hq hh => by have := kk4.n; simp [isId, idOf] at hh; omega⟩
end Go.Proofs.YtedkjhifbibpmaaGreatDoor.Pk
namespace Go.Proofs.YtedkjhifbibpmaaGreatDoor.Pk
open Go Go.Proofs Go.Proofs.YtedkjhifbibpmaaGreatDoor.Ab
end Go.Proofs.YtedkjhifbibpmaaGreatDoor.Pk
