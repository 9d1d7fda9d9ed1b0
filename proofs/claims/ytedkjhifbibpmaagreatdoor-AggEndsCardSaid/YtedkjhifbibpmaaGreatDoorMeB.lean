/-
  What functions of the program do, told of abstract states. Conditions: as each theorem says.
-/
import Derived.Test.YtedkjhifbibpmaaGreatDoorMeL
import Derived.Test.YtedkjhifbibpmaaGreatDoorMeO
import Derived.Test.YtedkjhifbibpmaaGreatDoorMeG
namespace Go.Proofs.YtedkjhifbibpmaaGreatDoor.Pk
open Go Go.Proofs Go.Proofs.YtedkjhifbibpmaaGreatDoor.Ab
set_option linter.unusedVariables false
set_option linter.unusedSimpArgs false
set_option maxRecDepth 10000
/-! ### A store of any kind -/
def tyK : KK → TypeId
  | .kv => 194
  | .win _ => 197
  | .ses _ => 200
inductive IsK (h : AHeap) (i : Nat) : List Nat → KK → List Chg → Prop
  | kv {v : V} {l : List Pr} (k : IsKv h i v 1024 l) : IsK h i (i :: (idOf v).toList) .kv (l.map kvC)
  | win {m cl : Nat} {g : Int} {e : Ent} {l : List Chg} (k : WinSt h i m g e cl) (r : RelW g e l) (w : WfK (.win g) l) : IsK h i [i, m] (.win g) l
  | ses {v : V} {g : Int} {l : List Chg} (k : IsSes h i v 1024 g l) : IsK h i (i :: (idOf v).toList) (.ses g) l
theorem mem_io {i : Nat} {v : V} {q : Nat} : q ∈ i :: (idOf v).toList ↔ q = i ∨ idOf v = some q := by
  cases h : idOf v <;> simp [eq_comm]
/-- What is new, or was there. -/
def NewL (h : AHeap) (O O' : List Nat) : Prop := ∀ x ∈ O', x ∈ O ∨ h.n ≤ x
theorem NewL.refl (h : AHeap) (O : List Nat) : NewL h O O := fun _ hx => .inl hx
theorem NewL.of {h : AHeap} {i : Nat} {v v' : V} (d : NewOr h v v') : NewL h (i :: (idOf v).toList) (i :: (idOf v').toList) := fun x hx => by
  rcases mem_io.1 hx with rfl | hx
  · exact .inl (by simp)
  · rcases d with d | d
    · exact .inl (mem_io.2 (.inr (by rw [← d]; exact hx)))
    · exact .inr (d x hx)
section
variable {h h' : AHeap} {i : Nat} {O : List Nat} {K : KK} {l : List Chg}
theorem IsK.lt (k : IsK h i O K l) : ∀ q ∈ O, q < h.n := by
  cases k with
  | kv k => intro q hq; rcases mem_io.1 hq with rfl | hq; exact k.lt; exact k.own.lt q hq
  | win k r w => intro q hq; simp at hq; rcases hq with rfl | rfl; exact k.k.lt; exact k.k.ml
  | ses k => intro q hq; rcases mem_io.1 hq with rfl | hq; exact k.lt; exact k.own.lt q hq
theorem IsK.keep {M : Nat → Prop} (k : IsK h i O K l) (hk : Keep h h' M) (hm : ∀ q ∈ O, ¬ M q) : IsK h' i O K l := by
  cases k with
  | kv k => exact .kv (k.keep hk (hm _ (by simp)) fun j hj => hm j (mem_io.2 (.inr hj)))
  | win k r w => exact .win ⟨k.k.keep hk (hm _ (by simp)) (hm _ (by simp)), k.st, k.nd, k.fr⟩ r w
  | ses k => exact .ses (k.keep hk (hm _ (by simp)) fun j hj => hm j (mem_io.2 (.inr hj)))
theorem IsK.keepN (k : IsK h i O K l) (hk : Keep h h' none_) : IsK h' i O K l := k.keep hk fun _ _ => by simp [none_]
theorem IsK.wf (k : IsK h i O K l) : WfK K l := by
  cases k with
  | kv k =>
    refine ⟨kv_ss k.srt, by rw [List.length_map]; have := k.len; omega, fun x hx => ?_, trivial⟩
    obtain ⟨a, b, _, rfl⟩ := (kv_mem k.srt).1 hx
    exact ⟨rfl, by simp [badK, delV]⟩
  | win k r w => exact w
  | ses k => exact ⟨k.ss, k.len, fun x hx => ⟨(k.ok x hx).del, bad_of_okS (k.ok x hx)⟩, k.g1, by have := k.g2; omega⟩
theorem mayTa_mayT {t : Int} : mayT t = mayTa t := by simp [mayT, mayTa]
/-! ### What was gathered -/
theorem pGathK (k : IsK h i O K l) (r : Rec) (ht : mayTa r.t = true) : Pure Tryz.prog 60 [.iface (tyK K) (.ptr i 0), .agg (recE r)] h (.int .i64 (gathK K l r.k r.t)) := by
  have ht' := mayTa_iff.1 ht
  cases k with
  | kv k =>
    have := pGath6 k r
    rw [← kv_val (v := 0) (d := false) k.srt] at this
    exact this
  | win k rr w =>
    have := pGath7 k.k r ht'.1 ht'.2
    rw [← rr.val (v := 0) k.nd w.ss] at this
    exact this
  | ses k =>
    have := pGath8 k r
    rw [show foundT _ _ _ _ = found _ _ _ _ from by rw [foundT, if_pos (by rw [mayTa_mayT]; exact ht)]] at this
    exact this
/-! ### What is put -/
def rowC (cs : List Chg) : V := .imm cs.length (cs.flatMap chgE)
theorem rowC_clo (cs : List Chg) : Clo (rowC cs) := Clo.imm (rows_clo chgE_clo _)
theorem castC {h' : AHeap} {j : Nat} {c : Chg} (o : Own h' 40 5 (.sl j 0 1 1) (chgE c)) (t er : Int) : ∃ h2, Cast (.tuple [.sl j 0 1 1, .int .i64 t, .int .i64 er]) h' (.tuple [rowC [c], .int .i64 t, .int .i64 er]) h2 ∧ Keep h' h2 (fun q => q = j) := by
  obtain ⟨h2, c1, k1⟩ := Cast.own o (n := 1) rfl (by decide)
  refine ⟨h2, Cast.tuple (CastL.cons ?_ (CastL.refl _ _)), k1.mono fun q hq => by simpa [isId, idOf, eq_comm] using hq⟩
  have : rowC [c] = .imm 1 (chgE c) := by simp [rowC]
  rw [this]; exact c1
theorem pPut7F {m cl : Nat} {room size : Int} {e : Ent} (k : IsWin h i m room size (wE e) cl) (r : Rec) (n : Int) (h0 : 0 ≤ r.t) (h1 : r.t ≤ 1099511627776) (hr : (kget e (r.k, frW size r.t)).isSome = false) (hl : room ≤ (e.length : Int)) :
    SCalls Tryz.prog 61 [.iface 197 (.ptr i 0), .agg (recE r), .int .i64 n] h (fun q h' => ∃ c t, q = .tuple [c, .int .i64 t, .int .i64 3] ∧ Keep h h' none_) := by
  obtain ⟨rk, rv, rt⟩ := r
  refine SCalls.enterI (c := _) Tryz.func61 rfl (by kernel_rfl) (by simp) ?_
  unfold recE
  obtain ⟨H, hH⟩ : ∃ y, y = h.push (.cells [.int .i64 rk, .int .i64 rv, .int .i64 rt] 38 none) := ⟨_, rfl⟩
  have k0 : Keep h H none_ := by rw [hH]; exact Keep.push _ _ _
  have n0 : H.n = h.n + 1 := by rw [hH]; rfl
  simp only [wpA_region, wpA_seq, wpA_cond, wpA_block, condI_true, condI_false, seqQ_normal, goI_out, goI_ops, opsA_nil, opsA_cons, stepA_move, stepA_assign, stepA_box, stepA_load, stepA_fieldAddr, stepA_typeAssert, stepA_extract, stepA_call, thenV_some, thenH_some, extV_zero, extV_succ, eval_tmp, eval_const, put_some, enterF_zero, enterF_succ, absV_int, absV_snil, cells_agg, aField_eq, fieldGo_ptr, aLoad_eq, loadGo_one, aPlace_ptr, dropC_cells, aBox_eq, get_push_new, Nat.reduceEqDiff, Nat.reduceAdd, Nat.reduceLeDiff, reduceCtorEq, List.map_cons, List.map_nil, Option.map_some, Nat.add_zero, Nat.zero_add, Nat.zero_le, List.length_cons, List.length_nil, List.drop_zero, List.drop_succ_cons, if_true, if_false, ft_38_0, ft_38_2, lt_2, asrKW, asrWW]
  rw [← hH]
  clear hH
  refine callI_of cal120 (winPutFull H i m cl room size rk rt n e (k.keepN k0) hr hl h0 h1) fun q hh1 ⟨e1, p1⟩ => ?_
  subst e1
  obtain ⟨C, hC⟩ : ∃ y, y = (⟨0, 0, 0, 0, false⟩ : Chg) := ⟨_, rfl⟩
  rw [← hC]
  have cc : ∀ c : Chg, (V.agg (chgE c)).cells = some (chgE c) := fun _ => rfl
  have st : ∀ c : Chg, setC (some 5) (AObj.cells [V.int .i64 0, V.int .i64 0, V.int .i64 0, V.int .i64 0, V.bool false] 40 none) 0 (chgE c) = some (.cells (chgE c) 40 none) := fun _ => rfl
  obtain ⟨H2, hH2⟩ : ∃ y, y = hh1.push (.cells (chgE C) 40 none) := ⟨_, rfl⟩
  have k2 : Keep hh1 H2 none_ := by rw [hH2]; exact Keep.push _ _ _
  have g2 : H2.get hh1.n = .cells (chgE C) 40 none := by rw [hH2]; exact get_push_new
  have n2 : H2.n = hh1.n + 1 := by rw [hH2]; rfl
  simp only [wpA_seq, wpA_draw, seqQ_normal, goI_out, goI_ops, opsA_nil, opsA_cons, stepA_move, stepA_assign, stepA_alloc, stepA_store, stepA_extract, thenV_some, thenH_some, thenS_some, extV_zero, extV_succ, eval_tmp, put_some, put_none, enterF_succ, aStore_eq, storeGo_ptr, aAlloc_eq, get_push_new, set_push, Nat.reduceEqDiff, Option.map_some, if_true, if_false, zc_40, zt_40, cc, st]
  rw [← hH2]
  clear hH2
  have l1 := lit1ca H2 C
  have ld : loadGo (some (some 5)) (some (chgE C)) = some (.agg (chgE C)) := rfl
  have d0 : dropC (.cells (chgE C) 40 none) 0 = some (chgE C) := rfl
  have d1 : dropC (.cells (chgE C) 40 none) 1 = some [.int .i64 C.fr, .int .i64 C.to, .int .i64 C.val, .bool C.del] := rfl
  generalize hE : chgE C = E at *
  refine SWp.drawnS none_ [1] (.q 0 (.q 2 (.q 3 (.q 4 (.e 1 (.q 5 (.q 6 (.q 7 .done))) .stop))))) (by kernel_rfl) (by kernel_rfl) (by kernel_rfl) ?_
  simp only [siI_done, siI_stop, siI_q, siI_e, sqI_some, seI_some, mOk_none', keepT1, implies_true, qI_nil, qI_cons, thenQ_some, q_move, q_assign, q_load, q_fieldAddr, wpA_ret, seqQ_normal, seqQ_ret, blkQ_ret, endI_mk, goI_out, goI_ops, goI_mk, opsA_nil, opsA_cons, stepA_buildSlice, thenH_some, eval_tmp, put_some, put_none, enterF_succ, aField_eq, fieldGo_ptr, aLoad_eq, loadGo_one, aPlace_ptr, List.getElem?_cons_zero, List.getElem?_cons_succ, Bool.false_eq_true, Nat.reduceEqDiff, List.map_cons, List.map_nil, Nat.zero_add, and_true, true_and, if_true, if_false, ft_40_1, lt_2, lt_40, g2, l1, ld, d0, d1, retA_ret, Tryz.results61, resultsA_3]
  have k3 : Keep H2 (H2.push (.cells E 40 none)) none_ := Keep.push _ _ _
  exact hid_mk ⟨_, _, rfl, (k0.trans' p1).trans' (k2.trans' k3)⟩
theorem sesPutFull (h : AHeap) (i : Nat) (v : V) (room g key time val : Int) (l : List Chg) (hmt : mayT time = true) (hf : found g l key time = []) (hr : room ≤ (l.length : Int)) (k : IsSes h i v room g l) :
    SCalls Tryz.prog 121 [.ptr i 0, .int .i64 key, .int .i64 time, .int .i64 val] h (fun r h' => r = .tuple [.imm 0 [], .int .i64 3] ∧ h' = h) := by
  refine SCalls.cast ?_
  refine SCalls.enterI (c := _) Tryz.func121 rfl (by kernel_rfl) (by simp) ?_
  have hg := k.get
  have hal := k.alen h
  have d0 : decide (room ≤ ((l.length : Nat) : Int)) = true := decide_eq_true hr
  simp only [wpA_skip, wpA_region, wpA_seq, wpA_cond, condI_false, seqQ_normal, goI_out, goI_ops, opsA_nil, opsA_cons, stepA_move, stepA_assign, stepA_binOp, stepA_call, thenV_some, eval_tmp, eval_const, put_some, enterF_zero, enterF_succ, ptr_nil_eql, absV_int, absV_pnil, absV_snil, Nat.reduceEqDiff, reduceCtorEq, List.map_cons, List.map_nil, if_true, if_false, kt_200]
  refine callI_pure cal169 (pMayT time h) ?_
  simp only [wpA_skip, wpA_region, wpA_seq, wpA_cond, condI_false, seqQ_normal, goI_out, goI_ops, opsA_nil, opsA_cons, stepA_move, stepA_unOp, stepA_call, thenV_some, eval_tmp, put_some, enterF_zero, enterF_succ, aUn_not, Nat.reduceEqDiff, reduceCtorEq, List.map_cons, List.map_nil, if_true, if_false, Bool.not_true, hmt]
  refine callI_pure cal118 (sesFind h i v room g key time l k) ?_
  have hft : foundT g l key time = [] := by rw [foundT, if_pos hmt, hf]
  rw [hft]
  have b0 : (((0 : Nat) : Int) == 0) = true := rfl
  simp only [wpA_seq, wpA_draw, seqQ_normal, goI_out, goI_ops, opsA_nil, opsA_cons, stepA_assign, eval_tmp, put_some, enterF_succ, Nat.reduceEqDiff, List.length_nil, if_true, if_false]
  refine SWp.drawnS none_ [] (.q 0 (.q 1 (.q 2 (.q 3 (.q 4 (.q 5 (.q 6 (.q 7 (.q 8 (.q 9 (.q 10 (.q 11 (.q 12 (.q 13 (.q 14 .done))))))))))))))) (by kernel_rfl) (by kernel_rfl) (by kernel_rfl) ?_
  simp only [siI_done, siI_q, sqI_some, mOk_none', implies_true, qI_nil, qI_cons, qI_guard, qgI_same, thenQ_some, q_move, q_pick, q_load, q_nilCheck, q_binOp, q_fieldAddr, q_len, wpA_region, wpA_seq, wpA_cond, wpA_ret, condI_true, seqQ_normal, seqQ_ret, endI_mk, goI_out, goI_ops, goI_mk, opsA_nil, opsA_cons, slotAt_zero, slotAt_succ, stepA_assign, pickV_true, nilV_ptr, eval_tmp, eval_const, put_some, enterF_zero, enterF_succ, aBin_eql, aBin_geq, absV_int, absV_bool, absV_snil, aField_eq, fieldGo_ptr, aLoad_eq, loadGo_one, aPlace_ptr, dropC_cells, aLen_imm, List.getElem?_cons_zero, List.getElem?_cons_succ, Nat.reduceEqDiff, Nat.reduceAdd, Nat.reduceLeDiff, reduceCtorEq, Nat.add_zero, Nat.zero_add, Nat.zero_le, List.length_cons, List.length_nil, List.drop_zero, List.drop_succ_cons, true_and, if_true, if_false, ft_275_0, ft_275_2, kt_35, lt_273, lt_3, hg, hal, d0, b0, retA_ret, Tryz.results121, resultsA_2]
  exact hid_mk ⟨_, h, snilC h 3, rfl, rfl⟩
theorem pPut8F {v : V} {g : Int} (k : IsSes h i v 1024 g l) (r : Rec) (n : Int) (hmt : mayT r.t = true) (hf : found g l r.k r.t = []) (hl : 1024 ≤ l.length) :
    SCalls Tryz.prog 61 [.iface 200 (.ptr i 0), .agg (recE r), .int .i64 n] h (fun q h' => ∃ c t, q = .tuple [c, .int .i64 t, .int .i64 3] ∧ Keep h h' none_) := by
  obtain ⟨rk, rv, rt⟩ := r
  refine SCalls.enterI (c := _) Tryz.func61 rfl (by kernel_rfl) (by simp) ?_
  unfold recE
  obtain ⟨H, hH⟩ : ∃ y, y = h.push (.cells [.int .i64 rk, .int .i64 rv, .int .i64 rt] 38 none) := ⟨_, rfl⟩
  have k0 : Keep h H none_ := by rw [hH]; exact Keep.push _ _ _
  simp only [wpA_region, wpA_seq, wpA_cond, wpA_block, condI_true, condI_false, seqQ_normal, goI_out, goI_ops, opsA_nil, opsA_cons, stepA_move, stepA_assign, stepA_box, stepA_load, stepA_fieldAddr, stepA_typeAssert, stepA_extract, stepA_call, thenV_some, thenH_some, extV_zero, extV_succ, eval_tmp, eval_const, put_some, enterF_zero, enterF_succ, absV_int, absV_snil, cells_agg, aField_eq, fieldGo_ptr, aLoad_eq, loadGo_one, aPlace_ptr, dropC_cells, aBox_eq, get_push_new, Nat.reduceEqDiff, Nat.reduceAdd, Nat.reduceLeDiff, reduceCtorEq, List.map_cons, List.map_nil, Option.map_some, Nat.add_zero, Nat.zero_add, Nat.zero_le, List.length_cons, List.length_nil, List.drop_zero, List.drop_succ_cons, if_true, if_false, ft_38_0, ft_38_2, lt_2, asrKS, asrWS, asrSS]
  rw [← hH]
  clear hH
  refine callI_of cal121 (sesPutFull H i v 1024 g rk rt n l hmt hf (by omega) (k.keepN k0)) fun q h1 ⟨e1, p1⟩ => ?_
  subst e1 p1
  simp only [wpA_region, wpA_seq, wpA_cond, wpA_ret, condI_true, seqQ_normal, seqQ_ret, blkQ_ret, endI_mk, goI_out, goI_ops, opsA_nil, opsA_cons, stepA_move, stepA_assign, stepA_binOp, stepA_extract, thenV_some, extV_zero, extV_succ, eval_tmp, eval_const, put_some, enterF_succ, aBin_neq, absV_int, absV_snil, Int.reduceBNe, Nat.reduceEqDiff, if_true, if_false, retA_ret, Tryz.results61, resultsA_3]
  exact hid_mk ⟨_, _, rfl, k0⟩

theorem pPutK (k : IsK h i O K l) (r : Rec) (n : Int) (ht : mayTa r.t = true) :
    SCalls Tryz.prog 61 [.iface (tyK K) (.ptr i 0), .agg (recE r), .int .i64 n] h (fun q h' => ∃ c t er O', q = .tuple [c, .int .i64 t, .int .i64 er] ∧ Keep h h' (· ∈ O) ∧ NewL h O O' ∧
      if fullK K l r.k r.t = true then er = 3 ∧ IsK h' i O' K l else er = 0 ∧ t = timeK K l r.k r.t ∧ c = rowC (putCs K l r.k r.t n) ∧ IsK h' i O' K (putLs K l r.k r.t n)) := by
  have ht' := mayTa_iff.1 ht
  cases k with
  | @kv v l k =>
    have hfe : fullK .kv (l.map kvC) r.k r.t = full 1024 l r.k := by
      simp only [fullK, atK, kv_has k.srt, full, List.length_map]
      congr 1
      rw [Bool.eq_iff_iff, decide_eq_true_eq, decide_eq_true_eq]
      omega
    refine SCalls.cast ((pPut6 k r n).mono fun q h' ⟨v', j, e, k1, kp, d, o, hj, hji, hjv⟩ => ?_)
    subst e
    have hkp : Keep h h' (· ∈ i :: (idOf v).toList) := kp.mono fun q hq => mem_io.2 hq
    cases hf : full 1024 l r.k with
    | true =>
      refine ⟨_, h', Cast.refl _ _, _, _, _, _, rfl, hkp, NewL.of d, ?_⟩
      rw [if_pos (by rw [hfe]; exact hf)]
      refine ⟨by simp [putE, hf], ?_⟩
      have : putL 1024 l r.k n = l := by simp [putL, hf]
      rw [this] at k1
      exact .kv k1
    | false =>
      have hX : putX 1024 l r.k n = ⟨r.k, 0, 0, n, false⟩ := by simp [putX, hf]
      have hL : putL 1024 l r.k n = put l r.k n := by simp [putL, hf]
      rw [hX] at o
      rw [hL] at k1
      obtain ⟨h2, c2, kk2⟩ := castC o r.t (putE 1024 l r.k)
      refine ⟨_, h2, c2, _, _, _, _, rfl, hkp.trans kk2 fun q hq hh => by omega, NewL.of d, ?_⟩
      rw [if_neg (by rw [hfe, hf]; decide)]
      refine ⟨by simp [putE, hf], rfl, rfl, ?_⟩
      have e2 : putLs .kv (l.map kvC) r.k r.t n = (put l r.k n).map kvC := (kv_set k.srt r.k n).symm
      rw [e2]
      exact .kv (k1.keep kk2 hji.symm fun q hq hh => hjv (by rw [hq, hh]))
  | @win m cl g e l k rr w =>
    have hh : has3 l (atK (.win g) r.k r.t 0) = (kget e (r.k, frW g r.t)).isSome := rr.has k.nd rfl
    have hlen := rr.len
    cases hf : fullK (.win g) l r.k r.t with
    | true =>
      simp only [fullK, hh, Bool.and_eq_true, Bool.not_eq_true', decide_eq_true_eq] at hf
      refine (pPut7F k.k r n ht'.1 ht'.2 hf.1 (by omega)).mono fun q h' ⟨c, t, e1, kp⟩ => ⟨c, t, 3, [i, m], e1, kp.up, NewL.refl _ _, ?_⟩
      rw [if_pos rfl]
      exact ⟨rfl, (IsK.win k rr w).keepN kp⟩
    | false =>
      have hf0 := hf
      simp only [fullK, hh, Bool.and_eq_false_iff, Bool.not_eq_false', decide_eq_false_iff_not] at hf
      refine SCalls.cast ((pPut7 k.k r n ht'.1 ht'.2 (hf.imp id fun q => by omega)).mono fun q h' ⟨j, e1, k1, kp, o, hj⟩ => ?_)
      subst e1
      obtain ⟨h2, c2, kk2⟩ := castC o (frW g r.t) 0
      have hil := k.k.lt
      have hml := k.k.ml
      refine ⟨_, h2, c2, _, _, _, [i, m], rfl, (kp.mono fun q hq => by simp [hq]).trans kk2 fun q hq hh => by omega, NewL.refl _ _, ?_⟩
      rw [if_neg (by decide)]
      refine ⟨rfl, rfl, rfl, ?_⟩
      have hr := frW_rng (size := g) ht'.1 k.k.s1
      have st1 : WinSt h2 i m g (kset cl e (r.k, frW g r.t) n) (kclk cl e (r.k, frW g r.t)) := ⟨k1.keep kk2 (by omega) (by omega), k.st.kset _ _, k.nd.set _ _ _, fun x hx => by
        rcases kset_mem hx with hx | hx
        · rw [hx]; show 0 ≤ frW g r.t ∧ frW g r.t ≤ 2 ^ 41; omega
        · exact k.fr x hx⟩
      exact .win st1 (rr.set k.nd w.ss _ _ _ _) (w.putL n ht hf0)
  | @ses v g l k =>
    have hmt : mayT r.t = true := by rw [mayTa_mayT]; exact ht
    cases hf : fullK (.ses g) l r.k r.t with
    | true =>
      simp only [fullK, Bool.and_eq_true, List.isEmpty_iff, decide_eq_true_eq] at hf
      refine (pPut8F k r n hmt hf.1 hf.2).mono fun q h' ⟨c, t, e1, kp⟩ => ⟨c, t, 3, i :: (idOf v).toList, e1, kp.up, NewL.refl _ _, ?_⟩
      rw [if_pos rfl]
      exact ⟨rfl, (IsK.ses k).keepN kp⟩
    | false =>
      simp only [fullK, Bool.and_eq_false_iff, List.isEmpty_eq_false_iff, decide_eq_false_iff_not] at hf
      refine (pPut8 k r n hmt (hf.imp id fun q => by omega)).mono fun q h' ⟨v', e1, k1, kp, d⟩ => ⟨_, _, _, i :: (idOf v').toList, e1, kp.mono fun q hq => mem_io.2 hq, NewL.of d, ?_⟩
      rw [if_neg (by decide)]
      exact ⟨rfl, rfl, rfl, .ses k1⟩
end
end Go.Proofs.YtedkjhifbibpmaaGreatDoor.Pk
namespace Go.Proofs.YtedkjhifbibpmaaGreatDoor.Pk
open Go Go.Proofs Go.Proofs.YtedkjhifbibpmaaGreatDoor.Ab
set_option linter.unusedVariables false
set_option linter.unusedSimpArgs false
set_option maxRecDepth 10000
/-! ### Changes that are done -/
theorem mLiKv : methOk Tryz.prog 194 "List" 297 := ⟨fun v w => by kernel_rfl, by kernel_rfl⟩
theorem mLiWin : methOk Tryz.prog 197 "List" 302 := ⟨fun v w => by kernel_rfl, by kernel_rfl⟩
theorem mLiSes : methOk Tryz.prog 200 "List" 306 := ⟨fun v w => by kernel_rfl, by kernel_rfl⟩
def liF : KK → Nat
  | .kv => 297
  | .win _ => 302
  | .ses _ => 306
theorem mLi (K : KK) : methOk Tryz.prog (tyK K) "List" (liF K) := by cases K; exact mLiKv; exact mLiWin; exact mLiSes
section
variable {h h' : AHeap} {i : Nat} {O : List Nat} {K : KK} {l : List Chg}
/-! ### What is listed -/
theorem pListK (k : IsK h i O K l) : Pure Tryz.prog (liF K) [.ptr i 0] h (rowC (listK K l)) := by
  cases k with
  | @kv v l k =>
    have := kvList h i v 1024 l k
    exact this
  | @win m cl g e l k rr w =>
    have hlen := rr.len
    have hl := w.len
    refine Pure.val (rowC_clo _) ((winListI sortByW h i m cl 1024 g e k.k k.st (by omega) k.fr).mono fun r h' ⟨kp, lc, h1, h2, h3⟩ => ⟨?_, kp⟩)
    rw [h3, rr.list w h1 h2]
    rfl
  | @ses v g l k => exact sesList h i v 1024 g l k
/-! ### What ends -/
def gpK : KK → Int → Prop
  | .kv, _ => True
  | .win g, n => n = g
  | .ses g, n => n = g
theorem pExpK (k : IsK h i O K l) (n mark : Int) (hn : gpK K n) (hm : -2 ^ 63 ≤ mark ∧ mark < 2 ^ 63) :
    SCalls Tryz.prog 57 [.iface (tyK K) (.ptr i 0), .int .i64 n, .int .i64 mark] h (fun r h' => ∃ O', Own h' 40 5 r ((expC K mark l).flatMap chgE) ∧ (∀ j, idOf r = some j → h.n ≤ j ∧ j ∉ O') ∧ Keep h h' (· ∈ O) ∧ NewL h O O' ∧ IsK h' i O' K (expL K mark l)) := by
  have ekv : ∀ l : List Chg, expC .kv mark l = [] ∧ expL .kv mark l = l := fun l => ⟨by simp [expC, inK, goneK], by simp [expL, goneK]⟩
  cases k with
  | @kv v l k =>
    refine SCalls.enterI (c := _) Tryz.func57 rfl (by kernel_rfl) (by simp) ?_
    have a1 : aAssert Tryz.prog (.iface (tyK .kv) (.ptr i 0)) 197 true = some (.tuple [.pnil, .bool false]) := by unfold aAssert; rw [Tryz.underlying197]; rfl
    have a2 : aAssert Tryz.prog (.iface (tyK .kv) (.ptr i 0)) 200 true = some (.tuple [.pnil, .bool false]) := by unfold aAssert; rw [Tryz.underlying200]; rfl
    simp only [wpA_skip, wpA_region, wpA_seq, wpA_cond, wpA_block, wpA_ret, condI_false, seqQ_normal, blkQ_normal, endI_mk, goI_out, goI_ops, opsA_nil, opsA_cons, stepA_move, stepA_assign, stepA_typeAssert, stepA_extract, thenV_some, extV_zero, extV_succ, eval_tmp, eval_const, put_some, enterF_zero, enterF_succ, absV_snil, Nat.reduceEqDiff, reduceCtorEq, if_true, if_false, a1, a2, retA_ret, Tryz.results57, resultsA_1]
    refine hid_mk ⟨_, ?_, by simp [idOf], Keep.refl _ _, NewL.refl _ _, ?_⟩
    · rw [(ekv _).1]; exact Own.snil _ _ _
    · rw [(ekv _).2]; exact .kv k
  | @win m cl g e l k rr w =>
    obtain rfl : n = g := hn
    have hg1 := k.k.s1
    have hg2 := k.k.s2
    have hlen := rr.len
    have hl := w.len
    refine SCalls.enterI (c := _) Tryz.func57 rfl (by kernel_rfl) (by simp) ?_
    have a1 : aAssert Tryz.prog (.iface (tyK (.win n)) (.ptr i 0)) 197 true = some (.tuple [.ptr i 0, .bool true]) := by unfold aAssert; rw [Tryz.underlying197]; rfl
    by_cases h0 : 0 ≤ mark
    · have d0 : decide (0 ≤ mark) = true := decide_eq_true h0
      have hw : IntKind.i64.wrap (mark - n) = mark - n := Go.IntWalk.i64_in _ (by omega)
      simp only [wpA_region, wpA_seq, wpA_cond, wpA_block, condI_true, seqQ_normal, goI_out, goI_ops, opsA_nil, opsA_cons, stepA_move, stepA_assign, stepA_binOp, stepA_typeAssert, stepA_extract, stepA_call, thenV_some, extV_zero, extV_succ, eval_tmp, eval_const, put_some, enterF_zero, enterF_succ, aBin_sub, aBin_geq, absV_int, absV_snil, Nat.reduceEqDiff, reduceCtorEq, List.map_cons, List.map_nil, if_true, if_false, a1, d0, hw]
      refine callI_of cal112 (winExp sortByW h i m cl 1024 n (mark - n) e k.k k.st k.nd (by omega) k.fr) fun r h1 ⟨k1, w1, lc, p1, p2, o1, n1⟩ => ?_
      have hgo : ∀ x : Chg, goneK (.win n) mark x = decide (x.to ≤ mark - n) := fun x => by simp [goneK, h0]
      have elc : lc = expC (.win n) mark l := by
        rw [rr.exp w p1 p2]
        unfold expC inK
        congr 2
        exact List.filter_congr fun x _ => (hgo x).symm
      have eL : expL (.win n) mark l = l.filter fun x => !decide (x.to ≤ mark - n) := List.filter_congr fun x _ => by rw [hgo x]
      rw [elc] at o1
      simp only [wpA_ret, seqQ_normal, seqQ_ret, blkQ_ret, endI_mk, goI_out, goI_ops, opsA_nil, opsA_cons, stepA_assign, eval_tmp, put_some, enterF_succ, Nat.reduceEqDiff, if_true, if_false, retA_ret, Tryz.results57, resultsA_1]
      have hil := k.k.lt
      have hml := k.k.ml
      refine hid_mk ⟨[i, m], o1, fun j hj => ⟨n1 j hj, fun hm => by have := n1 j hj; simp at hm; omega⟩, k1.mono fun q hq => by simp [hq], NewL.refl _ _, ?_⟩
      have wf := w.expL mark
      rw [eL] at wf ⊢
      refine .win ⟨w1, ?_, ?_, fun x hx => k.fr x (List.mem_filter.1 hx).1⟩ rr.filter wf
      · have hs := k.st
        exact ⟨fun x hx => hs.1 x (by
          obtain ⟨y, hy, rfl⟩ := List.mem_map.1 hx
          exact List.mem_map_of_mem (List.mem_filter.1 hy).1), hs.2.sublist ((List.filter_sublist.map _).map _)⟩
      · exact k.nd.sublist (List.filter_sublist.map _)
    · have d0 : decide (0 ≤ mark) = false := decide_eq_false h0
      have e1 : expC (.win n) mark l = [] := by
        have : l.filter (goneK (.win n) mark) = [] := by rw [List.filter_eq_nil_iff]; intro x _; simp [goneK]; omega
        simp [expC, inK, this, sortW]
      have e2 : expL (.win n) mark l = l := by
        unfold expL
        rw [List.filter_eq_self]
        intro x _
        simp [goneK]; omega
      simp only [wpA_skip, wpA_region, wpA_seq, wpA_cond, wpA_block, wpA_ret, condI_true, condI_false, seqQ_normal, blkQ_normal, endI_mk, goI_out, goI_ops, opsA_nil, opsA_cons, stepA_move, stepA_assign, stepA_binOp, stepA_typeAssert, stepA_extract, thenV_some, extV_zero, extV_succ, eval_tmp, eval_const, put_some, enterF_zero, enterF_succ, aBin_geq, absV_int, absV_snil, Nat.reduceEqDiff, reduceCtorEq, if_true, if_false, a1, d0, retA_ret, Tryz.results57, resultsA_1]
      refine hid_mk ⟨_, ?_, by simp [idOf], Keep.refl _ _, NewL.refl _ _, ?_⟩
      · rw [e1]; exact Own.snil _ _ _
      · rw [e2]; exact .win k rr w
  | @ses v g l k =>
    refine SCalls.enterI (c := _) Tryz.func57 rfl (by kernel_rfl) (by simp) ?_
    have a1 : aAssert Tryz.prog (.iface (tyK (.ses g)) (.ptr i 0)) 197 true = some (.tuple [.pnil, .bool false]) := by unfold aAssert; rw [Tryz.underlying197]; rfl
    have a2 : aAssert Tryz.prog (.iface (tyK (.ses g)) (.ptr i 0)) 200 true = some (.tuple [.ptr i 0, .bool true]) := by unfold aAssert; rw [Tryz.underlying200]; rfl
    simp only [wpA_region, wpA_seq, wpA_cond, wpA_block, condI_true, condI_false, seqQ_normal, goI_out, goI_ops, opsA_nil, opsA_cons, stepA_move, stepA_assign, stepA_typeAssert, stepA_extract, stepA_call, thenV_some, extV_zero, extV_succ, eval_tmp, eval_const, put_some, enterF_zero, enterF_succ, absV_snil, Nat.reduceEqDiff, reduceCtorEq, List.map_cons, List.map_nil, if_true, if_false, a1, a2]
    refine callI_of cal113 (sesExpireO h i v 1024 g mark l k) fun r h1 ⟨v', o1, n1, k1, kp, d⟩ => ?_
    simp only [wpA_ret, seqQ_normal, seqQ_ret, blkQ_ret, endI_mk, goI_out, goI_ops, opsA_nil, opsA_cons, stepA_assign, eval_tmp, put_some, enterF_succ, Nat.reduceEqDiff, if_true, if_false, retA_ret, Tryz.results57, resultsA_1]
    exact hid_mk ⟨i :: (idOf v').toList, o1, fun j hj => ⟨(n1 j hj).1, fun hm => by
      rcases mem_io.1 hm with rfl | hm
      · have := (n1 j hj).1; have := k.lt; omega
      · exact (n1 j hj).2 hm⟩, kp.mono fun q hq => mem_io.2 hq, NewL.of d, .ses k1⟩
/-! ### Late ones -/
theorem pLateK (k : IsK h i O K l) (n t mark : Int) (hn : gpK K n) (ht : mayTa t = true) :
    Pure Tryz.prog 62 [.iface (tyK K) (.ptr i 0), .int .i64 n, .int .i64 t, .int .i64 mark] h (.bool (lateK K t mark)) := by
  have ht' := mayTa_iff.1 ht
  refine Pure.val (Clo.bool _) ?_
  cases k with
  | @kv v l k =>
    refine SCalls.enterI (c := _) Tryz.func62 rfl (by kernel_rfl) (by simp) ?_
    have a1 : aAssert Tryz.prog (.iface (tyK .kv) (.ptr i 0)) 197 true = some (.tuple [.pnil, .bool false]) := by unfold aAssert; rw [Tryz.underlying197]; rfl
    have a2 : aAssert Tryz.prog (.iface (tyK .kv) (.ptr i 0)) 200 true = some (.tuple [.pnil, .bool false]) := by unfold aAssert; rw [Tryz.underlying200]; rfl
    simp only [wpA_skip, wpA_region, wpA_seq, wpA_cond, wpA_block, wpA_ret, condI_false, seqQ_normal, blkQ_normal, endI_mk, goI_out, goI_ops, opsA_nil, opsA_cons, stepA_move, stepA_assign, stepA_typeAssert, stepA_extract, thenV_some, extV_zero, extV_succ, eval_tmp, eval_const, put_some, enterF_zero, enterF_succ, absV_bool, Nat.reduceEqDiff, reduceCtorEq, if_true, if_false, a1, a2, retA_ret, Tryz.results62, resultsA_1]
    exact hid_mk ⟨rfl, Keep.refl _ _⟩
  | @win m cl g e l k rr w =>
    obtain rfl : n = g := hn
    have hg1 := k.k.s1
    have hg2 := k.k.s2
    have hr := frW_rng (size := n) ht'.1 hg1
    refine SCalls.enterI (c := _) Tryz.func62 rfl (by kernel_rfl) (by simp) ?_
    have a1 : aAssert Tryz.prog (.iface (tyK (.win n)) (.ptr i 0)) 197 true = some (.tuple [.ptr i 0, .bool true]) := by unfold aAssert; rw [Tryz.underlying197]; rfl
    have hw : IntKind.i64.wrap (frW n t + n) = frW n t + n := Go.IntWalk.i64_in _ (by omega)
    simp only [wpA_region, wpA_seq, wpA_cond, wpA_block, condI_true, seqQ_normal, goI_out, goI_ops, opsA_nil, opsA_cons, stepA_move, stepA_assign, stepA_typeAssert, stepA_extract, stepA_call, thenV_some, extV_zero, extV_succ, eval_tmp, eval_const, put_some, enterF_zero, enterF_succ, absV_bool, Nat.reduceEqDiff, reduceCtorEq, List.map_cons, List.map_nil, if_true, if_false, a1]
    refine callI_pure cal122 (winStart h i m cl 1024 n t _ k.k) ?_
    rw [startW_ok ht'.1 ht'.2]
    simp only [wpA_ret, seqQ_normal, seqQ_ret, blkQ_ret, endI_mk, goI_out, goI_ops, opsA_nil, opsA_cons, stepA_move, stepA_assign, stepA_binOp, thenV_some, eval_tmp, put_some, enterF_zero, enterF_succ, aBin_add, aBin_leq, Nat.reduceEqDiff, if_true, if_false, hw, retA_ret, Tryz.results62, resultsA_1]
    exact hid_mk ⟨rfl, Keep.refl _ _⟩
  | @ses v g l k =>
    obtain rfl : n = g := hn
    have hg1 := k.g1
    have hg2 := k.g2
    refine SCalls.enterI (c := _) Tryz.func62 rfl (by kernel_rfl) (by simp) ?_
    have a1 : aAssert Tryz.prog (.iface (tyK (.ses n)) (.ptr i 0)) 197 true = some (.tuple [.pnil, .bool false]) := by unfold aAssert; rw [Tryz.underlying197]; rfl
    have a2 : aAssert Tryz.prog (.iface (tyK (.ses n)) (.ptr i 0)) 200 true = some (.tuple [.ptr i 0, .bool true]) := by unfold aAssert; rw [Tryz.underlying200]; rfl
    have hw : IntKind.i64.wrap (t + n) = t + n := Go.IntWalk.i64_in _ (by omega)
    simp only [wpA_region, wpA_seq, wpA_cond, wpA_block, wpA_ret, condI_true, condI_false, seqQ_normal, seqQ_ret, blkQ_ret, endI_mk, goI_out, goI_ops, opsA_nil, opsA_cons, stepA_move, stepA_assign, stepA_binOp, stepA_typeAssert, stepA_extract, thenV_some, extV_zero, extV_succ, eval_tmp, eval_const, put_some, enterF_zero, enterF_succ, aBin_add, aBin_leq, absV_bool, Nat.reduceEqDiff, reduceCtorEq, if_true, if_false, a1, a2, hw, retA_ret, Tryz.results62, resultsA_1]
    exact hid_mk ⟨rfl, Keep.refl _ _⟩
end
end Go.Proofs.YtedkjhifbibpmaaGreatDoor.Pk
