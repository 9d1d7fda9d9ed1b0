/-
  What functions of the program do, told of abstract states. Conditions: as each theorem says.
-/
import Derived.Test.YtedkjhifbibpmaaGreatDoorMeE
import Derived.Test.YtedkjhifbibpmaaGreatDoorMeP
import Derived.Test.YtedkjhifbibpmaaGreatDoorAbD

namespace Go.Proofs.YtedkjhifbibpmaaGreatDoor.Pk
open Go Go.Proofs Go.Proofs.YtedkjhifbibpmaaGreatDoor.Ab
set_option linter.unusedVariables false
set_option linter.unusedSimpArgs false
set_option maxRecDepth 10000
/-! ### An expression's bytes -/
mutual
def encB : Ex → List Nat
  | .mk o n l => enc o.toNat ++ (if o = 1 then enc (zz n) else []) ++ encBL l
def encBL : List Ex → List Nat
  | [] => []
  | k :: r => encB k ++ encBL r
end
theorem encBL_eq : ∀ l : List Ex, encBL l = l.flatMap encB
  | [] => by rw [encBL]; rfl
  | k :: r => by rw [encBL, encBL_eq r]; rfl
theorem encB_eq (o n : Int) (l : List Ex) : encB (.mk o n l) = enc o.toNat ++ (if o = 1 then enc (zz n) else []) ++ l.flatMap encB := by rw [encB, encBL_eq]
theorem szL_append : ∀ a b : List Ex, szL (a ++ b) = szL a + szL b
  | [], b => by rw [List.nil_append, szL]; omega
  | k :: a, b => by rw [List.cons_append, szL, szL, szL_append a b]; omega
theorem szL_at {l : List Ex} {i : Nat} (hi : i < l.length) : szL (l.take i) + szE l[i] ≤ szL l := by
  have h1 := szL_drop hi
  have h2 := szL_append (l.take (i + 1)) (l.drop (i + 1))
  rw [List.take_append_drop] at h2
  omega
theorem flat_len20 : ∀ l : List Ex, (∀ k ∈ l, (encB k).length ≤ 20 * szE k) → (l.flatMap encB).length ≤ 20 * szL l
  | [], _ => Nat.zero_le _
  | k :: r, h => by
    have h1 := h k (by simp)
    have h2 := flat_len20 r fun x hx => h x (by simp [hx])
    rw [List.flatMap_cons, List.length_append, szL]
    omega
theorem encB_len : ∀ (s : Nat) (e : Ex), szE e = s → OkE e → (encB e).length ≤ 20 * szE e := by
  intro s
  induction s using Nat.strongRecOn with
  | _ s ih =>
  intro e hs hok
  have hk : ∀ k ∈ e.ks, (encB k).length ≤ 20 * szE k := fun k hk => ih (szE k) (by have := szE_kid k hk; omega) k rfl (hok.kid k hk)
  cases hok with
  | mk o n l hl hh ho hn =>
    have h1 := enc_le o.toNat (by omega)
    have h2 := enc_le (zz n) (zz_lt n hn.1 hn.2)
    have h3 := flat_len20 l hk
    rw [encB_eq, List.length_append, List.length_append, szE]
    split
    · omega
    · simp only [List.length_nil]; omega
theorem ex_cells (e : Ex) : (V.agg (encE e)).cells = some (encE e) := rfl
theorem ex_st (e : Ex) : setC (some 3) (AObj.cells [V.int .i64 0, V.int .i64 0, V.snil] 27 none) 0 (encE e) = some (.cells (encE e) 27 none) := by cases e; rfl
theorem ex_ldc (e : Ex) : (if 3 ≤ (encE e).length then some (V.agg (List.take 3 (encE e))) else none) = some (.agg (encE e)) := by cases e; rfl
theorem ex_d0 (o n : Int) (ks : List Ex) : dropC (AObj.cells (encE (.mk o n ks)) 27 none) 0 = some [.int .i64 o, .int .i64 n, .imm ks.length (ks.flatMap encE)] := by rw [encE_eq]; rfl
theorem ex_d1 (o n : Int) (ks : List Ex) : dropC (AObj.cells (encE (.mk o n ks)) 27 none) 1 = some [.int .i64 n, .imm ks.length (ks.flatMap encE)] := by rw [encE_eq]; rfl
theorem ex_d2 (o n : Int) (ks : List Ex) : dropC (AObj.cells (encE (.mk o n ks)) 27 none) 2 = some [.imm ks.length (ks.flatMap encE)] := by rw [encE_eq]; rfl
theorem ex_lr (A : Ex) (q : List V) : loadGo (some (some 3)) (some (encE A ++ q)) = some (.agg (encE A)) := load_row (encE_len A)
set_option maxHeartbeats 2000000 in
set_option maxRecDepth 10000 in
theorem pEncode : ∀ (d : Nat) (e : Ex) (h : AHeap) (x : V) (cs : List Nat), okX d e → OkE e → Rd h x cs → cs.length + 20 * szE e ≤ 2 ^ 40 → Pure Tryz.prog 105 [x, .agg (encE e)] h (.imm (cs ++ encB e).length (bytesV (cs ++ encB e)))
  | 0, e, h, x, cs, hd, _, _, _ => hd.zero.elim
  | d + 1, e, h, x, cs, hd, hok, rd, hb => by
    obtain ⟨hf, hkd⟩ := hd.fits
    have hkok := hok.kid
    have hks : ∀ k ∈ e.ks, (encB k).length ≤ 20 * szE k := fun k hk => encB_len _ k rfl (hkok k hk)
    obtain ⟨o, n, ks⟩ := e
    obtain ⟨_, ho1, ho2⟩ := fits_len hf
    have hn : -2 ^ 63 ≤ n ∧ n < 2 ^ 63 := by cases hok; assumption
    have hlen := hok.len
    simp only [Ex.ks] at hkd hkok hlen hks
    obtain ⟨k, rfl⟩ : ∃ k : Nat, o = k := ⟨o.toNat, by omega⟩
    have hz := enc_le (zz n) (zz_lt n hn.1 hn.2)
    have hz2 := enc_le k (by omega)
    rw [szE] at hb
    refine Pure.val (Clo.imm (bytesV_clo _)) ?_
    obtain ⟨mid, hmid⟩ : ∃ m, m = cs ++ enc k ++ (if (k : Int) = 1 then enc (zz n) else []) := ⟨_, rfl⟩
    have hfin : cs ++ encB (.mk k n ks) = mid ++ ks.flatMap encB := by rw [hmid, encB_eq]; simp
    have hml : mid.length ≤ cs.length + 20 := by
      rw [hmid, List.length_append, List.length_append]
      split
      · omega
      · simp only [List.length_nil]; omega
    rw [hfin]
    refine SCalls.enterI (c := _) Tryz.func105 rfl (by kernel_rfl) (by simp) ?_
    have hc := ex_cells (.mk k n ks)
    have hd0 := ex_d0 k n ks
    have hd1 := ex_d1 k n ks
    have hd2 := ex_d2 k n ks
    have wk : IntKind.u64.wrap (k : Int) = (k : Int) := nat_u64 (by omega)
    obtain ⟨H, hH⟩ : ∃ y, y = h.push (.cells (encE (.mk k n ks)) 27 none) := ⟨_, rfl⟩
    have gH : H.get h.n = .cells (encE (.mk k n ks)) 27 none := by rw [hH]; exact get_push_new
    have kH : Keep h H none_ := by rw [hH]; exact Keep.push _ _ _
    simp only [wpA_region, wpA_seq, seqQ_normal, goI_out, goI_ops, opsA_nil, opsA_cons, stepA_move, stepA_assign, stepA_box, stepA_load, stepA_convert, stepA_fieldAddr, stepA_call, thenV_some, thenC_some, thenH_some, eval_tmp, eval_const, put_some, enterF_zero, enterF_succ, absV_snil, aField_eq, fieldGo_ptr, aLoad_eq, loadGo_one, aPlace_ptr, aBox_eq, get_push_new, Nat.reduceEqDiff, reduceCtorEq, List.map_cons, List.map_nil, Option.map_some, Nat.add_zero, if_true, if_false, ft_27_0, lt_3, hc, hd0, aConv_int it_3 it_221, wk]
    rw [← hH]
    clear hH
    refine callI_pure cal124 (pUint x cs k H (rd.keep kH) (by omega) (by omega)) ?_
    by_cases h1 : (k : Int) = 1
    · have c1 : ((k : Int) == 1) = true := by simpa using h1
      have m1 : cs ++ enc k ++ enc (zz n) = mid := by rw [hmid, if_pos h1]
      simp only [wpA_region, wpA_seq, wpA_cond, condI_true, seqQ_normal, goI_out, goI_ops, opsA_nil, opsA_cons, stepA_move, stepA_assign, stepA_load, stepA_binOp, stepA_fieldAddr, stepA_call, thenV_some, eval_tmp, eval_const, put_some, enterF_zero, enterF_succ, aBin_eql, absV_int, aField_eq, fieldGo_ptr, aLoad_eq, loadGo_one, aPlace_ptr, Nat.reduceEqDiff, reduceCtorEq, List.map_cons, List.map_nil, Nat.add_zero, Nat.zero_add, if_true, if_false, ft_27_0, ft_27_1, lt_2, lt_3, gH, hd0, hd1, c1]
      refine callI_pure cal126 (pInt _ (cs ++ enc k) n H (Rd.imm _ _) (by rw [List.length_append]; omega) hn.1 hn.2) ?_
      rw [m1]
      simp only [wpA_region, wpA_seq, wpA_block, wpA_loop, seqQ_normal, goI_out, goI_ops, opsA_nil, opsA_cons, stepA_move, stepA_assign, stepA_load, stepA_fieldAddr, stepA_len, thenV_some, eval_tmp, eval_const, put_some, enterF_succ, absV_int, aField_eq, fieldGo_ptr, aLoad_eq, loadGo_one, aPlace_ptr, aLen_imm, Nat.reduceEqDiff, reduceCtorEq, Nat.zero_add, if_true, if_false, ft_27_2, kt_25, lt_25, gH, hd2]
      refine SWp.loopG (α := Nat) (fun i f h' => f 0 = .imm (mid ++ (ks.take i).flatMap encB).length (bytesV (mid ++ (ks.take i).flatMap encB)) ∧ f 20 = .imm ks.length (ks.flatMap encE) ∧ f 21 = .int .i64 ((ks.length : Nat) : Int) ∧ f 22 = .int .i64 (i : Nat) ∧ i ≤ ks.length ∧ Keep h h' none_) (fun i => ks.length - i) 0
        ⟨(show V.imm _ _ = _ by simp), rfl, rfl, rfl, Nat.zero_le _, kH⟩ ?_
      rintro i f h1 ⟨f0, f20, f21, f22, hi, k1⟩
      refine wpI_sound (by kernel_rfl) ?_
      by_cases hlt : i < ks.length
      · have d1 : decide ((i : Int) < ((ks.length : Nat) : Int)) = true := decide_eq_true (by omega)
        have hw : IntKind.i64.wrap (((i : Nat) : Int) + 1) = ((i + 1 : Nat) : Int) := by rw [Go.IntWalk.i64_in _ (by omega)]; omega
        have x1 := ex_ix (kk := .i64) hlt
        have hsz := szL_at hlt
        have hfl := flat_len20 (ks.take i) fun k hk => hks k (List.mem_of_mem_take hk)
        have ht1 : (ks.take (i + 1)).flatMap encB = (ks.take i).flatMap encB ++ encB ks[i] := by rw [List.take_succ_eq_append_getElem hlt, List.flatMap_append]; simp
        have hAm : ks[i] ∈ ks := List.getElem_mem hlt
        generalize ks[i] = A at x1 hsz ht1 hAm
        have hA1 := hkd A hAm
        have hA2 := hkok A hAm
        have lr := ex_lr A
        have cA := ex_cells A
        have st := ex_st A
        have ldc := ex_ldc A
        have hl0 : (mid ++ (ks.take i).flatMap encB).length = mid.length + ((ks.take i).flatMap encB).length := List.length_append
        simp only [wpA_skip, wpA_region, wpA_seq, wpA_cond, wpA_block, condI_true, seqQ_normal, goI_out, goI_ops, opsA_nil, opsA_cons, stepA_move, stepA_alloc, stepA_load, stepA_store, stepA_binOp, stepA_indexAddr, stepA_call, thenV_some, thenH_some, thenS_some, eval_tmp, put_some, put_none, aBin_lss, aLoad_eq, loadGo_row, aPlace_ptr, aPlace_at, dropC_cells, aStore_eq, storeGo_ptr, aAlloc_eq, get_push_new, set_push, Nat.reduceEqDiff, reduceCtorEq, List.map_cons, List.map_nil, Option.map_some, Nat.zero_le, List.drop_zero, if_true, if_false, lt_27, zc_27, zt_27, f0, f20, f21, f22, d1, x1, lr, cA, st, ldc]
        refine callI_pure cal105 (pEncode d A _ _ _ hA1 hA2 (Rd.imm _ _) (by omega)) ?_
        rw [List.append_assoc, ← ht1]
        simp only [wpA_region, seqQ_normal, blkQ_normal, endI_mk, andThen_normal, goI_out, goI_ops, opsA_nil, opsA_cons, stepA_move, stepA_assign, stepA_binOp, thenV_some, eval_tmp, eval_const, put_some, put_none, aBin_add, absV_int, Nat.reduceEqDiff, reduceCtorEq, if_true, if_false, f22, hw]
        exact hid_mk ⟨i + 1, ⟨rfl, f20, f21, rfl, hlt, k1.then_push _⟩, by omega⟩
      · have d1 : decide ((i : Int) < ((ks.length : Nat) : Int)) = false := decide_eq_false (by omega)
        rw [List.take_of_length_le (by omega)] at f0
        simp only [wpA_region, wpA_seq, wpA_cond, wpA_exit, wpA_ret, condI_false, seqQ_normal, seqQ_exit, blkQ_exit, endI_mk, goE, andThen_exit, goI_out, goI_ops, opsA_nil, opsA_cons, stepA_move, stepA_assign, stepA_binOp, thenV_some, eval_tmp, put_some, aBin_lss, Nat.reduceEqDiff, reduceCtorEq, if_true, if_false, f0, f21, f22, d1, retA_ret, Tryz.results105, resultsA_1]
        exact hid_mk ⟨rfl, k1⟩
    · have c1 : ((k : Int) == 1) = false := by simpa using h1
      have m1 : cs ++ enc k = mid := by rw [hmid, if_neg h1, List.append_nil]
      rw [m1]
      simp only [wpA_skip, wpA_region, wpA_seq, wpA_cond, wpA_block, wpA_loop, condI_false, seqQ_normal, goI_out, goI_ops, opsA_nil, opsA_cons, stepA_move, stepA_assign, stepA_load, stepA_binOp, stepA_fieldAddr, stepA_len, thenV_some, eval_tmp, eval_const, put_some, enterF_succ, aBin_eql, absV_int, aField_eq, fieldGo_ptr, aLoad_eq, loadGo_one, aPlace_ptr, aLen_imm, Nat.reduceEqDiff, reduceCtorEq, Nat.add_zero, Nat.zero_add, if_true, if_false, ft_27_0, ft_27_2, kt_25, lt_25, lt_3, gH, hd0, hd2, c1]
      refine SWp.loopG (α := Nat) (fun i f h' => f 0 = .imm (mid ++ (ks.take i).flatMap encB).length (bytesV (mid ++ (ks.take i).flatMap encB)) ∧ f 20 = .imm ks.length (ks.flatMap encE) ∧ f 21 = .int .i64 ((ks.length : Nat) : Int) ∧ f 22 = .int .i64 (i : Nat) ∧ i ≤ ks.length ∧ Keep h h' none_) (fun i => ks.length - i) 0
        ⟨(show V.imm _ _ = _ by simp), rfl, rfl, rfl, Nat.zero_le _, kH⟩ ?_
      rintro i f h1 ⟨f0, f20, f21, f22, hi, k1⟩
      refine wpI_sound (by kernel_rfl) ?_
      by_cases hlt : i < ks.length
      · have d1 : decide ((i : Int) < ((ks.length : Nat) : Int)) = true := decide_eq_true (by omega)
        have hw : IntKind.i64.wrap (((i : Nat) : Int) + 1) = ((i + 1 : Nat) : Int) := by rw [Go.IntWalk.i64_in _ (by omega)]; omega
        have x1 := ex_ix (kk := .i64) hlt
        have hsz := szL_at hlt
        have hfl := flat_len20 (ks.take i) fun k hk => hks k (List.mem_of_mem_take hk)
        have ht1 : (ks.take (i + 1)).flatMap encB = (ks.take i).flatMap encB ++ encB ks[i] := by rw [List.take_succ_eq_append_getElem hlt, List.flatMap_append]; simp
        have hAm : ks[i] ∈ ks := List.getElem_mem hlt
        generalize ks[i] = A at x1 hsz ht1 hAm
        have hA1 := hkd A hAm
        have hA2 := hkok A hAm
        have lr := ex_lr A
        have cA := ex_cells A
        have st := ex_st A
        have ldc := ex_ldc A
        have hl0 : (mid ++ (ks.take i).flatMap encB).length = mid.length + ((ks.take i).flatMap encB).length := List.length_append
        simp only [wpA_skip, wpA_region, wpA_seq, wpA_cond, wpA_block, condI_true, seqQ_normal, goI_out, goI_ops, opsA_nil, opsA_cons, stepA_move, stepA_alloc, stepA_load, stepA_store, stepA_binOp, stepA_indexAddr, stepA_call, thenV_some, thenH_some, thenS_some, eval_tmp, put_some, put_none, aBin_lss, aLoad_eq, loadGo_row, aPlace_ptr, aPlace_at, dropC_cells, aStore_eq, storeGo_ptr, aAlloc_eq, get_push_new, set_push, Nat.reduceEqDiff, reduceCtorEq, List.map_cons, List.map_nil, Option.map_some, Nat.zero_le, List.drop_zero, if_true, if_false, lt_27, zc_27, zt_27, f0, f20, f21, f22, d1, x1, lr, cA, st, ldc]
        refine callI_pure cal105 (pEncode d A _ _ _ hA1 hA2 (Rd.imm _ _) (by omega)) ?_
        rw [List.append_assoc, ← ht1]
        simp only [wpA_region, seqQ_normal, blkQ_normal, endI_mk, andThen_normal, goI_out, goI_ops, opsA_nil, opsA_cons, stepA_move, stepA_assign, stepA_binOp, thenV_some, eval_tmp, eval_const, put_some, put_none, aBin_add, absV_int, Nat.reduceEqDiff, reduceCtorEq, if_true, if_false, f22, hw]
        exact hid_mk ⟨i + 1, ⟨rfl, f20, f21, rfl, hlt, k1.then_push _⟩, by omega⟩
      · have d1 : decide ((i : Int) < ((ks.length : Nat) : Int)) = false := decide_eq_false (by omega)
        rw [List.take_of_length_le (by omega)] at f0
        simp only [wpA_region, wpA_seq, wpA_cond, wpA_exit, wpA_ret, condI_false, seqQ_normal, seqQ_exit, blkQ_exit, endI_mk, goE, andThen_exit, goI_out, goI_ops, opsA_nil, opsA_cons, stepA_move, stepA_assign, stepA_binOp, thenV_some, eval_tmp, put_some, aBin_lss, Nat.reduceEqDiff, reduceCtorEq, if_true, if_false, f0, f21, f22, d1, retA_ret, Tryz.results105, resultsA_1]
        exact hid_mk ⟨rfl, k1⟩

/-! ### Bytes -/
theorem mayX_ok {e : Ex} (hm : mayX e = true) : okX 16 e := by
  unfold mayX at hm
  cases hc : cnt 16 64 e with
  | none => rw [hc] at hm; cases hm
  | some c => exact ⟨64, c, hc⟩
def bytX (e : Ex) : List Nat := if mayX e = true then encB e else []
def bytV (e : Ex) : V := .tuple [.imm (bytX e).length (bytesV (bytX e)), .int .i64 (if mayX e = true then 0 else 1)]
theorem bytV_clo (e : Ex) : Clo (bytV e) := Clo.tuple (CloL.cons (Clo.imm (bytesV_clo _)) (CloL.cons (Clo.int _ _) CloL.nil))
theorem mayX_sz {e : Ex} (h : mayX e = true) : szE e ≤ 64 := by
  unfold mayX at h
  rw [cnt_eq] at h
  split at h
  · rename_i hh; exact hh.2
  · cases h
set_option maxRecDepth 10000 in
theorem pBytesX (e : Ex) (hok : OkE e) (h : AHeap) (hg : KG h) : Pure Tryz.prog 53 [.agg (encE e)] h (bytV e) := by
  refine Pure.of (bytV_clo e) ?_
  refine SCalls.enterI (c := _) Tryz.func53 rfl (by kernel_rfl) (by simp) ?_
  have hc := ex_cells e
  have ldc := ex_ldc e
  have hdr : dropC (AObj.cells (encE e) 27 none) 0 = some (encE e) := by cases e; rfl
  have hld : loadGo (some (some 3)) (some (encE e)) = some (.agg (encE e)) := by cases e; rfl
  have hg1 : ∀ a, KG (h.push a) := fun a => by unfold KG; rw [push_glob]; exact hg
  simp only [wpA_region, wpA_seq, seqQ_normal, goI_out, goI_ops, opsA_nil, opsA_cons, stepA_assign, stepA_box, stepA_load, stepA_call, thenV_some, thenH_some, eval_tmp, eval_const, put_some, enterF_zero, enterF_succ, absV_int, absV_snil, aLoad_eq, aPlace_ptr, aBox_eq, get_push_new, Nat.reduceEqDiff, List.map_cons, List.map_nil, Option.map_some, if_true, if_false, lt_27, hc, hdr, hld]
  refine callI_pure cal104 (pMay e _ (hg1 _)) ?_
  unfold bytV bytX
  cases hm : mayX e
  · simp only [wpA_region, wpA_seq, wpA_cond, wpA_ret, condI_true, seqQ_normal, seqQ_ret, endI_mk, goI_out, goI_ops, opsA_nil, opsA_cons, stepA_assign, stepA_unOp, thenV_some, eval_tmp, eval_const, put_some, enterF_succ, aUn_not, absV_int, absV_snil, Nat.reduceEqDiff, if_true, if_false, Bool.not_false, retA_ret, Tryz.results53, resultsA_2]
    exact hid_mk ⟨_, Cast.tuple (CastL.cons (Cast.snil0 _) (CastL.refl _ _)), Keep.push _ _ _⟩
  · have hsz := mayX_sz hm
    simp only [wpA_skip, wpA_region, wpA_seq, wpA_cond, condI_false, seqQ_normal, goI_out, goI_ops, opsA_nil, opsA_cons, stepA_load, stepA_unOp, stepA_call, thenV_some, eval_tmp, eval_const, put_some, enterF_succ, aUn_not, absV_snil, aLoad_eq, aPlace_ptr, get_push_new, Nat.reduceEqDiff, List.map_cons, List.map_nil, if_true, if_false, Bool.not_true, lt_27, hdr, hld]
    refine callI_pure cal105 (pEncode 16 e _ .snil [] (mayX_ok hm) hok (Rd.snil _) (by simp only [List.length_nil]; omega)) ?_
    simp only [wpA_ret, seqQ_normal, endI_mk, goI_out, goI_ops, opsA_nil, opsA_cons, stepA_assign, eval_tmp, eval_const, put_some, enterF_succ, absV_int, Nat.reduceEqDiff, List.nil_append, if_true, if_false, retA_ret, Tryz.results53, resultsA_2]
    exact hid_mk ⟨_, Cast.refl _ _, Keep.push _ _ _⟩

end Go.Proofs.YtedkjhifbibpmaaGreatDoor.Pk
namespace Go.Proofs.YtedkjhifbibpmaaGreatDoor.Pk
open Go Go.Proofs Go.Proofs.YtedkjhifbibpmaaGreatDoor.Ab
set_option linter.unusedVariables false
set_option linter.unusedSimpArgs false
set_option maxRecDepth 10000
/-! ### Bytes read as an expression -/
abbrev GR := Except Nat (Ex × List Nat × Nat)
def kidsG (f : Nat → List Nat → GR) : Nat → Nat → List Nat → Except Nat (List Ex × List Nat × Nat)
  | 0, left, bs => .ok ([], bs, left)
  | m + 1, left, bs => match f left bs with
    | .error e => .error e
    | .ok (k, bs', left') => match kidsG f m left' bs' with
      | .error e => .error e
      | .ok (ks, r) => .ok (k :: ks, r)
def getX : Nat → Nat → List Nat → GR
  | 0, _, _ => .error 11
  | d + 1, left, bs =>
    if left = 0 then .error 11
    else if (dec bs 0 0).2.2 ≠ 0 then .error (dec bs 0 0).2.2
    else if (dec bs 0 0).1 < 1 ∨ 16 < (dec bs 0 0).1 then .error 5
    else if (dec bs 0 0).1 = 1 then
      if (dec (bs.drop (dec bs 0 0).2.1) 0 0).2.2 ≠ 0 then .error (dec (bs.drop (dec bs 0 0).2.1) 0 0).2.2
      else .ok (.mk 1 (unz (dec (bs.drop (dec bs 0 0).2.1) 0 0).1) [], (bs.drop (dec bs 0 0).2.1).drop (dec (bs.drop (dec bs 0 0).2.1) 0 0).2.1, left - 1)
    else match kidsG (getX d) (kidsR (dec bs 0 0).1).toNat (left - 1) (bs.drop (dec bs 0 0).2.1) with
      | .error e => .error e
      | .ok (ks, r) => .ok (.mk (dec bs 0 0).1 0 ks, r)
theorem zz_unz (n : Nat) (hn : n < 2 ^ 64) : zz (unz n) = n := by
  unfold zz unz
  split <;> split <;> omega
/-- What a number's bytes are. -/
theorem dec_ok {bs : List Nat} (hb : ∀ b ∈ bs, b < 256) (h : (dec bs 0 0).2.2 = 0) : bs = enc (dec bs 0 0).1 ++ bs.drop (dec bs 0 0).2.1 ∧ (dec bs 0 0).1 < 2 ^ 64 := by
  refine ⟨?_, dec_lt bs 0 0 (by omega) (by decide) hb⟩
  obtain ⟨h1, x, h2, h3, _⟩ := dec_enc bs 0 0 (dec bs 0 0).1 (dec bs 0 0).2.1 hb (Prod.ext rfl (Prod.ext rfl h))
  have hx : x = (dec bs 0 0).1 := by rw [h2]; simp
  rw [hx, Nat.sub_zero] at h3
  rw [← h3, List.take_append_drop]
structure Got (d left : Nat) (bs : List Nat) (e : Ex) (bs' : List Nat) (left' : Nat) : Prop where
  by_ : bs = encB e ++ bs'
  sz : left' + szE e = left
  deep : deepX d e = true
  ok : OkE e
theorem kidsG_sound {d : Nat} {f : Nat → List Nat → GR} (hf : ∀ left bs, (∀ b ∈ bs, b < 256) → ∀ e bs' left', f left bs = .ok (e, bs', left') → Got d left bs e bs' left') :
    ∀ (m left : Nat) (bs : List Nat), (∀ b ∈ bs, b < 256) → ∀ ks bs' left', kidsG f m left bs = .ok (ks, bs', left') → ks.length = m ∧ bs = ks.flatMap encB ++ bs' ∧ left' + szL ks = left ∧ (∀ k ∈ ks, deepX d k = true) ∧ ∀ k ∈ ks, OkE k
  | 0, left, bs, hb, ks, bs', left', h => by
    simp only [kidsG, Except.ok.injEq, Prod.mk.injEq] at h
    obtain ⟨rfl, rfl, rfl⟩ := h
    exact ⟨rfl, rfl, by simp [szL], by simp, by simp⟩
  | m + 1, left, bs, hb, ks, bs', left', h => by
    unfold kidsG at h
    split at h
    · cases h
    · rename_i k bs1 l1 hk
      have g := hf left bs hb k bs1 l1 hk
      have hb1 : ∀ b ∈ bs1, b < 256 := fun b hbm => hb b (by rw [g.by_]; simp [hbm])
      split at h
      · cases h
      · rename_i ks2 r hks
        obtain ⟨bs2, l2⟩ := r
        simp only [Except.ok.injEq, Prod.mk.injEq] at h
        obtain ⟨rfl, rfl, rfl⟩ := h
        obtain ⟨h1, h2, h3, h4, h5⟩ := kidsG_sound hf m l1 bs1 hb1 ks2 bs2 l2 hks
        refine ⟨by simp [h1], ?_, ?_, ?_, ?_⟩
        · rw [g.by_, h2]; simp
        · rw [szL]; have := g.sz; omega
        · intro x hx
          rcases List.mem_cons.1 hx with rfl | hx
          · exact g.deep
          · exact h4 x hx
        · intro x hx
          rcases List.mem_cons.1 hx with rfl | hx
          · exact g.ok
          · exact h5 x hx
theorem kidsR_le (o : Int) : 0 ≤ kidsR o ∧ kidsR o ≤ 3 := by unfold kidsR; split <;> (try split) <;> (try split) <;> omega
theorem getX_sound : ∀ (d left : Nat) (bs : List Nat), (∀ b ∈ bs, b < 256) → ∀ e bs' left', getX d left bs = .ok (e, bs', left') → Got d left bs e bs' left'
  | 0, left, bs, hb, e, bs', left', h => by simp [getX] at h
  | d + 1, left, bs, hb, e, bs', left', h => by
    unfold getX at h
    split at h
    · cases h
    rename_i hl
    split at h
    · cases h
    rename_i he
    split at h
    · cases h
    rename_i hr
    obtain ⟨hd, hlt⟩ := dec_ok hb (by simpa using he)
    have hb1 : ∀ b ∈ bs.drop (dec bs 0 0).2.1, b < 256 := fun b hbm => hb b (List.mem_of_mem_drop hbm)
    generalize (dec bs 0 0).1 = o at *
    generalize bs.drop (dec bs 0 0).2.1 = bs1 at *
    split at h
    · rename_i ho
      split at h
      · cases h
      rename_i he2
      obtain ⟨hd2, hlt2⟩ := dec_ok hb1 (by simpa using he2)
      simp only [Except.ok.injEq, Prod.mk.injEq] at h
      obtain ⟨rfl, rfl, rfl⟩ := h
      have hu := unz_range _ hlt2
      refine ⟨?_, by simp only [szE, szL]; omega, ?_, .mk _ _ _ (by simp) (by simp) (by omega) hu⟩
      · rw [encB_eq, if_pos rfl, zz_unz _ hlt2]
        conv => lhs; rw [hd, hd2, ho]
        simp
      · simp [deepX, fitsX, kidsN, Ex.ks]
    · rename_i ho
      split at h
      · cases h
      rename_i ks r hk
      obtain ⟨bs2, l2⟩ := r
      simp only [Except.ok.injEq, Prod.mk.injEq] at h
      obtain ⟨rfl, rfl, rfl⟩ := h
      obtain ⟨h1, h2, h3, h4, h5⟩ := kidsG_sound (getX_sound d) _ _ _ hb1 ks bs2 l2 hk
      have hkr := kidsR_le (o : Int)
      have hke := kidsR_eq (o := (o : Int)) (by omega) (by omega)
      refine ⟨?_, by rw [szE]; omega, ?_, .mk _ _ _ (by omega) h5 (by omega) (by omega)⟩
      · rw [encB_eq, if_neg (by omega)]
        conv => lhs; rw [hd, h2]
        simp
      · have hfit : fitsX (.mk (o : Int) 0 ks) = true := by
          simp only [fitsX, Bool.and_eq_true, Bool.or_eq_true, decide_eq_true_eq]
          exact ⟨⟨by omega, by omega⟩, by rw [hke]; omega, by simp⟩
        rw [deepX, hfit, Bool.true_and, List.all_eq_true]
        exact h4
theorem kidsG_comp {d : Nat} {f : Nat → List Nat → GR} (r : List Nat) : ∀ (ks : List Ex) (left : Nat), (∀ k ∈ ks, ∀ left r, szE k ≤ left → f left (encB k ++ r) = .ok (k, r, left - szE k)) → szL ks ≤ left → kidsG f ks.length left (ks.flatMap encB ++ r) = .ok (ks, r, left - szL ks)
  | [], left, _, _ => by simp [kidsG, szL]
  | k :: ks, left, hf, hl => by
    rw [szL] at hl
    rw [List.length_cons, kidsG, List.flatMap_cons, List.append_assoc, hf k (by simp) left _ (by omega)]
    simp only
    rw [kidsG_comp (d := d) r ks (left - szE k) (fun x hx => hf x (by simp [hx])) (by omega)]
    simp only [szL, Nat.sub_sub]
theorem getX_comp : ∀ (d left : Nat) (e : Ex) (r : List Nat), deepX d e = true → OkE e → szE e ≤ left → getX d left (encB e ++ r) = .ok (e, r, left - szE e)
  | 0, left, e, r, hd, _, _ => by simp [deepX] at hd
  | d + 1, left, e, r, hd, hok, hl => by
    have hkok := hok.kid
    rw [deepX, Bool.and_eq_true, List.all_eq_true] at hd
    obtain ⟨hf, hk⟩ := hd
    obtain ⟨o, n, ks⟩ := e
    obtain ⟨h1, h2, h3⟩ := fits_len hf
    have hn : -2 ^ 63 ≤ n ∧ n < 2 ^ 63 := by cases hok; assumption
    obtain ⟨o, rfl⟩ : ∃ k : Nat, o = k := ⟨o.toNat, by omega⟩
    have hke := kidsR_eq (o := (o : Int)) (by omega) (by omega)
    simp only [Ex.ks] at hk hkok
    rw [szE] at hl ⊢
    have hnn : n = 0 ∨ o = 1 := by
      simp only [fitsX, Bool.and_eq_true, Bool.or_eq_true, decide_eq_true_eq] at hf
      omega
    rw [encB_eq, Int.toNat_natCast]
    unfold getX
    rw [if_neg (by omega)]
    by_cases ho : o = 1
    · subst ho
      have hks : ks = [] := by
        have : kidsN.getD (((1 : Nat) : Int)).toNat 0 = 0 := by decide
        rw [this] at h1
        exact List.eq_nil_of_length_eq_zero (by omega)
      subst hks
      have e1 : enc 1 ++ (if (((1 : Nat) : Int)) = 1 then enc (zz n) else []) ++ ([] : List Ex).flatMap encB ++ r = enc 1 ++ (enc (zz n) ++ r) := by simp
      rw [e1, dec_app 1 (by decide)]
      simp only [List.drop_left, ne_eq, not_true, if_false]
      rw [if_neg (by omega), dec_app (zz n) (zz_lt n hn.1 hn.2)]
      simp [unz_zz, szL]
    · have hn0 : n = 0 := by omega
      subst hn0
      have e1 : enc o ++ (if ((o : Nat) : Int) = 1 then enc (zz 0) else []) ++ ks.flatMap encB ++ r = enc o ++ (ks.flatMap encB ++ r) := by rw [if_neg (by omega)]; simp
      rw [e1, dec_app o (by omega)]
      simp only [List.drop_left, ne_eq, not_true, if_false]
      rw [if_neg (by omega), if_neg ho]
      have hm : (kidsR (o : Int)).toNat = ks.length := by rw [← hke, ← h1]; simp
      rw [hm, kidsG_comp (d := d) r ks (left - 1) (fun k hkm left r hle => getX_comp d left k r (hk k hkm) (hkok k hkm) hle) (by omega)]
      simp only [Nat.sub_sub]
      rw [Nat.add_comm]
end Go.Proofs.YtedkjhifbibpmaaGreatDoor.Pk
namespace Go.Proofs.YtedkjhifbibpmaaGreatDoor.Pk
open Go Go.Proofs Go.Proofs.YtedkjhifbibpmaaGreatDoor.Ab
set_option linter.unusedVariables false
set_option linter.unusedSimpArgs false
set_option maxRecDepth 10000
theorem kidsG_err {f : Nat → List Nat → GR} (hf : ∀ l b c, f l b = .error c → c ≠ 0) : ∀ (m l : Nat) (b : List Nat) (c : Nat), kidsG f m l b = .error c → c ≠ 0
  | 0, l, b, c, h => by simp [kidsG] at h
  | m + 1, l, b, c, h => by
    unfold kidsG at h
    split at h
    · rename_i e he
      cases h
      exact hf _ _ _ he
    · split at h
      · rename_i e he
        cases h
        exact kidsG_err hf _ _ _ _ he
      · cases h
theorem getX_err : ∀ (d l : Nat) (b : List Nat) (c : Nat), getX d l b = .error c → c ≠ 0
  | 0, l, b, c, h => by simp [getX] at h; omega
  | d + 1, l, b, c, h => by
    unfold getX at h
    split at h
    · cases h; omega
    split at h
    · cases h; assumption
    split at h
    · cases h; omega
    split at h
    · split at h
      · cases h; assumption
      · cases h
    · split at h
      · rename_i e he
        cases h
        exact kidsG_err (getX_err d) _ _ _ _ he
      · cases h
def IsDec (h : AHeap) (di ri : Nat) (bs : List Nat) (begun : Nat) : Prop := di < h.n ∧ h.get di = .cells [.ptr ri 0, .int .i64 (begun : Nat)] 206 none ∧ IsRd h (.ptr ri 0) ri bs ∧ di ≠ ri
theorem IsDec.keep {h h' : AHeap} {di ri : Nat} {bs : List Nat} {begun : Nat} {own : Nat → Prop} (w : IsDec h di ri bs begun) (k : Keep h h' own) (h1 : ¬ own di) (h2 : ¬ own ri) : IsDec h' di ri bs begun :=
  ⟨Nat.lt_of_lt_of_le w.1 k.n, (k.get di w.1 h1).trans w.2.1, IsRd.keep w.2.2.1 k h2, w.2.2.2⟩
def decO (di ri : Nat) : Nat → Prop := fun q => q = di ∨ q = ri
def gotV : GR → V
  | .error c => .tuple [.agg (encE (.mk 0 0 [])), .int .i64 (c : Nat)]
  | .ok (e, _, _) => .tuple [.agg (encE e), .int .i64 0]
theorem errC (h : AHeap) (c : Nat) : Cast (.tuple [.agg [.int .i64 0, .int .i64 0, .snil], .int .i64 (c : Nat)]) h (.tuple [.agg (encE (.mk 0 0 [])), .int .i64 (c : Nat)]) h := Cast.tuple (CastL.cons (castE0 0 0 h) (CastL.refl _ _))
theorem lit1e (h : AHeap) (e : Ex) : aBuildSlice Tryz.prog 25 1 [(0, .agg (encE e))] h = some (.sl h.n 0 1 1, h.push (.cells (encE e) 27 none)) := by cases e; rw [buildSlice_go sl_25]; rfl
theorem app1E {h : AHeap} {s : V} {cs : List Ex} (o : Own h 27 3 s (cs.flatMap encE)) (hl : cs.length ≤ 2 ^ 40) (c : Ex) :
    ∃ s' h', aAppend Tryz.prog 25 25 s (.sl h.n 0 1 1) (h.push (.cells (encE c) 27 none)) = some (s', h') ∧ Own h' 27 3 s' ((cs ++ [c]).flatMap encE) ∧ Keep h h' (isId s) ∧ NewOr h s s' := by
  have kp : Keep h (h.push (.cells (encE c) 27 none)) none_ := Keep.push _ _ _
  have oj : Own (h.push (.cells (encE c) 27 none)) 27 3 (.sl h.n 0 1 1) (encE c) := Own.fresh' (encE c) 1 (encE_len c) (by decide)
  have hsrc := own_src (P := Tryz.prog) (t := 25) kt_25 oj (n := 1) (encE_len c) (by decide) (encE_one c)
  obtain ⟨s', h', ea, oa, ka, na⟩ := append_ownM (P := Tryz.prog) (t := 25) (tx := 25) sl_25 (by decide) (o.keepN kp) hsrc (encE_len c) (fun m hm => by
    change m * 3 = _ at hm
    rw [rows_len encE_len, encE_len] at hm
    exact ⟨by simp only [lim]; omega, by simp only [lim]; omega⟩)
  refine ⟨s', h', ea, ?_, (kp.up).trans' ka, ?_⟩
  · rw [List.flatMap_append]
    simpa using oa
  · rcases na with na | na
    · exact .inl na
    · exact .inr fun q hq => Nat.le_trans kp.n (na q hq)
set_option maxHeartbeats 4000000 in
set_option maxRecDepth 10000 in
theorem pNext : ∀ (d left : Nat) (bs : List Nat) (h : AHeap) (di ri : Nat), d ≤ 16 → left ≤ 64 → KG h → IsDec h di ri bs (64 - left) → (∀ b ∈ bs, b < 256) → bs.length ≤ 2 ^ 47 →
    SCalls Tryz.prog 110 [.ptr di 0, .int .i64 ((17 - d : Nat) : Int)] h (fun r h' => r = gotV (getX d left bs) ∧ Keep h h' (decO di ri) ∧ ∀ e bs' l', getX d left bs = .ok (e, bs', l') → IsDec h' di ri bs' (64 - l'))
  | 0, left, bs, h, di, ri, _, hl, hg, hd, hb, hbl => by
    refine SCalls.cast ?_
    refine SCalls.enterI (c := _) Tryz.func110 rfl (by kernel_rfl) (by simp) ?_
    have c1 : decide ((16 : Int) < ((17 - 0 : Nat) : Int)) = true := by decide
    simp only [wpA_region, wpA_seq, wpA_cond, wpA_ret, condI_true, seqQ_normal, seqQ_ret, endI_mk, goI_out, goI_ops, opsA_nil, opsA_cons, opsA_guardS, gvI_tf, slotAt_zero, slotAt_succ, stepA_move, stepA_assign, stepA_pick, stepA_alloc, stepA_build, stepA_store, stepA_binOp, thenV_some, thenH_some, thenS_some, pickV_true, eval_tmp, eval_const, put_some, put_none, enterF_zero, enterF_succ, aBin_gtr, absV_int, absV_bool, cells_agg, one_int, one_snil, all_nil, all_cons, aLoad_eq, loadGo_row, aPlace_ptr, dropC_cells, aStore_eq, storeGo_ptr, setC_row, setAll_nil, setAll_cons, aAlloc_eq, aBuild_go, aFill_nil, buildGo_struct, get_push_new, set_push, Nat.reduceEqDiff, Nat.reduceAdd, Nat.reduceSub, List.map_nil, Option.map_some, Nat.zero_add, Nat.zero_le, List.length_cons, List.length_nil, List.drop_zero, List.take_succ_cons, List.take_nil, List.set_cons_zero, List.set_cons_succ, if_true, if_false, Bool.and_self, Nat.le_refl, lt_27, pl_27, zc_27, zt_27, c1, retA_ret, Tryz.results110, resultsC_2, resultA_tmp, resultA_cell, res2_some]
    exact hid_mk ⟨_, _, errC _ 11, rfl, (Keep.push _ _ _), fun e bs' l' hh => by cases hh⟩
  | d + 1, left, bs, h, di, ri, hd16, hl, hg, hd, hb, hbl => by
    refine SCalls.cast ?_
    refine SCalls.enterI (c := _) Tryz.func110 rfl (by kernel_rfl) (by simp) ?_
    have c1 : decide ((16 : Int) < ((17 - (d + 1) : Nat) : Int)) = false := decide_eq_false (by omega)
    obtain ⟨H0, hH0⟩ : ∃ y, y = h.push (.cells [.int .i64 0, .int .i64 0, .snil] 27 none) := ⟨_, rfl⟩
    have k0 : Keep h H0 none_ := by rw [hH0]; exact Keep.push _ _ _
    have n0 : H0.n = h.n + 1 := by rw [hH0]; rfl
    have g0 : H0.get h.n = .cells [.int .i64 0, .int .i64 0, .snil] 27 none := by rw [hH0]; exact get_push_new
    have dc0 := IsDec.keep hd k0 (by simp [none_]) (by simp [none_])
    have gd0 := dc0.2.1
    have hdi := hd.1
    have hri := hd.2.2.1.2.1
    have hne := hd.2.2.2
    have gdp : (h.push (.cells [.int .i64 0, .int .i64 0, .snil] 27 none)).get di = .cells [.ptr ri 0, .int .i64 ((64 - left : Nat) : Int)] 206 none := by rw [← hH0]; exact gd0
    by_cases hl0 : left = 0
    · have c2 : (((64 - left : Nat) : Int) == 64) = true := by simp; omega
      have hG : getX (d + 1) left bs = .error 11 := by rw [getX, if_pos hl0]
      simp only [wpA_region, wpA_seq, wpA_cond, wpA_ret, condI_true, seqQ_normal, seqQ_ret, endI_mk, goI_out, goI_ops, opsA_nil, opsA_cons, opsA_guardS, gvI_same, slotAt_zero, slotAt_succ, stepA_move, stepA_assign, stepA_pick, stepA_alloc, stepA_build, stepA_load, stepA_store, stepA_nilCheck, stepA_binOp, stepA_fieldAddr, thenV_some, thenH_some, thenS_some, pickV_false, nilV_ptr, eval_tmp, eval_const, put_some, put_none, enterF_zero, enterF_succ, aBin_eql, aBin_gtr, absV_int, absV_bool, cells_agg, one_int, one_snil, all_nil, all_cons, aField_eq, fieldGo_ptr, aLoad_eq, loadGo_one, loadGo_row, aPlace_ptr, dropC_cells, aStore_eq, storeGo_ptr, setC_row, setAll_nil, setAll_cons, aAlloc_eq, aBuild_go, aFill_nil, buildGo_struct, get_push_new, set_push, Nat.reduceEqDiff, Nat.reduceAdd, Nat.reduceLeDiff, reduceCtorEq, List.map_nil, Option.map_some, Nat.zero_add, Nat.zero_le, List.length_cons, List.length_nil, List.drop_zero, List.drop_succ_cons, List.take_succ_cons, List.take_nil, List.set_cons_zero, List.set_cons_succ, if_true, if_false, Bool.and_self, Nat.le_refl, ft_206_1, lt_27, lt_3, pl_27, zc_27, zt_27, c1, gdp, c2, retA_ret, Tryz.results110, resultsC_2, resultA_tmp, resultA_cell, res2_some]
      exact hid_mk ⟨_, _, errC _ 11, by rw [hG]; rfl, (Keep.push _ _ _), fun e bs' l' hh => by rw [hG] at hh; cases hh⟩
    have c2 : (((64 - left : Nat) : Int) == 64) = false := by simp; omega
    have hw : IntKind.i64.wrap (((64 - left : Nat) : Int) + 1) = ((64 - (left - 1) : Nat) : Int) := by rw [Go.IntWalk.i64_in _ (by omega)]; omega
    obtain ⟨H1, hH1⟩ : ∃ y, y = H0.set di (.cells [.ptr ri 0, .int .i64 ((64 - (left - 1) : Nat) : Int)] 206 none) := ⟨_, rfl⟩
    have k1 : Keep H0 H1 (fun q => q = di) := by rw [hH1]; exact Keep.set _ _ _
    have n1 : H1.n = H0.n := by rw [hH1]; rfl
    have gd1 : H1.get di = .cells [.ptr ri 0, .int .i64 ((64 - (left - 1) : Nat) : Int)] 206 none := by rw [hH1]; exact get_set_same
    have g1 := (k1.get h.n (by omega) (by omega)).trans g0
    have r1 : IsRd H1 (.ptr ri 0) ri bs := IsRd.keep dc0.2.2.1 k1 (by omega)
    have kk1 : Keep h H1 (decO di ri) := (k0.up).trans k1 fun q hq hh => .inl hh
    simp only [wpA_skip, wpA_region, wpA_seq, wpA_cond, condI_false, seqQ_normal, goI_out, goI_ops, opsA_nil, opsA_cons, opsA_guardS, gvI_same, slotAt_zero, slotAt_succ, stepA_move, stepA_assign, stepA_pick, stepA_alloc, stepA_load, stepA_store, stepA_nilCheck, stepA_binOp, stepA_fieldAddr, stepA_call, thenV_some, thenH_some, thenS_some, pickV_false, nilV_ptr, eval_tmp, eval_const, put_some, put_none, enterF_zero, enterF_succ, aBin_add, aBin_eql, aBin_gtr, absV_int, absV_bool, cells_int, one_int, all_nil, all_cons, aField_eq, fieldGo_ptr, aLoad_eq, loadGo_one, aPlace_ptr, dropC_cells, aStore_eq, storeGo_ptr, setC_row, setAll_nil, setAll_cons, aAlloc_eq, get_set_same, Nat.reduceEqDiff, Nat.reduceAdd, Nat.reduceLeDiff, reduceCtorEq, List.map_cons, List.map_nil, Option.map_some, Nat.add_zero, Nat.zero_add, Nat.zero_le, List.length_cons, List.length_nil, List.drop_zero, List.drop_succ_cons, List.set_cons_zero, List.set_cons_succ, if_true, if_false, Bool.and_self, Nat.le_refl, ft_206_0, ft_206_1, lt_203, lt_3, zc_27, zt_3, c1, gdp, c2, hw]
    rw [← hH0, ← hH1]
    clear hH0 hH1
    refine callI_of cal158 (RUint (.ptr ri 0) ri bs H1 r1 hb (by omega)) fun r h2 ⟨e2, r2, k2⟩ => ?_
    subst e2
    have n2 := k2.n
    have gd2 := (k2.get di (by omega) (by omega)).trans gd1
    have g2 := (k2.get h.n (by omega) (by omega)).trans g1
    have kk2 : Keep h h2 (decO di ri) := kk1.trans k2 fun q hq hh => .inr hh
    by_cases herr : (dec bs 0 0).2.2 = 0
    rotate_left
    · have c3 : ((((dec bs 0 0).2.2 : Nat) : Int) != 0) = true := by simp; omega
      have hG : getX (d + 1) left bs = .error (dec bs 0 0).2.2 := by rw [getX, if_neg hl0, if_pos herr]
      simp only [wpA_region, wpA_seq, wpA_cond, wpA_ret, condI_true, seqQ_normal, seqQ_ret, endI_mk, goI_out, goI_ops, opsA_nil, opsA_cons, stepA_move, stepA_assign, stepA_build, stepA_store, stepA_binOp, stepA_extract, thenV_some, thenS_some, extV_zero, extV_succ, eval_tmp, eval_const, put_some, put_none, enterF_succ, aBin_neq, absV_int, cells_agg, one_int, one_snil, all_nil, all_cons, aLoad_eq, loadGo_row, aPlace_ptr, dropC_cells, aStore_eq, storeGo_ptr, setC_row, setAll_nil, setAll_cons, aBuild_go, aFill_nil, buildGo_struct, get_set_same, Nat.reduceEqDiff, Nat.reduceAdd, List.map_nil, Option.map_some, Nat.zero_add, Nat.zero_le, List.length_cons, List.length_nil, List.drop_zero, List.take_succ_cons, List.take_nil, List.set_cons_zero, List.set_cons_succ, if_true, if_false, Bool.and_self, Nat.le_refl, lt_27, pl_27, zc_27, zt_27, c3, g2, retA_ret, Tryz.results110, resultsC_2, resultA_tmp, resultA_cell, res2_some]
      exact hid_mk ⟨_, _, errC _ _, by rw [hG]; rfl, kk2.trans (Keep.set _ h.n _) fun q hq hh => by omega, fun e bs' l' hh => by rw [hG] at hh; cases hh⟩
    have c3 : ((((dec bs 0 0).2.2 : Nat) : Int) != 0) = false := by simp; omega
    obtain ⟨hdk, hklt⟩ := dec_ok hb herr
    have hG0 : getX (d + 1) left bs = (if (dec bs 0 0).1 < 1 ∨ 16 < (dec bs 0 0).1 then .error 5
      else if (dec bs 0 0).1 = 1 then
        if (dec (bs.drop (dec bs 0 0).2.1) 0 0).2.2 ≠ 0 then .error (dec (bs.drop (dec bs 0 0).2.1) 0 0).2.2
        else .ok (.mk 1 (unz (dec (bs.drop (dec bs 0 0).2.1) 0 0).1) [], (bs.drop (dec bs 0 0).2.1).drop (dec (bs.drop (dec bs 0 0).2.1) 0 0).2.1, left - 1)
      else match kidsG (getX d) (kidsR (dec bs 0 0).1).toNat (left - 1) (bs.drop (dec bs 0 0).2.1) with
        | .error e => .error e
        | .ok (ks, r) => .ok (.mk (dec bs 0 0).1 0 ks, r)) := by
      conv => lhs; unfold getX
      rw [if_neg hl0, if_neg (by simpa using herr)]
      all_goals rfl
    have hb1 : ∀ y ∈ bs.drop (dec bs 0 0).2.1, y < 256 := fun y hy => hb y (List.mem_of_mem_drop hy)
    have hl1 : (bs.drop (dec bs 0 0).2.1).length ≤ 2 ^ 47 := by rw [List.length_drop]; omega
    simp only [wpA_skip, wpA_region, wpA_seq, wpA_cond, condI_false, seqQ_normal, goI_out, goI_ops, opsA_nil, opsA_cons, opsA_guardS, slotAt_zero, slotAt_succ, stepA_move, stepA_assign, stepA_binOp, stepA_extract, thenV_some, extV_zero, extV_succ, eval_tmp, eval_const, put_some, put_none, enterF_succ, aBin_neq, aBin_lss, absV_int, Nat.reduceEqDiff, if_true, if_false, c3]
    clear c3 herr hdk
    generalize bs.drop (dec bs 0 0).2.1 = bs1 at *
    generalize (dec bs 0 0).1 = k at *
    by_cases hk1 : k < 1
    · have c4 : decide ((k : Int) < 1) = true := decide_eq_true (by omega)
      have hG : getX (d + 1) left bs = .error 5 := by rw [hG0, if_pos (.inl hk1)]
      simp only [wpA_region, wpA_seq, wpA_cond, wpA_ret, condI_true, seqQ_normal, seqQ_ret, endI_mk, goI_out, goI_ops, opsA_nil, opsA_cons, opsA_guardS, gvI_tf, slotAt_zero, slotAt_succ, stepA_assign, stepA_pick, stepA_build, stepA_store, thenV_some, thenS_some, pickV_true, eval_tmp, eval_const, put_some, put_none, enterF_succ, absV_int, absV_bool, cells_agg, one_int, one_snil, all_nil, all_cons, aLoad_eq, loadGo_row, aPlace_ptr, dropC_cells, aStore_eq, storeGo_ptr, setC_row, setAll_nil, setAll_cons, aBuild_go, aFill_nil, buildGo_struct, get_set_same, Nat.reduceEqDiff, Nat.reduceAdd, List.map_nil, Option.map_some, Nat.zero_add, Nat.zero_le, List.length_cons, List.length_nil, List.drop_zero, List.take_succ_cons, List.take_nil, List.set_cons_zero, List.set_cons_succ, if_true, if_false, Bool.and_self, Nat.le_refl, lt_27, pl_27, zc_27, zt_27, c4, g2, retA_ret, Tryz.results110, resultsC_2, resultA_tmp, resultA_cell, res2_some]
      exact hid_mk ⟨_, _, errC _ 5, by rw [hG]; rfl, kk2.trans (Keep.set _ h.n _) fun q hq hh => by omega, fun e bs' l' hh => by rw [hG] at hh; cases hh⟩
    have c4 : decide ((k : Int) < 1) = false := decide_eq_false (by omega)
    by_cases hk2 : 16 < k
    · have c5 : decide ((16 : Int) < (k : Int)) = true := decide_eq_true (by omega)
      have hG : getX (d + 1) left bs = .error 5 := by rw [hG0, if_pos (.inr hk2)]
      simp only [wpA_region, wpA_seq, wpA_cond, wpA_ret, condI_true, seqQ_normal, seqQ_ret, endI_mk, goI_out, goI_ops, opsA_nil, opsA_cons, opsA_guardS, gvI_same, slotAt_zero, slotAt_succ, stepA_move, stepA_assign, stepA_pick, stepA_build, stepA_store, stepA_binOp, thenV_some, thenS_some, pickV_false, eval_tmp, eval_const, put_some, put_none, enterF_succ, aBin_gtr, absV_int, absV_bool, cells_agg, one_int, one_snil, all_nil, all_cons, aLoad_eq, loadGo_row, aPlace_ptr, dropC_cells, aStore_eq, storeGo_ptr, setC_row, setAll_nil, setAll_cons, aBuild_go, aFill_nil, buildGo_struct, get_set_same, Nat.reduceEqDiff, Nat.reduceAdd, List.map_nil, Option.map_some, Nat.zero_add, Nat.zero_le, List.length_cons, List.length_nil, List.drop_zero, List.take_succ_cons, List.take_nil, List.set_cons_zero, List.set_cons_succ, if_true, if_false, Bool.and_self, Nat.le_refl, lt_27, pl_27, zc_27, zt_27, c4, c5, g2, retA_ret, Tryz.results110, resultsC_2, resultA_tmp, resultA_cell, res2_some]
      exact hid_mk ⟨_, _, errC _ 5, by rw [hG]; rfl, kk2.trans (Keep.set _ h.n _) fun q hq hh => by omega, fun e bs' l' hh => by rw [hG] at hh; cases hh⟩
    have c5 : decide ((16 : Int) < (k : Int)) = false := decide_eq_false (by omega)
    rw [if_neg (by omega)] at hG0
    have wk : IntKind.i64.wrap (k : Int) = (k : Int) := Go.IntWalk.i64_in _ (by omega)
    have st1 : setC (some 3) (AObj.cells [V.int .i64 0, V.int .i64 0, V.snil] 27 none) 0 [V.int .i64 (k : Int), V.int .i64 0, V.snil] = some (.cells [V.int .i64 (k : Int), V.int .i64 0, V.snil] 27 none) := rfl
    obtain ⟨b8, hb8e⟩ : ∃ y, y = h2.n := ⟨_, rfl⟩
    have hb8g : h.n < b8 := by omega
    obtain ⟨H3, hH3⟩ : ∃ y, y = h2.push (.cells [V.int .i64 (k : Int), V.int .i64 0, V.snil] 27 none) := ⟨_, rfl⟩
    have k3 : Keep h2 H3 none_ := by rw [hH3]; exact Keep.push _ _ _
    have n3 : H3.n = h2.n + 1 := by rw [hH3]; rfl
    have g38 : H3.get b8 = .cells [V.int .i64 (k : Int), V.int .i64 0, V.snil] 27 none := by rw [hH3, hb8e]; exact get_push_new
    have g34 := (k3.get h.n (by omega) (by simp [none_])).trans g2
    have gd3 := (k3.get di (by omega) (by simp [none_])).trans gd2
    have r3 : IsRd H3 (.ptr ri 0) ri bs1 := IsRd.keep r2 k3 (by simp [none_])
    have kk3 : Keep h H3 (decO di ri) := kk2.trans' k3.up
    have hkk : k < 17 := by omega
    have hix : (if (0 : Int) ≤ (k : Int) ∧ (k : Int) < ((17 : Nat) : Int) ∧ ((k : Int).toNat * 1) ≤ kidsC.length then some (V.at (kidsC.drop ((k : Int).toNat * 1))) else none) = some (.at (.int .i64 (kidsN.getD k 0) :: kidsC.drop (k + 1))) := by
      rw [if_pos ⟨by omega, by omega, by simp [kidsC, kidsN]; omega⟩]
      have : kidsC.drop ((k : Int).toNat * 1) = .int .i64 (kidsN.getD k 0) :: kidsC.drop (k + 1) := by
        rw [Int.toNat_natCast, Nat.mul_one, List.drop_eq_getElem_cons (by simp [kidsC, kidsN]; omega)]
        simp [kidsC, List.getD, List.getElem?_eq_getElem (show k < kidsN.length by simp [kidsN]; omega)]
      rw [this]
    have hke := kidsR_eq (o := (k : Int)) (by omega) (by omega)
    rw [Int.toNat_natCast] at hke
    simp only [wpA_skip, wpA_region, wpA_seq, wpA_cond, condI_false, seqQ_normal, goI_out, goI_ops, opsA_nil, opsA_cons, opsA_guardS, gvI_same, slotAt_zero, slotAt_succ, stepA_move, stepA_pick, stepA_alloc, stepA_build, stepA_load, stepA_store, stepA_binOp, stepA_convert, stepA_fieldAddr, thenV_some, thenC_some, thenH_some, thenS_some, pickV_false, eval_tmp, eval_const, put_some, put_none, enterF_succ, aBin_eql, aBin_gtr, absV_int, absV_bool, cells_int, cells_agg, aField_eq, fieldGo_ptr, aLoad_eq, loadGo_one, aPlace_ptr, dropC_cells, aStore_eq, storeGo_ptr, setAll_nil, setAll_cons, aAlloc_eq, aBuild_go, aFill_nil, aFill_cons, fillGo_some, buildGo_struct, get_push_new, set_push, List.getElem?_cons_zero, Nat.reduceEqDiff, Nat.reduceAdd, Nat.reduceLeDiff, List.map_cons, List.map_nil, Option.map_some, Nat.add_zero, Nat.zero_add, Nat.zero_le, List.length_cons, List.length_nil, List.drop_zero, List.set_cons_zero, and_self, if_true, if_false, ft_27_0, lt_3, pl_27, zc_27, zt_27, c4, c5, aConv_int it_221 it_3, wk, st1]
    rw [← hb8e, ← hH3]
    clear hH3
    by_cases hk3 : k = 1
    · have c6 : ((k : Int) == 1) = true := by simp; omega
      simp only [wpA_region, wpA_seq, condI_true, goI_ops, opsA_cons, stepA_move, stepA_load, stepA_nilCheck, stepA_fieldAddr, stepA_call, thenV_some, nilV_ptr, eval_tmp, put_some, put_none, enterF_zero, enterF_succ, aField_eq, fieldGo_ptr, aLoad_eq, loadGo_one, aPlace_ptr, dropC_cells, Nat.reduceEqDiff, Nat.reduceAdd, reduceCtorEq, List.map_cons, List.map_nil, Nat.add_zero, Nat.zero_add, Nat.zero_le, List.length_cons, List.length_nil, List.drop_zero, if_true, if_false, ft_206_0, lt_203, c6, gd3]
      refine callI_of cal159 (RInt (.ptr ri 0) ri bs1 H3 r3 hb1 (by omega)) fun r h4 ⟨e4, r4, k4⟩ => ?_
      subst e4
      have n4 := k4.n
      have g48 := (k4.get b8 (by omega) (by omega)).trans g38
      have g44 := (k4.get h.n (by omega) (by omega)).trans g34
      have gd4 := (k4.get di (by omega) (by omega)).trans gd3
      have kk4 : Keep h h4 (decO di ri) := kk3.trans k4 fun q hq hh => .inr hh
      have kH4 : Keep H3 h4 (fun q => q = ri) := k4
      obtain ⟨H5, hH5⟩ : ∃ y, y = h4.set b8 (.cells [V.int .i64 (k : Int), V.int .i64 (unz (dec bs1 0 0).1), V.snil] 27 none) := ⟨_, rfl⟩
      have k5 : Keep h4 H5 (fun q => q = b8) := by rw [hH5]; exact Keep.set _ _ _
      have n5 : H5.n = h4.n := by rw [hH5]; rfl
      have g58 : H5.get b8 = .cells [V.int .i64 (k : Int), V.int .i64 (unz (dec bs1 0 0).1), V.snil] 27 none := by rw [hH5]; exact get_set_same
      have g54 := (k5.get h.n (by omega) (by omega)).trans g44
      have gd5 := (k5.get di (by omega) (by omega)).trans gd4
      have r5 : IsRd H5 (.ptr ri 0) ri _ := IsRd.keep r4 k5 (by omega)
      have kk5 : Keep h H5 (decO di ri) := kk4.trans k5 fun q hq hh => by omega
      simp only [nne2, nne3, nne4, nne1', nne2', nne3', wpA_region, wpA_seq, wpA_cond, seqQ_normal, goI_out, goI_ops, opsA_nil, opsA_cons, stepA_move, stepA_assign, stepA_store, stepA_binOp, stepA_fieldAddr, stepA_extract, thenV_some, thenS_some, extV_zero, extV_succ, eval_tmp, eval_const, put_some, put_none, enterF_succ, aBin_neq, absV_int, cells_int, one_int, all_nil, all_cons, aField_eq, fieldGo_ptr, aStore_eq, storeGo_ptr, setC_row, setAll_nil, setAll_cons, Nat.reduceEqDiff, Nat.reduceAdd, Nat.reduceLeDiff, Option.map_some, Nat.zero_add, List.length_cons, List.length_nil, List.set_cons_zero, List.set_cons_succ, if_true, if_false, Bool.and_self, ft_27_1, zt_2, g48]
      rw [← hH5]
      clear hH5
      by_cases herr2 : (dec bs1 0 0).2.2 = 0
      rotate_left
      · have c7 : ((((dec bs1 0 0).2.2 : Nat) : Int) != 0) = true := by simp; omega
        have hG : getX (d + 1) left bs = .error (dec bs1 0 0).2.2 := by rw [hG0, if_pos hk3, if_pos herr2]
        simp only [wpA_region, wpA_seq, wpA_ret, condI_true, seqQ_normal, seqQ_ret, endI_mk, goI_out, goI_ops, opsA_nil, opsA_cons, stepA_move, stepA_assign, stepA_build, stepA_store, thenV_some, thenS_some, eval_tmp, put_some, put_none, enterF_succ, cells_agg, one_int, one_snil, all_nil, all_cons, aLoad_eq, loadGo_row, aPlace_ptr, dropC_cells, aStore_eq, storeGo_ptr, setC_row, setAll_nil, setAll_cons, aBuild_go, aFill_nil, buildGo_struct, get_set_same, Nat.reduceEqDiff, Nat.reduceAdd, List.map_nil, Option.map_some, Nat.zero_add, Nat.zero_le, List.length_cons, List.length_nil, List.drop_zero, List.take_succ_cons, List.take_nil, List.set_cons_zero, List.set_cons_succ, if_true, if_false, Bool.and_self, Nat.le_refl, lt_27, pl_27, zc_27, zt_27, c7, g54, retA_ret, Tryz.results110, resultsC_2, resultA_tmp, resultA_cell, res2_some]
        exact hid_mk ⟨_, _, errC _ _, by rw [hG]; rfl, kk5.trans (Keep.set _ h.n _) fun q hq hh => by omega, fun e bs' l' hh => by rw [hG] at hh; cases hh⟩
      have c7 : ((((dec bs1 0 0).2.2 : Nat) : Int) != 0) = false := by simp; omega
      have hkl := (dec_ok hb1 herr2).2
      have hb2 : ∀ y ∈ bs1.drop (dec bs1 0 0).2.1, y < 256 := fun y hy => hb1 y (List.mem_of_mem_drop hy)
      have hl2 : (bs1.drop (dec bs1 0 0).2.1).length ≤ 2 ^ 47 := by rw [List.length_drop]; omega
      rw [if_pos hk3, if_neg (by simpa using herr2)] at hG0
      generalize bs1.drop (dec bs1 0 0).2.1 = bs2 at *
      generalize unz (dec bs1 0 0).1 = n at *
      have hmz : kidsR (k : Int) = 0 := by rw [hk3]; decide
      obtain ⟨m, hm⟩ : ∃ m : Nat, m = (kidsR (k : Int)).toNat := ⟨_, rfl⟩
      have hm0 : m = 0 := by rw [hm, hmz]; rfl
      have hG : getX (d + 1) left bs = (match kidsG (getX d) m (left - 1) bs2 with | .error e => .error e | .ok (ks, r) => .ok (.mk (k : Int) n ks, r)) := by rw [hG0, hm0, hk3, kidsG]; rfl
      have hK0 : kidsN.getD k 0 = ((m : Nat) : Int) := by rw [hke, hmz, hm0]; rfl
      have dc5 : IsDec H5 di ri bs2 (64 - (left - 1)) := ⟨by omega, gd5, r5, hne⟩
      have hgl5 : ∀ (f : AFrame), AFrame.eval f H5 (.global 1) = .at kidsC := fun f => eval_glob (hg.keep kk5)
      have g5d := g58
      have hb8n : b8 < H5.n := by omega
      simp only [wpA_skip, wpA_region, wpA_seq, condI_false, seqQ_normal, goI_ops, opsA_cons, stepA_load, stepA_fieldAddr, thenV_some, eval_tmp, put_some, put_none, enterF_succ, aField_eq, fieldGo_ptr, aLoad_eq, aPlace_ptr, Nat.reduceEqDiff, Nat.add_zero, if_true, if_false, ft_27_0, lt_3, c7]
      have hm3 := kidsR_le (k : Int)
      simp only [wpA_block, wpA_loop, seqQ_normal, goI_out, goI_ops, opsA_nil, opsA_cons, stepA_move, stepA_load, stepA_indexAddr, thenV_some, eval_tmp, eval_const, put_some, put_none, enterF_succ, absV_int, aLoad_eq, loadGo_one, aPlace_at, dropC_cells, aIndexAddr_eq, ixGo_at, Nat.reduceEqDiff, Nat.reduceAdd, Nat.zero_add, Nat.zero_le, List.length_cons, List.length_nil, List.drop_zero, if_true, if_false, as_283, lt_3, ss_283, g5d, hgl5, hix, hK0]
      refine SWp.loopG (α := Nat × V × List Ex × List Nat × Nat) (fun x f h' => f 0 = .ptr di 0 ∧ f 1 = .int .i64 ((17 - (d + 1) : Nat) : Int) ∧ f 4 = .ptr h.n 0 ∧ f 8 = .ptr b8 0 ∧ f 69 = .int .i64 (m : Nat) ∧ f 70 = .int .i64 (x.1 : Nat) ∧ x.1 ≤ m ∧ h'.get h.n = .cells [.int .i64 0, .int .i64 0, .snil] 27 none ∧ h'.get b8 = .cells [.int .i64 (k : Int), .int .i64 n, x.2.1] 27 none ∧
          Own h' 27 3 x.2.1 (x.2.2.1.flatMap encE) ∧ (∀ j, idOf x.2.1 = some j → h.n ≤ j ∧ j ≠ h.n ∧ j ≠ b8) ∧ x.2.2.1.length = x.1 ∧ IsDec h' di ri x.2.2.2.1 (64 - x.2.2.2.2) ∧ x.2.2.2.2 ≤ 64 ∧ (∀ y ∈ x.2.2.2.1, y < 256) ∧ x.2.2.2.1.length ≤ 2 ^ 47 ∧ Keep h h' (decO di ri) ∧ b8 < h'.n ∧
          kidsG (getX d) m (left - 1) bs2 = (match kidsG (getX d) (m - x.1) x.2.2.2.2 x.2.2.2.1 with | .error e => .error e | .ok (ks, r) => .ok (x.2.2.1 ++ ks, r))) (fun x => m - x.1) (0, .snil, [], bs2, left - 1)
        ⟨rfl, rfl, rfl, rfl, rfl, rfl, Nat.zero_le _, g54, g58, Own.snil _ _ _, by simp [idOf], rfl, dc5, by simp only; omega, hb2, hl2, kk5, hb8n, by simp only [Nat.sub_zero]; cases kidsG (getX d) m (left - 1) bs2 <;> rfl⟩ ?_
      rintro ⟨i, s, acc, b, l⟩ f h6 ⟨f0, f1, f4, f8, f69, f70, hi, g4, g8, os, ids, hal, dc, hl64, hby, hbl, kk, hb8, hKG⟩
      simp only at f70 hi g8 os ids hal dc hl64 hby hbl hKG
      refine wpI_sound (by kernel_rfl) ?_
      by_cases him : i < m
      · have e1 : decide ((i : Int) < ((m : Nat) : Int)) = true := decide_eq_true (by omega)
        have hwi : IntKind.i64.wrap ((i : Int) + 1) = ((i + 1 : Nat) : Int) := by rw [Go.IntWalk.i64_in _ (by omega)]; omega
        have hwl : IntKind.i64.wrap (((17 - (d + 1) : Nat) : Int) + 1) = ((17 - d : Nat) : Int) := by rw [Go.IntWalk.i64_in _ (by omega)]; omega
        obtain ⟨mi, hmi⟩ : ∃ mi, m - i = mi + 1 := ⟨m - i - 1, by omega⟩
        rw [hmi, kidsG] at hKG
        simp only [wpA_skip, wpA_region, wpA_seq, wpA_cond, wpA_block, condI_true, seqQ_normal, goI_out, goI_ops, opsA_nil, opsA_cons, stepA_move, stepA_binOp, stepA_call, thenV_some, eval_tmp, eval_const, put_some, aBin_add, aBin_lss, absV_int, Nat.reduceEqDiff, reduceCtorEq, List.map_cons, List.map_nil, if_true, if_false, f0, f1, f69, f70, e1, hwl]
        refine callI_of cal110 (pNext d l b h6 di ri (by omega) hl64 (hg.keep kk) dc hby hbl) fun r h7 ⟨e7, k7, d7⟩ => ?_
        subst e7
        have hdi := dc.1
        have hri := dc.2.2.1.2.1
        have h4di : di < h.n := hd.1
        have h4ri : ri < h.n := hd.2.2.1.2.1
        have b8ge : h.n < b8 := hb8g
        have g47 := (k7.get h.n (by omega) (by rintro (hh | hh) <;> omega)).trans g4
        have g87 := (k7.get b8 hb8 (by rintro (hh | hh) <;> omega)).trans g8
        have os7 := os.keep k7 fun j hj hh => by
          have := (ids j hj).1
          rcases hh with hh | hh <;> omega
        have kk7 : Keep h h7 (decO di ri) := kk.trans' k7
        have n7 := k7.n
        cases hgx : getX d l b with
        | error c =>
          rw [hgx] at hKG
          have hc0 := getX_err d l b c hgx
          have c1 : (((c : Nat) : Int) != 0) = true := by simp; omega
          rw [hgx] at d7
          simp only at hKG
          have hG2 : getX (d + 1) left bs = .error c := by rw [hG, hKG]
          simp only [gotV]
          have cA := ex_cells (.mk 0 0 [])
          have stA := ex_st (.mk 0 0 [])
          have kZ : Keep h7 (h7.push (.cells (encE (.mk 0 0 [])) 27 none)) none_ := Keep.push _ _ _
          have g4Z := (kZ.get h.n (by omega) (by simp [none_])).trans g47
          simp only [wpA_region, wpA_seq, wpA_cond, wpA_ret, condI_true, seqQ_normal, seqQ_ret, blkQ_ret, endI_mk, goE, andThen_ret, goI_out, goI_ops, opsA_nil, opsA_cons, stepA_move, stepA_assign, stepA_alloc, stepA_build, stepA_store, stepA_binOp, stepA_extract, thenV_some, thenH_some, thenS_some, extV_zero, extV_succ, eval_tmp, eval_const, put_some, put_none, aBin_neq, absV_int, cells_agg, one_int, one_snil, all_nil, all_cons, aLoad_eq, loadGo_row, aPlace_ptr, dropC_cells, aStore_eq, storeGo_ptr, setC_row, setAll_nil, setAll_cons, aAlloc_eq, aBuild_go, aFill_nil, buildGo_struct, get_push_new, get_set_same, set_push, Nat.reduceEqDiff, Nat.reduceAdd, List.map_nil, Option.map_some, Nat.zero_add, Nat.zero_le, List.length_cons, List.length_nil, List.drop_zero, List.take_succ_cons, List.take_nil, List.set_cons_zero, List.set_cons_succ, if_true, if_false, Bool.and_self, Nat.le_refl, lt_27, pl_27, zc_27, zt_27, f4, cA, stA, c1, g4Z, retA_ret, Tryz.results110, resultsC_2, resultA_tmp, resultA_cell, res2_some]
          refine hid_mk ⟨_, _, errC _ c, by rw [hG2]; rfl, ?_, fun e bs' l' hh => by rw [hG2] at hh; cases hh⟩
          exact ((kk7.trans' kZ.up).trans (Keep.set _ h.n _) fun q hq hh => by omega)
        | ok r =>
          obtain ⟨A, b', l'⟩ := r
          rw [hgx] at hKG
          simp only at hKG
          have gt := getX_sound d l b hby A b' l' hgx
          have dc7 := d7 A b' l' hgx
          have hby' : ∀ y ∈ b', y < 256 := fun y hy => hby y (by rw [gt.by_]; simp [hy])
          have hbl' : b'.length ≤ b.length := by rw [gt.by_]; simp
          have hsz := gt.sz
          simp only [gotV]
          have cA := ex_cells A
          have stA := ex_st A
          have ldA := ex_ldc A
          obtain ⟨H8, hH8⟩ : ∃ y, y = h7.push (.cells (encE A) 27 none) := ⟨_, rfl⟩
          have k8 : Keep h7 H8 none_ := by rw [hH8]; exact Keep.push _ _ _
          have n8 : H8.n = h7.n + 1 := by rw [hH8]; rfl
          have g9 : H8.get h7.n = .cells (encE A) 27 none := by rw [hH8]; exact get_push_new
          have g88 := (k8.get b8 (by omega) (by simp [none_])).trans g87
          have g48 := (k8.get h.n (by omega) (by simp [none_])).trans g47
          have dA : dropC (AObj.cells (encE A) 27 none) 0 = some (encE A) := by cases A; rfl
          have lA : loadGo (some (some 3)) (some (encE A)) = some (.agg (encE A)) := by cases A; rfl
          obtain ⟨s', h9, ea, o9, k9, n9⟩ := app1E (os7.keepN k8) (by omega) A
          have hlit := lit1e H8 A
          have hsj : ∀ j, idOf s = some j → j < h6.n := fun j hj => os.lt j hj
          have g89 := (k9.get b8 (by omega) (fun hh => (ids b8 hh).2.2 rfl)).trans g88
          have g49 := (k9.get h.n (by omega) (fun hh => (ids h.n hh).2.1 rfl)).trans g48
          have one_s : s'.one = true := by
            rcases o9 with ⟨rfl | rfl, _⟩ | ⟨_, _, _, _, _, rfl, _⟩ <;> rfl
          have cell_s : s'.cells = some [s'] := by
            rcases o9 with ⟨rfl | rfl, _⟩ | ⟨_, _, _, _, _, rfl, _⟩ <;> rfl
          have hset : setC (some 1) (AObj.cells [V.int .i64 (k : Int), V.int .i64 n, s] 27 none) 2 [s'] = some (.cells [.int .i64 (k : Int), .int .i64 n, s'] 27 none) := by rw [setC_one one_s]; rfl
          have z0 : ((0 : Int) != 0) = false := rfl
          simp only [wpA_skip, wpA_region, wpA_seq, wpA_cond, condI_false, seqQ_normal, goI_out, goI_ops, opsA_nil, opsA_cons, stepA_move, stepA_assign, stepA_alloc, stepA_load, stepA_store, stepA_binOp, stepA_fieldAddr, stepA_extract, thenV_some, thenH_some, thenS_some, extV_zero, extV_succ, eval_tmp, eval_const, put_some, put_none, aBin_neq, absV_int, aField_eq, fieldGo_ptr, aLoad_eq, aPlace_ptr, aStore_eq, storeGo_ptr, aAlloc_eq, get_push_new, set_push, bne_self_eq_false, Nat.reduceEqDiff, Option.map_some, Nat.zero_add, if_true, if_false, ft_27_2, lt_25, zc_27, zt_27, f8, cA, stA]
          rw [← hH8]
          clear hH8
          simp only [wpA_region, seqQ_normal, blkQ_normal, endI_mk, andThen_normal, goI_out, goI_ops, opsA_nil, opsA_cons, stepA_move, stepA_buildSlice, stepA_load, stepA_store, stepA_binOp, stepA_fieldAddr, stepA_append, thenV_some, thenH_some, thenS_some, eval_tmp, eval_const, put_some, put_none, aBin_add, absV_int, aField_eq, fieldGo_ptr, aLoad_eq, loadGo_one, aPlace_ptr, dropC_cells, aStore_eq, storeGo_ptr, Nat.reduceEqDiff, Nat.reduceAdd, Nat.reduceLeDiff, List.map_cons, List.map_nil, Option.map_some, Nat.zero_add, List.length_cons, List.length_nil, List.drop_zero, List.drop_succ_cons, if_true, if_false, ft_27_2, lt_27, zt_25, f8, f70, g88, g9, dA, lA, hlit, ea, g89, cell_s, hset, hwi]
          have kS : Keep h9 (h9.set b8 (.cells [V.int .i64 (k : Int), V.int .i64 n, s'] 27 none)) (fun q => q = b8) := Keep.set _ _ _
          have ids' : ∀ j, idOf s' = some j → h.n ≤ j ∧ j ≠ h.n ∧ j ≠ b8 := fun j hj => by
            rcases n9 with n9 | n9
            · exact ids j (by rw [← n9]; exact hj)
            · have := n9 j hj; omega
          have kk9 : Keep h h9 (decO di ri) := (kk7.trans' k8.up).trans k9 fun q hq hh => by have := (ids q hh).1; omega
          have dc9 : IsDec h9 di ri b' (64 - l') := IsDec.keep dc7 (k8.up.trans' k9) (fun hh => by have := (ids di hh).1; omega) (fun hh => by have := (ids ri hh).1; omega)
          have n9' := k9.n
          refine hid_mk ⟨(i + 1, s', acc ++ [A], b', l'), ⟨f0, f1, f4, f8, f69, rfl, him, (get_set_ne (by omega)).trans g49, get_set_same, o9.keep kS (fun j hj hh => (ids' j hj).2.2 hh), ids', by simp [hal], IsDec.keep dc9 kS (by omega) (by omega), by simp only; omega, hby', by simp only; omega, kk9.trans kS fun q hq hh => by omega, by rw [set_n]; omega, ?_⟩, by simp only; omega⟩
          rw [hKG, show m - (i + 1) = mi by omega]
          cases kidsG (getX d) mi l' b' with
          | error e => rfl
          | ok r => obtain ⟨ks, r⟩ := r; simp
      · have e1 : decide ((i : Int) < ((m : Nat) : Int)) = false := decide_eq_false (by omega)
        rw [show m - i = 0 by omega, kidsG] at hKG
        simp only [List.append_nil] at hKG
        have hG2 : getX (d + 1) left bs = .ok (.mk k n acc, b, l) := by rw [hG, hKG]
        have one_s : s.one = true := by
          rcases os with ⟨rfl | rfl, _⟩ | ⟨_, _, _, _, _, rfl, _⟩ <;> rfl
        have stF : setC (some 3) (AObj.cells [V.int .i64 0, V.int .i64 0, V.snil] 27 none) 0 [.int .i64 (k : Int), .int .i64 n, s] = some (.cells [.int .i64 (k : Int), .int .i64 n, s] 27 none) := by
          exact (setC_row (n := 3) (vs := [V.int .i64 (k : Int), V.int .i64 n, s]) rfl (by simp only [all_cons, all_nil, one_int, one_s, Bool.and_self])).trans rfl
        have kS : Keep h6 (h6.set h.n (.cells [V.int .i64 (k : Int), V.int .i64 n, s] 27 none)) (fun q => q = h.n) := Keep.set _ _ _
        have os2 := os.keep kS fun j hj hh => (ids j hj).2.1 hh
        obtain ⟨h9, c9, k9⟩ := castE (k : Int) n os2
        simp only [wpA_region, wpA_seq, wpA_cond, wpA_exit, wpA_ret, condI_false, seqQ_normal, seqQ_exit, blkQ_exit, endI_mk, goE, andThen_exit, goI_out, goI_ops, opsA_nil, opsA_cons, stepA_assign, stepA_load, stepA_store, stepA_binOp, thenV_some, thenS_some, eval_tmp, eval_const, put_some, put_none, aBin_lss, absV_int, cells_agg, aLoad_eq, loadGo_row, aPlace_ptr, dropC_cells, aStore_eq, storeGo_ptr, get_set_same, Nat.reduceEqDiff, Nat.reduceAdd, Option.map_some, Nat.zero_add, Nat.zero_le, List.length_cons, List.length_nil, List.drop_zero, List.take_succ_cons, List.take_nil, if_true, if_false, Nat.le_refl, lt_27, zt_27, f4, f8, f69, f70, e1, g8, g4, stF, retA_ret, Tryz.results110, resultsC_2, resultA_tmp, resultA_cell, res2_some]
        have h4di : di < h.n := hd.1
        have h4ri : ri < h.n := hd.2.2.1.2.1
        refine hid_mk ⟨_, h9, Cast.tuple (CastL.cons c9 (CastL.refl _ _)), by rw [hG2]; rfl, (kk.trans kS fun q hq hh => by omega).trans k9 fun q hq hh => by have := (ids q hh).1; omega, fun e bs' l' hh => ?_⟩
        rw [hG2] at hh
        cases hh
        exact IsDec.keep (IsDec.keep dc kS (by omega) (by omega)) k9 (fun hh => by have := (ids di hh).1; omega) (fun hh => by have := (ids ri hh).1; omega)
    · have c6 : ((k : Int) == 1) = false := by simp; omega
      rw [if_neg hk3] at hG0
      obtain ⟨m, hm⟩ : ∃ m : Nat, m = (kidsR (k : Int)).toNat := ⟨_, rfl⟩
      rw [← hm] at hG0
      have hkl := kidsR_le (k : Int)
      obtain ⟨n, hn⟩ : ∃ n : Int, n = 0 := ⟨0, rfl⟩
      rw [← hn] at hG0 g38
      have hG := hG0
      have hK0 : kidsN.getD k 0 = ((m : Nat) : Int) := by rw [hke, hm]; omega
      have dc5 : IsDec H3 di ri bs1 (64 - (left - 1)) := ⟨by omega, gd3, r3, hne⟩
      have hgl5 : ∀ (f : AFrame), AFrame.eval f H3 (.global 1) = .at kidsC := fun f => eval_glob (hg.keep kk3)
      have g5d := g38
      have g54 := g34
      have g58 := g38
      have kk5 := kk3
      have hb8n : b8 < H3.n := by omega
      have hb2 := hb1
      have hl2 := hl1
      simp only [wpA_skip, wpA_region, wpA_seq, condI_false, seqQ_normal, goI_ops, opsA_cons, stepA_load, stepA_fieldAddr, stepA_indexAddr, thenV_some, eval_tmp, put_some, put_none, enterF_succ, aField_eq, fieldGo_ptr, aLoad_eq, loadGo_one, aPlace_ptr, dropC_cells, aIndexAddr_eq, Nat.reduceEqDiff, Nat.reduceAdd, Nat.add_zero, Nat.zero_add, Nat.zero_le, List.length_cons, List.length_nil, List.drop_zero, if_true, if_false, as_283, ft_27_0, lt_3, ss_283, g38, c6]
      have hm3 := kidsR_le (k : Int)
      simp only [wpA_block, wpA_loop, seqQ_normal, goI_out, goI_ops, opsA_nil, opsA_cons, stepA_move, stepA_load, thenV_some, eval_tmp, eval_const, put_some, put_none, enterF_succ, absV_int, aLoad_eq, loadGo_one, aPlace_at, ixGo_at, Nat.reduceEqDiff, if_true, if_false, lt_3, hgl5, hix, hK0]
      refine SWp.loopG (α := Nat × V × List Ex × List Nat × Nat) (fun x f h' => f 0 = .ptr di 0 ∧ f 1 = .int .i64 ((17 - (d + 1) : Nat) : Int) ∧ f 4 = .ptr h.n 0 ∧ f 8 = .ptr b8 0 ∧ f 69 = .int .i64 (m : Nat) ∧ f 70 = .int .i64 (x.1 : Nat) ∧ x.1 ≤ m ∧ h'.get h.n = .cells [.int .i64 0, .int .i64 0, .snil] 27 none ∧ h'.get b8 = .cells [.int .i64 (k : Int), .int .i64 n, x.2.1] 27 none ∧
          Own h' 27 3 x.2.1 (x.2.2.1.flatMap encE) ∧ (∀ j, idOf x.2.1 = some j → h.n ≤ j ∧ j ≠ h.n ∧ j ≠ b8) ∧ x.2.2.1.length = x.1 ∧ IsDec h' di ri x.2.2.2.1 (64 - x.2.2.2.2) ∧ x.2.2.2.2 ≤ 64 ∧ (∀ y ∈ x.2.2.2.1, y < 256) ∧ x.2.2.2.1.length ≤ 2 ^ 47 ∧ Keep h h' (decO di ri) ∧ b8 < h'.n ∧
          kidsG (getX d) m (left - 1) bs1 = (match kidsG (getX d) (m - x.1) x.2.2.2.2 x.2.2.2.1 with | .error e => .error e | .ok (ks, r) => .ok (x.2.2.1 ++ ks, r))) (fun x => m - x.1) (0, .snil, [], bs1, left - 1)
        ⟨rfl, rfl, rfl, rfl, rfl, rfl, Nat.zero_le _, g54, g58, Own.snil _ _ _, by simp [idOf], rfl, dc5, by simp only; omega, hb2, hl2, kk5, hb8n, by simp only [Nat.sub_zero]; cases kidsG (getX d) m (left - 1) bs1 <;> rfl⟩ ?_
      rintro ⟨i, s, acc, b, l⟩ f h6 ⟨f0, f1, f4, f8, f69, f70, hi, g4, g8, os, ids, hal, dc, hl64, hby, hbl, kk, hb8, hKG⟩
      simp only at f70 hi g8 os ids hal dc hl64 hby hbl hKG
      refine wpI_sound (by kernel_rfl) ?_
      by_cases him : i < m
      · have e1 : decide ((i : Int) < ((m : Nat) : Int)) = true := decide_eq_true (by omega)
        have hwi : IntKind.i64.wrap ((i : Int) + 1) = ((i + 1 : Nat) : Int) := by rw [Go.IntWalk.i64_in _ (by omega)]; omega
        have hwl : IntKind.i64.wrap (((17 - (d + 1) : Nat) : Int) + 1) = ((17 - d : Nat) : Int) := by rw [Go.IntWalk.i64_in _ (by omega)]; omega
        obtain ⟨mi, hmi⟩ : ∃ mi, m - i = mi + 1 := ⟨m - i - 1, by omega⟩
        rw [hmi, kidsG] at hKG
        simp only [wpA_skip, wpA_region, wpA_seq, wpA_cond, wpA_block, condI_true, seqQ_normal, goI_out, goI_ops, opsA_nil, opsA_cons, stepA_move, stepA_binOp, stepA_call, thenV_some, eval_tmp, eval_const, put_some, aBin_add, aBin_lss, absV_int, Nat.reduceEqDiff, reduceCtorEq, List.map_cons, List.map_nil, if_true, if_false, f0, f1, f69, f70, e1, hwl]
        refine callI_of cal110 (pNext d l b h6 di ri (by omega) hl64 (hg.keep kk) dc hby hbl) fun r h7 ⟨e7, k7, d7⟩ => ?_
        subst e7
        have hdi := dc.1
        have hri := dc.2.2.1.2.1
        have h4di : di < h.n := hd.1
        have h4ri : ri < h.n := hd.2.2.1.2.1
        have b8ge : h.n < b8 := hb8g
        have g47 := (k7.get h.n (by omega) (by rintro (hh | hh) <;> omega)).trans g4
        have g87 := (k7.get b8 hb8 (by rintro (hh | hh) <;> omega)).trans g8
        have os7 := os.keep k7 fun j hj hh => by
          have := (ids j hj).1
          rcases hh with hh | hh <;> omega
        have kk7 : Keep h h7 (decO di ri) := kk.trans' k7
        have n7 := k7.n
        cases hgx : getX d l b with
        | error c =>
          rw [hgx] at hKG
          have hc0 := getX_err d l b c hgx
          have c1 : (((c : Nat) : Int) != 0) = true := by simp; omega
          rw [hgx] at d7
          simp only at hKG
          have hG2 : getX (d + 1) left bs = .error c := by rw [hG, hKG]
          simp only [gotV]
          have cA := ex_cells (.mk 0 0 [])
          have stA := ex_st (.mk 0 0 [])
          have kZ : Keep h7 (h7.push (.cells (encE (.mk 0 0 [])) 27 none)) none_ := Keep.push _ _ _
          have g4Z := (kZ.get h.n (by omega) (by simp [none_])).trans g47
          simp only [wpA_region, wpA_seq, wpA_cond, wpA_ret, condI_true, seqQ_normal, seqQ_ret, blkQ_ret, endI_mk, goE, andThen_ret, goI_out, goI_ops, opsA_nil, opsA_cons, stepA_move, stepA_assign, stepA_alloc, stepA_build, stepA_store, stepA_binOp, stepA_extract, thenV_some, thenH_some, thenS_some, extV_zero, extV_succ, eval_tmp, eval_const, put_some, put_none, aBin_neq, absV_int, cells_agg, one_int, one_snil, all_nil, all_cons, aLoad_eq, loadGo_row, aPlace_ptr, dropC_cells, aStore_eq, storeGo_ptr, setC_row, setAll_nil, setAll_cons, aAlloc_eq, aBuild_go, aFill_nil, buildGo_struct, get_push_new, get_set_same, set_push, Nat.reduceEqDiff, Nat.reduceAdd, List.map_nil, Option.map_some, Nat.zero_add, Nat.zero_le, List.length_cons, List.length_nil, List.drop_zero, List.take_succ_cons, List.take_nil, List.set_cons_zero, List.set_cons_succ, if_true, if_false, Bool.and_self, Nat.le_refl, lt_27, pl_27, zc_27, zt_27, f4, cA, stA, c1, g4Z, retA_ret, Tryz.results110, resultsC_2, resultA_tmp, resultA_cell, res2_some]
          refine hid_mk ⟨_, _, errC _ c, by rw [hG2]; rfl, ?_, fun e bs' l' hh => by rw [hG2] at hh; cases hh⟩
          exact ((kk7.trans' kZ.up).trans (Keep.set _ h.n _) fun q hq hh => by omega)
        | ok r =>
          obtain ⟨A, b', l'⟩ := r
          rw [hgx] at hKG
          simp only at hKG
          have gt := getX_sound d l b hby A b' l' hgx
          have dc7 := d7 A b' l' hgx
          have hby' : ∀ y ∈ b', y < 256 := fun y hy => hby y (by rw [gt.by_]; simp [hy])
          have hbl' : b'.length ≤ b.length := by rw [gt.by_]; simp
          have hsz := gt.sz
          simp only [gotV]
          have cA := ex_cells A
          have stA := ex_st A
          have ldA := ex_ldc A
          obtain ⟨H8, hH8⟩ : ∃ y, y = h7.push (.cells (encE A) 27 none) := ⟨_, rfl⟩
          have k8 : Keep h7 H8 none_ := by rw [hH8]; exact Keep.push _ _ _
          have n8 : H8.n = h7.n + 1 := by rw [hH8]; rfl
          have g9 : H8.get h7.n = .cells (encE A) 27 none := by rw [hH8]; exact get_push_new
          have g88 := (k8.get b8 (by omega) (by simp [none_])).trans g87
          have g48 := (k8.get h.n (by omega) (by simp [none_])).trans g47
          have dA : dropC (AObj.cells (encE A) 27 none) 0 = some (encE A) := by cases A; rfl
          have lA : loadGo (some (some 3)) (some (encE A)) = some (.agg (encE A)) := by cases A; rfl
          obtain ⟨s', h9, ea, o9, k9, n9⟩ := app1E (os7.keepN k8) (by omega) A
          have hlit := lit1e H8 A
          have hsj : ∀ j, idOf s = some j → j < h6.n := fun j hj => os.lt j hj
          have g89 := (k9.get b8 (by omega) (fun hh => (ids b8 hh).2.2 rfl)).trans g88
          have g49 := (k9.get h.n (by omega) (fun hh => (ids h.n hh).2.1 rfl)).trans g48
          have one_s : s'.one = true := by
            rcases o9 with ⟨rfl | rfl, _⟩ | ⟨_, _, _, _, _, rfl, _⟩ <;> rfl
          have cell_s : s'.cells = some [s'] := by
            rcases o9 with ⟨rfl | rfl, _⟩ | ⟨_, _, _, _, _, rfl, _⟩ <;> rfl
          have hset : setC (some 1) (AObj.cells [V.int .i64 (k : Int), V.int .i64 n, s] 27 none) 2 [s'] = some (.cells [.int .i64 (k : Int), .int .i64 n, s'] 27 none) := by rw [setC_one one_s]; rfl
          have z0 : ((0 : Int) != 0) = false := rfl
          simp only [wpA_skip, wpA_region, wpA_seq, wpA_cond, condI_false, seqQ_normal, goI_out, goI_ops, opsA_nil, opsA_cons, stepA_move, stepA_assign, stepA_alloc, stepA_load, stepA_store, stepA_binOp, stepA_fieldAddr, stepA_extract, thenV_some, thenH_some, thenS_some, extV_zero, extV_succ, eval_tmp, eval_const, put_some, put_none, aBin_neq, absV_int, aField_eq, fieldGo_ptr, aLoad_eq, aPlace_ptr, aStore_eq, storeGo_ptr, aAlloc_eq, get_push_new, set_push, bne_self_eq_false, Nat.reduceEqDiff, Option.map_some, Nat.zero_add, if_true, if_false, ft_27_2, lt_25, zc_27, zt_27, f8, cA, stA]
          rw [← hH8]
          clear hH8
          simp only [wpA_region, seqQ_normal, blkQ_normal, endI_mk, andThen_normal, goI_out, goI_ops, opsA_nil, opsA_cons, stepA_move, stepA_buildSlice, stepA_load, stepA_store, stepA_binOp, stepA_fieldAddr, stepA_append, thenV_some, thenH_some, thenS_some, eval_tmp, eval_const, put_some, put_none, aBin_add, absV_int, aField_eq, fieldGo_ptr, aLoad_eq, loadGo_one, aPlace_ptr, dropC_cells, aStore_eq, storeGo_ptr, Nat.reduceEqDiff, Nat.reduceAdd, Nat.reduceLeDiff, List.map_cons, List.map_nil, Option.map_some, Nat.zero_add, List.length_cons, List.length_nil, List.drop_zero, List.drop_succ_cons, if_true, if_false, ft_27_2, lt_27, zt_25, f8, f70, g88, g9, dA, lA, hlit, ea, g89, cell_s, hset, hwi]
          have kS : Keep h9 (h9.set b8 (.cells [V.int .i64 (k : Int), V.int .i64 n, s'] 27 none)) (fun q => q = b8) := Keep.set _ _ _
          have ids' : ∀ j, idOf s' = some j → h.n ≤ j ∧ j ≠ h.n ∧ j ≠ b8 := fun j hj => by
            rcases n9 with n9 | n9
            · exact ids j (by rw [← n9]; exact hj)
            · have := n9 j hj; omega
          have kk9 : Keep h h9 (decO di ri) := (kk7.trans' k8.up).trans k9 fun q hq hh => by have := (ids q hh).1; omega
          have dc9 : IsDec h9 di ri b' (64 - l') := IsDec.keep dc7 (k8.up.trans' k9) (fun hh => by have := (ids di hh).1; omega) (fun hh => by have := (ids ri hh).1; omega)
          have n9' := k9.n
          refine hid_mk ⟨(i + 1, s', acc ++ [A], b', l'), ⟨f0, f1, f4, f8, f69, rfl, him, (get_set_ne (by omega)).trans g49, get_set_same, o9.keep kS (fun j hj hh => (ids' j hj).2.2 hh), ids', by simp [hal], IsDec.keep dc9 kS (by omega) (by omega), by simp only; omega, hby', by simp only; omega, kk9.trans kS fun q hq hh => by omega, by rw [set_n]; omega, ?_⟩, by simp only; omega⟩
          rw [hKG, show m - (i + 1) = mi by omega]
          cases kidsG (getX d) mi l' b' with
          | error e => rfl
          | ok r => obtain ⟨ks, r⟩ := r; simp
      · have e1 : decide ((i : Int) < ((m : Nat) : Int)) = false := decide_eq_false (by omega)
        rw [show m - i = 0 by omega, kidsG] at hKG
        simp only [List.append_nil] at hKG
        have hG2 : getX (d + 1) left bs = .ok (.mk k n acc, b, l) := by rw [hG, hKG]
        have one_s : s.one = true := by
          rcases os with ⟨rfl | rfl, _⟩ | ⟨_, _, _, _, _, rfl, _⟩ <;> rfl
        have stF : setC (some 3) (AObj.cells [V.int .i64 0, V.int .i64 0, V.snil] 27 none) 0 [.int .i64 (k : Int), .int .i64 n, s] = some (.cells [.int .i64 (k : Int), .int .i64 n, s] 27 none) := by
          exact (setC_row (n := 3) (vs := [V.int .i64 (k : Int), V.int .i64 n, s]) rfl (by simp only [all_cons, all_nil, one_int, one_s, Bool.and_self])).trans rfl
        have kS : Keep h6 (h6.set h.n (.cells [V.int .i64 (k : Int), V.int .i64 n, s] 27 none)) (fun q => q = h.n) := Keep.set _ _ _
        have os2 := os.keep kS fun j hj hh => (ids j hj).2.1 hh
        obtain ⟨h9, c9, k9⟩ := castE (k : Int) n os2
        simp only [wpA_region, wpA_seq, wpA_cond, wpA_exit, wpA_ret, condI_false, seqQ_normal, seqQ_exit, blkQ_exit, endI_mk, goE, andThen_exit, goI_out, goI_ops, opsA_nil, opsA_cons, stepA_assign, stepA_load, stepA_store, stepA_binOp, thenV_some, thenS_some, eval_tmp, eval_const, put_some, put_none, aBin_lss, absV_int, cells_agg, aLoad_eq, loadGo_row, aPlace_ptr, dropC_cells, aStore_eq, storeGo_ptr, get_set_same, Nat.reduceEqDiff, Nat.reduceAdd, Option.map_some, Nat.zero_add, Nat.zero_le, List.length_cons, List.length_nil, List.drop_zero, List.take_succ_cons, List.take_nil, if_true, if_false, Nat.le_refl, lt_27, zt_27, f4, f8, f69, f70, e1, g8, g4, stF, retA_ret, Tryz.results110, resultsC_2, resultA_tmp, resultA_cell, res2_some]
        have h4di : di < h.n := hd.1
        have h4ri : ri < h.n := hd.2.2.1.2.1
        refine hid_mk ⟨_, h9, Cast.tuple (CastL.cons c9 (CastL.refl _ _)), by rw [hG2]; rfl, (kk.trans kS fun q hq hh => by omega).trans k9 fun q hq hh => by have := (ids q hh).1; omega, fun e bs' l' hh => ?_⟩
        rw [hG2] at hh
        cases hh
        exact IsDec.keep (IsDec.keep dc kS (by omega) (by omega)) k9 (fun hh => by have := (ids di hh).1; omega) (fun hh => by have := (ids ri hh).1; omega)
end Go.Proofs.YtedkjhifbibpmaaGreatDoor.Pk
namespace Go.Proofs.YtedkjhifbibpmaaGreatDoor.Pk
open Go Go.Proofs Go.Proofs.YtedkjhifbibpmaaGreatDoor.Ab
set_option linter.unusedVariables false
set_option linter.unusedSimpArgs false
set_option maxRecDepth 10000
/-! ### Of -/
def ofX (bs : List Nat) : Except Nat Ex := match getX 16 64 bs with
  | .error c => .error c
  | .ok (e, r, _) => if r.length = 0 then .ok e else .error 5
def ofE (bs : List Nat) : Ex := match ofX bs with
  | .error _ => .mk 0 0 []
  | .ok e => e
def ofC (bs : List Nat) : Nat := match ofX bs with
  | .error c => c
  | .ok _ => 0
def ofV (bs : List Nat) : V := .tuple [.agg (encE (ofE bs)), .int .i64 (ofC bs : Nat)]
theorem ofV_clo (bs : List Nat) : Clo (ofV bs) := Clo.tuple (CloL.cons (Clo.agg (encE_clo _)) (CloL.cons (Clo.int _ _) CloL.nil))
theorem ofX_enc {e : Ex} (hm : mayX e = true) (hok : OkE e) : ofX (encB e) = .ok e := by
  have hd : deepX 16 e = true ∧ szE e ≤ 64 := by
    unfold mayX at hm
    rw [cnt_eq] at hm
    split at hm
    · assumption
    · cases hm
  have := getX_comp 16 64 e [] hd.1 hok hd.2
  rw [List.append_nil] at this
  unfold ofX
  rw [this]
  rfl
set_option maxHeartbeats 1000000 in
set_option maxRecDepth 10000 in
theorem pOf (x : V) (bs : List Nat) (h : AHeap) (hg : KG h) (rd : Rd h x bs) (hb : ∀ b ∈ bs, b < 256) (hl : bs.length ≤ 2 ^ 47) : Pure Tryz.prog 55 [x] h (ofV bs) := by
  refine Pure.of (ofV_clo bs) ?_
  refine SCalls.enterI (c := _) Tryz.func55 rfl (by kernel_rfl) (by simp) ?_
  obtain ⟨H0, hH0⟩ : ∃ y, y = h.push (.cells [.int .i64 0, .int .i64 0, .snil] 27 none) := ⟨_, rfl⟩
  have k0 : Keep h H0 none_ := by rw [hH0]; exact Keep.push _ _ _
  have g0 : H0.get h.n = .cells [.int .i64 0, .int .i64 0, .snil] 27 none := by rw [hH0]; exact get_push_new
  have n0 : H0.n = h.n + 1 := by rw [hH0]; rfl
  simp only [wpA_region, wpA_seq, seqQ_normal, goI_out, goI_ops, opsA_nil, opsA_cons, stepA_move, stepA_assign, stepA_alloc, stepA_call, thenH_some, eval_tmp, eval_const, put_some, enterF_zero, enterF_succ, absV_int, aAlloc_eq, Nat.reduceEqDiff, reduceCtorEq, List.map_cons, List.map_nil, Option.map_some, if_true, if_false, zc_27]
  rw [← hH0]
  clear hH0
  refine callI_of cal109 (From x bs H0 (rd.keep k0) (by omega)) fun r H1 ⟨e1, r1, k1⟩ => ?_
  subst e1
  have n1 : H0.n + 1 ≤ H1.n := r1.2.1
  have g1 := (k1.get h.n (by omega) (by simp [none_])).trans g0
  have stD : setC (some 2) (AObj.cells [V.pnil, V.int .i64 0] 206 none) 0 [V.ptr H0.n 0, V.int .i64 0] = some (.cells [V.ptr H0.n 0, V.int .i64 0] 206 none) := rfl
  obtain ⟨H2, hH2⟩ : ∃ y, y = H1.push (.cells [V.ptr H0.n 0, V.int .i64 0] 206 none) := ⟨_, rfl⟩
  have k2 : Keep H1 H2 none_ := by rw [hH2]; exact Keep.push _ _ _
  have n2 : H2.n = H1.n + 1 := by rw [hH2]; rfl
  have gd2 : H2.get H1.n = .cells [V.ptr H0.n 0, V.int .i64 0] 206 none := by rw [hH2]; exact get_push_new
  have g2 := (k2.get h.n (by omega) (by simp [none_])).trans g1
  have dc : IsDec H2 H1.n H0.n bs (64 - 64) := ⟨by omega, gd2, IsRd.keep r1 k2 (by simp [none_]), by omega⟩
  have kk2 : Keep h H2 none_ := (k0.trans' k1).trans' k2
  simp only [wpA_region, wpA_seq, seqQ_normal, goI_out, goI_ops, opsA_nil, opsA_cons, stepA_alloc, stepA_build, stepA_store, stepA_call, thenV_some, thenH_some, thenS_some, eval_tmp, eval_const, put_some, put_none, enterF_succ, absV_int, cells_ptr, cells_agg, aStore_eq, storeGo_ptr, setAll_nil, setAll_cons, aAlloc_eq, aBuild_go, aFill_nil, aFill_cons, fillGo_some, buildGo_struct, get_push_new, set_push, List.getElem?_cons_zero, Nat.reduceEqDiff, Nat.reduceAdd, Nat.reduceLeDiff, List.map_cons, List.map_nil, Option.map_some, Nat.zero_add, List.length_cons, List.length_nil, List.set_cons_zero, and_self, if_true, if_false, pl_206, zc_206, zt_206, stD]
  rw [← hH2]
  clear hH2
  refine callI_of cal110 (pNext 16 64 bs H2 H1.n H0.n (by decide) (by decide) (hg.keep kk2) dc hb hl) fun r H3 ⟨e3, k3, d3⟩ => ?_
  subst e3
  have n3 := k3.n
  have g3 := (k3.get h.n (by omega) (by rintro (hh | hh) <;> omega)).trans g2
  have kk3 : Keep h H3 none_ := kk2.trans k3 fun q hq hh => by rcases hh with hh | hh <;> omega
  cases hx : getX 16 64 bs with
  | error c =>
    have hc0 := getX_err _ _ _ _ hx
    have c1 : (((c : Nat) : Int) != 0) = true := by simp; omega
    have hE : ofX bs = .error c := by unfold ofX; rw [hx]
    have hV : ofV bs = .tuple [.agg (encE (.mk 0 0 [])), .int .i64 (c : Nat)] := by unfold ofV ofE ofC; rw [hE]
    rw [hV]
    have cA := ex_cells (.mk 0 0 [])
    have stA := ex_st (.mk 0 0 [])
    have kZ : Keep H3 (H3.push (.cells (encE (.mk 0 0 [])) 27 none)) none_ := Keep.push _ _ _
    have g4 := (kZ.get h.n (by omega) (by simp [none_])).trans g3
    simp only [gotV]
    simp only [wpA_region, wpA_seq, wpA_cond, wpA_ret, condI_true, seqQ_normal, seqQ_ret, endI_mk, goI_out, goI_ops, opsA_nil, opsA_cons, stepA_move, stepA_assign, stepA_alloc, stepA_build, stepA_store, stepA_binOp, stepA_extract, thenV_some, thenH_some, thenS_some, extV_zero, extV_succ, eval_tmp, eval_const, put_some, put_none, enterF_succ, aBin_neq, absV_int, cells_agg, one_int, one_snil, all_nil, all_cons, aLoad_eq, loadGo_row, aPlace_ptr, dropC_cells, aStore_eq, storeGo_ptr, setC_row, setAll_nil, setAll_cons, aAlloc_eq, aBuild_go, aFill_nil, buildGo_struct, get_push_new, get_set_same, set_push, Nat.reduceEqDiff, Nat.reduceAdd, List.map_nil, Option.map_some, Nat.zero_add, Nat.zero_le, List.length_cons, List.length_nil, List.drop_zero, List.take_succ_cons, List.take_nil, List.set_cons_zero, List.set_cons_succ, if_true, if_false, Bool.and_self, Nat.le_refl, lt_27, pl_27, zc_27, zt_27, cA, stA, c1, g4, retA_ret, Tryz.results55, resultsC_2, resultA_tmp, resultA_cell, res2_some]
    exact hid_mk ⟨_, errC _ c, (kk3.trans' kZ).trans (Keep.set _ h.n _) fun q hq hh => by omega⟩
  | ok r =>
    obtain ⟨e, b', l'⟩ := r
    have dc3 := d3 e b' l' hx
    have z0 : ((0 : Int) != 0) = false := rfl
    have cA := ex_cells e
    have stA := ex_st e
    obtain ⟨H4, hH4⟩ : ∃ y, y = H3.push (.cells (encE e) 27 none) := ⟨_, rfl⟩
    have k4 : Keep H3 H4 none_ := by rw [hH4]; exact Keep.push _ _ _
    have g44 : H4.get H3.n = .cells (encE e) 27 none := by rw [hH4]; exact get_push_new
    have g4 := (k4.get h.n (by omega) (by simp [none_])).trans g3
    have dc4 := IsDec.keep dc3 k4 (by simp [none_]) (by simp [none_])
    have gd4 := dc4.2.1
    have kk4 := kk3.trans' k4
    simp only [gotV]
    simp only [wpA_skip, wpA_region, wpA_seq, wpA_cond, condI_false, seqQ_normal, goI_out, goI_ops, opsA_nil, opsA_cons, stepA_move, stepA_assign, stepA_alloc, stepA_load, stepA_store, stepA_binOp, stepA_fieldAddr, stepA_extract, thenV_some, thenH_some, thenS_some, extV_zero, extV_succ, eval_tmp, eval_const, put_some, put_none, enterF_succ, aBin_neq, absV_int, aField_eq, fieldGo_ptr, aLoad_eq, aPlace_ptr, aStore_eq, storeGo_ptr, aAlloc_eq, get_push_new, set_push, bne_self_eq_false, Nat.reduceEqDiff, Option.map_some, Nat.add_zero, if_true, if_false, ft_206_0, lt_203, zc_27, zt_27, cA, stA]
    rw [← hH4]
    clear hH4
    simp only [goI_ops, opsA_cons, stepA_call, thenV_some, eval_tmp, put_some, put_none, enterF_succ, loadGo_one, dropC_cells, Nat.reduceEqDiff, Nat.reduceAdd, List.map_cons, List.map_nil, Nat.zero_add, Nat.zero_le, List.length_cons, List.length_nil, List.drop_zero, if_true, if_false, gd4]
    refine callI_pure cal111 (Left H4 _ _ b' dc4.2.2.1) ?_
    by_cases hb0 : b'.length = 0
    · have c1 : decide ((0 : Int) < ((b'.length : Nat) : Int)) = false := decide_eq_false (by omega)
      have hE : ofX bs = .ok e := by unfold ofX; rw [hx]; simp only; rw [if_pos hb0]
      have hV : ofV bs = .tuple [.agg (encE e), .int .i64 0] := by unfold ofV ofE ofC; rw [hE]; rfl
      rw [hV]
      have dA : dropC (AObj.cells (encE e) 27 none) 0 = some (encE e) := by cases e; rfl
      have lA : loadGo (some (some 3)) (some (encE e)) = some (.agg (encE e)) := by cases e; rfl
      have ldc := ex_ldc e
      simp only [wpA_skip, wpA_region, wpA_seq, wpA_cond, wpA_ret, condI_false, seqQ_normal, endI_mk, goI_out, goI_ops, opsA_nil, opsA_cons, stepA_assign, stepA_load, stepA_store, stepA_binOp, thenV_some, thenS_some, eval_tmp, eval_const, put_some, put_none, enterF_succ, aBin_gtr, absV_int, aLoad_eq, aPlace_ptr, aStore_eq, storeGo_ptr, get_set_same, Nat.reduceEqDiff, Option.map_some, if_true, if_false, lt_27, zt_27, c1, g44, g4, dA, lA, cA, stA, retA_ret, Tryz.results55, resultsC_2, resultA_tmp, resultA_cell, res2_some]
      exact hid_mk ⟨_, Cast.refl _ _, kk4.trans (Keep.set _ h.n _) fun q hq hh => by omega⟩
    · have c1 : decide ((0 : Int) < ((b'.length : Nat) : Int)) = true := decide_eq_true (by omega)
      have hE : ofX bs = .error 5 := by unfold ofX; rw [hx]; simp only; rw [if_neg hb0]
      have hV : ofV bs = .tuple [.agg (encE (.mk 0 0 [])), .int .i64 (5 : Nat)] := by unfold ofV ofE ofC; rw [hE]
      rw [hV]
      simp only [wpA_region, wpA_seq, wpA_cond, wpA_ret, condI_true, seqQ_normal, seqQ_ret, endI_mk, goI_out, goI_ops, opsA_nil, opsA_cons, stepA_assign, stepA_build, stepA_store, stepA_binOp, thenV_some, thenS_some, eval_tmp, eval_const, put_some, put_none, enterF_succ, aBin_gtr, absV_int, cells_agg, one_int, one_snil, all_nil, all_cons, aLoad_eq, loadGo_row, aPlace_ptr, dropC_cells, aStore_eq, storeGo_ptr, setC_row, setAll_nil, setAll_cons, aBuild_go, aFill_nil, buildGo_struct, get_set_same, Nat.reduceEqDiff, Nat.reduceAdd, List.map_nil, Option.map_some, Nat.zero_add, Nat.zero_le, List.length_cons, List.length_nil, List.drop_zero, List.take_succ_cons, List.take_nil, List.set_cons_zero, List.set_cons_succ, if_true, if_false, Bool.and_self, Nat.le_refl, lt_27, pl_27, zc_27, zt_27, c1, g4, retA_ret, Tryz.results55, resultsC_2, resultA_tmp, resultA_cell, res2_some]
      exact hid_mk ⟨_, errC _ 5, kk4.trans (Keep.set _ h.n _) fun q hq hh => by omega⟩
end Go.Proofs.YtedkjhifbibpmaaGreatDoor.Pk
namespace Go.Proofs.YtedkjhifbibpmaaGreatDoor.Pk
open Go Go.Proofs Go.Proofs.YtedkjhifbibpmaaGreatDoor.Ab
set_option linter.unusedVariables false
set_option linter.unusedSimpArgs false
def evO : Option Int → V
  | some n => .tuple [.int .i64 n, .int .i64 0]
  | none => .tuple [.int .i64 0, .int .i64 10]
theorem pEvalM (e : Ex) (rk rv rt acc : Int) (o : Option Int) (hm : mayX e = true) (hv : valF rk rv rt acc 16 e = o) (h : AHeap) (hg : KG h) :
    Pure Tryz.prog 59 [.agg (encE e), .agg [.int .i64 rk, .int .i64 rv, .int .i64 rt], .int .i64 acc] h (evO o) := by
  have := pEval e rk rv rt acc h hg
  rw [hm, hv] at this
  cases o <;> exact this
/-! ### Values told in a weaker way -/
def WkV (v v2 : V) : Prop := ∀ ρ v', VRel ρ v v' → VRel ρ v2 v'
def WkL (l l2 : List V) : Prop := ∀ ρ l', LRel ρ l l' → LRel ρ l2 l'
theorem WkV.refl (v : V) : WkV v v := fun _ _ h => h
theorem WkL.refl (l : List V) : WkL l l := fun _ _ h => h
theorem WkL.cons {v v2 : V} {l l2 : List V} (a : WkV v v2) (b : WkL l l2) : WkL (v :: l) (v2 :: l2) := fun ρ l' h => by
  obtain ⟨v', t', rfl, h1, h2⟩ := h.uncons
  exact LRel.cons (a ρ v' h1) (b ρ t' h2)
theorem WkL.append {a a2 b b2 : List V} (ha : WkL a a2) (hl : a.length = a2.length) (hb : WkL b b2) : WkL (a ++ b) (a2 ++ b2) := fun ρ l' h => by
  have h1 := h.take a.length
  have h2 := h.drop a.length
  rw [List.take_left] at h1
  rw [List.drop_left] at h2
  have := (ha ρ _ h1).append (hb ρ _ h2)
  rwa [List.take_append_drop] at this
theorem WkV.snil : WkV .snil (.imm 0 []) := fun ρ v' h => by cases h; exact .immZ none 0 (by simp)
theorem WkV.imm {n : Nat} {cs cs2 : List V} (h : WkL cs cs2) (hl : cs.length = cs2.length) : WkV (.imm n cs) (.imm n cs2) := fun ρ v' hv => by
  cases hv with
  | imm o n cap hb hn ho hx =>
    rename_i b arr
    have hL : LRel ρ cs ((arr.toList.drop o).take cs.length) := by
      refine ⟨by simp; omega, fun k v v' h1 h2 => ?_⟩
      rw [List.getElem?_take] at h2
      split at h2
      · rw [List.getElem?_drop] at h2
        exact hx k v v' h1 (by simpa using h2)
      · cases h2
    have h2 := h ρ _ hL
    refine .imm o n cap hb hn (by omega) fun k v v' h3 h4 => ?_
    have hk : k < cs.length := by rw [hl]; exact (List.getElem?_eq_some_iff.1 h3).1
    refine h2.2 k v v' h3 ?_
    rw [List.getElem?_take, if_pos hk, List.getElem?_drop]
    simpa using h4
  | immZ a c ha =>
    have : cs2 = [] := List.eq_nil_of_length_eq_zero (by simpa using hl.symm)
    subst this
    exact .immZ a c ha
theorem WkV.cast {v v2 : V} (a : WkV v v2) (h : AHeap) : Cast v h v2 h := fun ρ B w0 w r' hw hv => ⟨ρ, Ren.le.refl ρ, hw, a ρ r' hv⟩
theorem wkE0 (o n : Int) : WkL [.int .i64 o, .int .i64 n, .snil] (encE (.mk o n [])) := by
  rw [encE_eq]
  exact WkL.cons (.refl _) (.cons (.refl _) (.cons .snil (.refl _)))
end Go.Proofs.YtedkjhifbibpmaaGreatDoor.Pk
