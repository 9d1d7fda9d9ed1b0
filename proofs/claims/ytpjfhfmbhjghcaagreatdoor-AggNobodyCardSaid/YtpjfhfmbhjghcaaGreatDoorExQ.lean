/-
  What functions of the program do, told of abstract states. Conditions: as each theorem says.
-/
import Derived.Test.YtpjfhfmbhjghcaaGreatDoorExOk
import Derived.Test.YtpjfhfmbhjghcaaGreatDoorPkM
import Derived.Test.YtpjfhfmbhjghcaaGreatDoorAbD
namespace Go.Proofs.YtpjfhfmbhjghcaaGreatDoor.Pk
open Go Go.Proofs Go.Proofs.YtpjfhfmbhjghcaaGreatDoor.Ab
set_option linter.unusedVariables false
set_option linter.unusedSimpArgs false
set_option maxRecDepth 10000
/-! ### An expression's bytes -/
mutual
def encB : Ex → List Nat
  | .mk o n l => enc o.toNat ++ (if o = 1 then enc (zz n) else []) ++ encBL l
def encBL : List Ex → List Nat
  | [] => []
  | k :: r => encB k ++ encBL r
end
theorem encBL_eq : ∀ l : List Ex, encBL l = l.flatMap encB
  | [] => by rw [encBL]; rfl
  | k :: r => by rw [encBL, encBL_eq r]; rfl
theorem encB_eq (o n : Int) (l : List Ex) : encB (.mk o n l) = enc o.toNat ++ (if o = 1 then enc (zz n) else []) ++ l.flatMap encB := by rw [encB, encBL_eq]
theorem szL_append : ∀ a b : List Ex, szL (a ++ b) = szL a + szL b
  | [], b => by rw [List.nil_append, szL]; omega
  | k :: a, b => by rw [List.cons_append, szL, szL, szL_append a b]; omega
theorem szL_at {l : List Ex} {i : Nat} (hi : i < l.length) : szL (l.take i) + szE l[i] ≤ szL l := by
  have h1 := szL_drop hi
  have h2 := szL_append (l.take (i + 1)) (l.drop (i + 1))
  rw [List.take_append_drop] at h2
  omega
theorem flat_len20 : ∀ l : List Ex, (∀ k ∈ l, (encB k).length ≤ 20 * szE k) → (l.flatMap encB).length ≤ 20 * szL l
  | [], _ => Nat.zero_le _
  | k :: r, h => by
    have h1 := h k (by simp)
    have h2 := flat_len20 r fun x hx => h x (by simp [hx])
    rw [List.flatMap_cons, List.length_append, szL]
    omega
theorem encB_len : ∀ (s : Nat) (e : Ex), szE e = s → OkE e → (encB e).length ≤ 20 * szE e := by
  intro s
  induction s using Nat.strongRecOn with
  | _ s ih =>
  intro e hs hok
  have hk : ∀ k ∈ e.ks, (encB k).length ≤ 20 * szE k := fun k hk => ih (szE k) (by have := szE_kid k hk; omega) k rfl (hok.kid k hk)
  cases hok with
  | mk o n l hl hh ho hn =>
    have h1 := enc_le o.toNat (by omega)
    have h2 := enc_le (zz n) (zz_lt n hn.1 hn.2)
    have h3 := flat_len20 l hk
    rw [encB_eq, List.length_append, List.length_append, szE]
    split
    · omega
    · simp only [List.length_nil]; omega
theorem ex_cells (e : Ex) : (V.agg (encE e)).cells = some (encE e) := rfl
theorem ex_st (e : Ex) : setC (some 3) (AObj.cells [V.int .i64 0, V.int .i64 0, V.snil] 27 none) 0 (encE e) = some (.cells (encE e) 27 none) := by cases e; rfl
theorem ex_ldc (e : Ex) : (if 3 ≤ (encE e).length then some (V.agg (List.take 3 (encE e))) else none) = some (.agg (encE e)) := by cases e; rfl
theorem ex_d0 (o n : Int) (ks : List Ex) : dropC (AObj.cells (encE (.mk o n ks)) 27 none) 0 = some [.int .i64 o, .int .i64 n, .imm ks.length (ks.flatMap encE)] := by rw [encE_eq]; rfl
theorem ex_d1 (o n : Int) (ks : List Ex) : dropC (AObj.cells (encE (.mk o n ks)) 27 none) 1 = some [.int .i64 n, .imm ks.length (ks.flatMap encE)] := by rw [encE_eq]; rfl
theorem ex_d2 (o n : Int) (ks : List Ex) : dropC (AObj.cells (encE (.mk o n ks)) 27 none) 2 = some [.imm ks.length (ks.flatMap encE)] := by rw [encE_eq]; rfl
theorem ex_lr (A : Ex) (q : List V) : loadGo (some (some 3)) (some (encE A ++ q)) = some (.agg (encE A)) := load_row (encE_len A)
set_option maxHeartbeats 2000000 in
set_option maxRecDepth 10000 in
theorem pEncode : ∀ (d : Nat) (e : Ex) (h : AHeap) (x : V) (cs : List Nat), okX d e → OkE e → Rd h x cs → cs.length + 20 * szE e ≤ 2 ^ 40 → Pure Tryz.prog 69 [x, .agg (encE e)] h (.imm (cs ++ encB e).length (bytesV (cs ++ encB e)))
  | 0, e, h, x, cs, hd, _, _, _ => hd.zero.elim
  | d + 1, e, h, x, cs, hd, hok, rd, hb => by
    obtain ⟨hf, hkd⟩ := hd.fits
    have hkok := hok.kid
    have hks : ∀ k ∈ e.ks, (encB k).length ≤ 20 * szE k := fun k hk => encB_len _ k rfl (hkok k hk)
    obtain ⟨o, n, ks⟩ := e
    obtain ⟨_, ho1, ho2⟩ := fits_len hf
    have hn : -2 ^ 63 ≤ n ∧ n < 2 ^ 63 := by cases hok; assumption
    have hlen := hok.len
    simp only [Ex.ks] at hkd hkok hlen hks
    obtain ⟨k, rfl⟩ : ∃ k : Nat, o = k := ⟨o.toNat, by omega⟩
    have hz := enc_le (zz n) (zz_lt n hn.1 hn.2)
    have hz2 := enc_le k (by omega)
    rw [szE] at hb
    refine Pure.val (Clo.imm (bytesV_clo _)) ?_
    obtain ⟨mid, hmid⟩ : ∃ m, m = cs ++ enc k ++ (if (k : Int) = 1 then enc (zz n) else []) := ⟨_, rfl⟩
    have hfin : cs ++ encB (.mk k n ks) = mid ++ ks.flatMap encB := by rw [hmid, encB_eq]; simp
    have hml : mid.length ≤ cs.length + 20 := by
      rw [hmid, List.length_append, List.length_append]
      split
      · omega
      · simp only [List.length_nil]; omega
    rw [hfin]
    refine SCalls.enterI (c := _) Tryz.func69 rfl (by kernel_rfl) (by simp) ?_
    have hc := ex_cells (.mk k n ks)
    have hd0 := ex_d0 k n ks
    have hd1 := ex_d1 k n ks
    have hd2 := ex_d2 k n ks
    have wk : IntKind.u64.wrap (k : Int) = (k : Int) := nat_u64 (by omega)
    obtain ⟨H, hH⟩ : ∃ y, y = h.push (.cells (encE (.mk k n ks)) 27 none) := ⟨_, rfl⟩
    have gH : H.get h.n = .cells (encE (.mk k n ks)) 27 none := by rw [hH]; exact get_push_new
    have kH : Keep h H none_ := by rw [hH]; exact Keep.push _ _ _
    simp only [wpA_region, wpA_seq, seqQ_normal, goI_out, goI_ops, opsA_nil, opsA_cons, stepA_move, stepA_assign, stepA_box, stepA_load, stepA_convert, stepA_fieldAddr, stepA_call, thenV_some, thenC_some, thenH_some, eval_tmp, eval_const, put_some, enterF_zero, enterF_succ, absV_snil, aField_eq, fieldGo_ptr, aLoad_eq, loadGo_one, aPlace_ptr, aBox_eq, get_push_new, Nat.reduceEqDiff, reduceCtorEq, List.map_cons, List.map_nil, Option.map_some, Nat.add_zero, if_true, if_false, ft_27_0, lt_3, hc, hd0, aConv_int it_3 it_173, wk]
    rw [← hH]
    clear hH
    refine callI_pure cal88 (pUint x cs k H (rd.keep kH) (by omega) (by omega)) ?_
    by_cases h1 : (k : Int) = 1
    · have c1 : ((k : Int) == 1) = true := by simpa using h1
      have m1 : cs ++ enc k ++ enc (zz n) = mid := by rw [hmid, if_pos h1]
      simp only [wpA_region, wpA_seq, wpA_cond, condI_true, seqQ_normal, goI_out, goI_ops, opsA_nil, opsA_cons, stepA_move, stepA_assign, stepA_load, stepA_binOp, stepA_fieldAddr, stepA_call, thenV_some, eval_tmp, eval_const, put_some, enterF_zero, enterF_succ, aBin_eql, absV_int, aField_eq, fieldGo_ptr, aLoad_eq, loadGo_one, aPlace_ptr, Nat.reduceEqDiff, reduceCtorEq, List.map_cons, List.map_nil, Nat.add_zero, Nat.zero_add, if_true, if_false, ft_27_0, ft_27_1, lt_2, lt_3, gH, hd0, hd1, c1]
      refine callI_pure cal90 (pInt _ (cs ++ enc k) n H (Rd.imm _ _) (by rw [List.length_append]; omega) hn.1 hn.2) ?_
      rw [m1]
      simp only [wpA_region, wpA_seq, wpA_block, wpA_loop, seqQ_normal, goI_out, goI_ops, opsA_nil, opsA_cons, stepA_move, stepA_assign, stepA_load, stepA_fieldAddr, stepA_len, thenV_some, eval_tmp, eval_const, put_some, enterF_succ, absV_int, aField_eq, fieldGo_ptr, aLoad_eq, loadGo_one, aPlace_ptr, aLen_imm, Nat.reduceEqDiff, reduceCtorEq, Nat.zero_add, if_true, if_false, ft_27_2, kt_25, lt_25, gH, hd2]
      refine SWp.loopG (α := Nat) (fun i f h' => f 0 = .imm (mid ++ (ks.take i).flatMap encB).length (bytesV (mid ++ (ks.take i).flatMap encB)) ∧ f 20 = .imm ks.length (ks.flatMap encE) ∧ f 21 = .int .i64 ((ks.length : Nat) : Int) ∧ f 22 = .int .i64 (i : Nat) ∧ i ≤ ks.length ∧ Keep h h' none_) (fun i => ks.length - i) 0
        ⟨(show V.imm _ _ = _ by simp), rfl, rfl, rfl, Nat.zero_le _, kH⟩ ?_
      rintro i f h1 ⟨f0, f20, f21, f22, hi, k1⟩
      refine wpI_sound (by kernel_rfl) ?_
      by_cases hlt : i < ks.length
      · have d1 : decide ((i : Int) < ((ks.length : Nat) : Int)) = true := decide_eq_true (by omega)
        have hw : IntKind.i64.wrap (((i : Nat) : Int) + 1) = ((i + 1 : Nat) : Int) := by rw [Go.IntWalk.i64_in _ (by omega)]; omega
        have x1 := ex_ix (kk := .i64) hlt
        have hsz := szL_at hlt
        have hfl := flat_len20 (ks.take i) fun k hk => hks k (List.mem_of_mem_take hk)
        have ht1 : (ks.take (i + 1)).flatMap encB = (ks.take i).flatMap encB ++ encB ks[i] := by rw [List.take_succ_eq_append_getElem hlt, List.flatMap_append]; simp
        have hAm : ks[i] ∈ ks := List.getElem_mem hlt
        generalize ks[i] = A at x1 hsz ht1 hAm
        have hA1 := hkd A hAm
        have hA2 := hkok A hAm
        have lr := ex_lr A
        have cA := ex_cells A
        have st := ex_st A
        have ldc := ex_ldc A
        have hl0 : (mid ++ (ks.take i).flatMap encB).length = mid.length + ((ks.take i).flatMap encB).length := List.length_append
        simp only [wpA_skip, wpA_region, wpA_seq, wpA_cond, wpA_block, condI_true, seqQ_normal, goI_out, goI_ops, opsA_nil, opsA_cons, stepA_move, stepA_alloc, stepA_load, stepA_store, stepA_binOp, stepA_indexAddr, stepA_call, thenV_some, thenH_some, thenS_some, eval_tmp, put_some, put_none, aBin_lss, aLoad_eq, loadGo_row, aPlace_ptr, aPlace_at, dropC_cells, aStore_eq, storeGo_ptr, aAlloc_eq, get_push_new, set_push, Nat.reduceEqDiff, reduceCtorEq, List.map_cons, List.map_nil, Option.map_some, Nat.zero_le, List.drop_zero, if_true, if_false, lt_27, zc_27, zt_27, f0, f20, f21, f22, d1, x1, lr, cA, st, ldc]
        refine callI_pure cal69 (pEncode d A _ _ _ hA1 hA2 (Rd.imm _ _) (by omega)) ?_
        rw [List.append_assoc, ← ht1]
        simp only [wpA_region, seqQ_normal, blkQ_normal, endI_mk, andThen_normal, goI_out, goI_ops, opsA_nil, opsA_cons, stepA_move, stepA_assign, stepA_binOp, thenV_some, eval_tmp, eval_const, put_some, put_none, aBin_add, absV_int, Nat.reduceEqDiff, reduceCtorEq, if_true, if_false, f22, hw]
        exact hid_mk ⟨i + 1, ⟨rfl, f20, f21, rfl, hlt, k1.then_push _⟩, by omega⟩
      · have d1 : decide ((i : Int) < ((ks.length : Nat) : Int)) = false := decide_eq_false (by omega)
        rw [List.take_of_length_le (by omega)] at f0
        simp only [wpA_region, wpA_seq, wpA_cond, wpA_exit, wpA_ret, condI_false, seqQ_normal, seqQ_exit, blkQ_exit, endI_mk, goE, andThen_exit, goI_out, goI_ops, opsA_nil, opsA_cons, stepA_move, stepA_assign, stepA_binOp, thenV_some, eval_tmp, put_some, aBin_lss, Nat.reduceEqDiff, reduceCtorEq, if_true, if_false, f0, f21, f22, d1, retA_ret, Tryz.results69, resultsA_1]
        exact hid_mk ⟨rfl, k1⟩
    · have c1 : ((k : Int) == 1) = false := by simpa using h1
      have m1 : cs ++ enc k = mid := by rw [hmid, if_neg h1, List.append_nil]
      rw [m1]
      simp only [wpA_skip, wpA_region, wpA_seq, wpA_cond, wpA_block, wpA_loop, condI_false, seqQ_normal, goI_out, goI_ops, opsA_nil, opsA_cons, stepA_move, stepA_assign, stepA_load, stepA_binOp, stepA_fieldAddr, stepA_len, thenV_some, eval_tmp, eval_const, put_some, enterF_succ, aBin_eql, absV_int, aField_eq, fieldGo_ptr, aLoad_eq, loadGo_one, aPlace_ptr, aLen_imm, Nat.reduceEqDiff, reduceCtorEq, Nat.add_zero, Nat.zero_add, if_true, if_false, ft_27_0, ft_27_2, kt_25, lt_25, lt_3, gH, hd0, hd2, c1]
      refine SWp.loopG (α := Nat) (fun i f h' => f 0 = .imm (mid ++ (ks.take i).flatMap encB).length (bytesV (mid ++ (ks.take i).flatMap encB)) ∧ f 20 = .imm ks.length (ks.flatMap encE) ∧ f 21 = .int .i64 ((ks.length : Nat) : Int) ∧ f 22 = .int .i64 (i : Nat) ∧ i ≤ ks.length ∧ Keep h h' none_) (fun i => ks.length - i) 0
        ⟨(show V.imm _ _ = _ by simp), rfl, rfl, rfl, Nat.zero_le _, kH⟩ ?_
      rintro i f h1 ⟨f0, f20, f21, f22, hi, k1⟩
      refine wpI_sound (by kernel_rfl) ?_
      by_cases hlt : i < ks.length
      · have d1 : decide ((i : Int) < ((ks.length : Nat) : Int)) = true := decide_eq_true (by omega)
        have hw : IntKind.i64.wrap (((i : Nat) : Int) + 1) = ((i + 1 : Nat) : Int) := by rw [Go.IntWalk.i64_in _ (by omega)]; omega
        have x1 := ex_ix (kk := .i64) hlt
        have hsz := szL_at hlt
        have hfl := flat_len20 (ks.take i) fun k hk => hks k (List.mem_of_mem_take hk)
        have ht1 : (ks.take (i + 1)).flatMap encB = (ks.take i).flatMap encB ++ encB ks[i] := by rw [List.take_succ_eq_append_getElem hlt, List.flatMap_append]; simp
        have hAm : ks[i] ∈ ks := List.getElem_mem hlt
        generalize ks[i] = A at x1 hsz ht1 hAm
        have hA1 := hkd A hAm
        have hA2 := hkok A hAm
        have lr := ex_lr A
        have cA := ex_cells A
        have st := ex_st A
        have ldc := ex_ldc A
        have hl0 : (mid ++ (ks.take i).flatMap encB).length = mid.length + ((ks.take i).flatMap encB).length := List.length_append
        simp only [wpA_skip, wpA_region, wpA_seq, wpA_cond, wpA_block, condI_true, seqQ_normal, goI_out, goI_ops, opsA_nil, opsA_cons, stepA_move, stepA_alloc, stepA_load, stepA_store, stepA_binOp, stepA_indexAddr, stepA_call, thenV_some, thenH_some, thenS_some, eval_tmp, put_some, put_none, aBin_lss, aLoad_eq, loadGo_row, aPlace_ptr, aPlace_at, dropC_cells, aStore_eq, storeGo_ptr, aAlloc_eq, get_push_new, set_push, Nat.reduceEqDiff, reduceCtorEq, List.map_cons, List.map_nil, Option.map_some, Nat.zero_le, List.drop_zero, if_true, if_false, lt_27, zc_27, zt_27, f0, f20, f21, f22, d1, x1, lr, cA, st, ldc]
        refine callI_pure cal69 (pEncode d A _ _ _ hA1 hA2 (Rd.imm _ _) (by omega)) ?_
        rw [List.append_assoc, ← ht1]
        simp only [wpA_region, seqQ_normal, blkQ_normal, endI_mk, andThen_normal, goI_out, goI_ops, opsA_nil, opsA_cons, stepA_move, stepA_assign, stepA_binOp, thenV_some, eval_tmp, eval_const, put_some, put_none, aBin_add, absV_int, Nat.reduceEqDiff, reduceCtorEq, if_true, if_false, f22, hw]
        exact hid_mk ⟨i + 1, ⟨rfl, f20, f21, rfl, hlt, k1.then_push _⟩, by omega⟩
      · have d1 : decide ((i : Int) < ((ks.length : Nat) : Int)) = false := decide_eq_false (by omega)
        rw [List.take_of_length_le (by omega)] at f0
        simp only [wpA_region, wpA_seq, wpA_cond, wpA_exit, wpA_ret, condI_false, seqQ_normal, seqQ_exit, blkQ_exit, endI_mk, goE, andThen_exit, goI_out, goI_ops, opsA_nil, opsA_cons, stepA_move, stepA_assign, stepA_binOp, thenV_some, eval_tmp, put_some, aBin_lss, Nat.reduceEqDiff, reduceCtorEq, if_true, if_false, f0, f21, f22, d1, retA_ret, Tryz.results69, resultsA_1]
        exact hid_mk ⟨rfl, k1⟩

/-! ### Bytes -/
theorem mayX_ok {e : Ex} (hm : mayX e = true) : okX 16 e := by
  unfold mayX at hm
  cases hc : cnt 16 64 e with
  | none => rw [hc] at hm; cases hm
  | some c => exact ⟨64, c, hc⟩
def bytX (e : Ex) : List Nat := if mayX e = true then encB e else []
def bytV (e : Ex) : V := .tuple [.imm (bytX e).length (bytesV (bytX e)), .int .i64 (if mayX e = true then 0 else 1)]
theorem bytV_clo (e : Ex) : Clo (bytV e) := Clo.tuple (CloL.cons (Clo.imm (bytesV_clo _)) (CloL.cons (Clo.int _ _) CloL.nil))
theorem mayX_sz {e : Ex} (h : mayX e = true) : szE e ≤ 64 := by
  unfold mayX at h
  rw [cnt_eq] at h
  split at h
  · rename_i hh; exact hh.2
  · cases h
set_option maxRecDepth 10000 in
theorem pBytesX (e : Ex) (hok : OkE e) (h : AHeap) (hg : KG h) : Pure Tryz.prog 34 [.agg (encE e)] h (bytV e) := by
  refine Pure.of (bytV_clo e) ?_
  refine SCalls.enterI (c := _) Tryz.func34 rfl (by kernel_rfl) (by simp) ?_
  have hc := ex_cells e
  have ldc := ex_ldc e
  have hdr : dropC (AObj.cells (encE e) 27 none) 0 = some (encE e) := by cases e; rfl
  have hld : loadGo (some (some 3)) (some (encE e)) = some (.agg (encE e)) := by cases e; rfl
  have hg1 : ∀ a, KG (h.push a) := fun a => by unfold KG; rw [push_glob]; exact hg
  simp only [wpA_region, wpA_seq, seqQ_normal, goI_out, goI_ops, opsA_nil, opsA_cons, stepA_assign, stepA_box, stepA_load, stepA_call, thenV_some, thenH_some, eval_tmp, eval_const, put_some, enterF_zero, enterF_succ, absV_int, absV_snil, aLoad_eq, aPlace_ptr, aBox_eq, get_push_new, Nat.reduceEqDiff, List.map_cons, List.map_nil, Option.map_some, if_true, if_false, lt_27, hc, hdr, hld]
  refine callI_pure cal68 (pMay e _ (hg1 _)) ?_
  unfold bytV bytX
  cases hm : mayX e
  · simp only [wpA_region, wpA_seq, wpA_cond, wpA_ret, condI_true, seqQ_normal, seqQ_ret, endI_mk, goI_out, goI_ops, opsA_nil, opsA_cons, stepA_assign, stepA_unOp, thenV_some, eval_tmp, eval_const, put_some, enterF_succ, aUn_not, absV_int, absV_snil, Nat.reduceEqDiff, if_true, if_false, Bool.not_false, retA_ret, Tryz.results34, resultsA_2]
    exact hid_mk ⟨_, Cast.tuple (CastL.cons (Cast.snil0 _) (CastL.refl _ _)), Keep.push _ _ _⟩
  · have hsz := mayX_sz hm
    simp only [wpA_skip, wpA_region, wpA_seq, wpA_cond, condI_false, seqQ_normal, goI_out, goI_ops, opsA_nil, opsA_cons, stepA_load, stepA_unOp, stepA_call, thenV_some, eval_tmp, eval_const, put_some, enterF_succ, aUn_not, absV_snil, aLoad_eq, aPlace_ptr, get_push_new, Nat.reduceEqDiff, List.map_cons, List.map_nil, if_true, if_false, Bool.not_true, lt_27, hdr, hld]
    refine callI_pure cal69 (pEncode 16 e _ .snil [] (mayX_ok hm) hok (Rd.snil _) (by simp only [List.length_nil]; omega)) ?_
    simp only [wpA_ret, seqQ_normal, endI_mk, goI_out, goI_ops, opsA_nil, opsA_cons, stepA_assign, eval_tmp, eval_const, put_some, enterF_succ, absV_int, Nat.reduceEqDiff, List.nil_append, if_true, if_false, retA_ret, Tryz.results34, resultsA_2]
    exact hid_mk ⟨_, Cast.refl _ _, Keep.push _ _ _⟩

end Go.Proofs.YtpjfhfmbhjghcaaGreatDoor.Pk
