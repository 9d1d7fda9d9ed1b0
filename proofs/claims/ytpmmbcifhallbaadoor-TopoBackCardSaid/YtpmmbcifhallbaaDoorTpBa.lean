/-
  What functions of the program do, told of abstract states. Conditions: as each theorem says.
-/
import Derived.Test.YtpmmbcifhallbaaDoorExV
import Derived.Test.YtpmmbcifhallbaaDoorTpI
namespace Go.Proofs.YtpmmbcifhallbaaDoor.Pk
open Go Go.Proofs Go.Proofs.YtpmmbcifhallbaaDoor.Ab
set_option linter.unusedVariables false
set_option linter.unusedSimpArgs false
/-! ### A topology's bytes -/
def encV (v : Vx) : List Nat := enc v.kind.toNat ++ encInts v.frm ++ enc (zz v.n) ++ encBytes (bytX v.e)
def encT (p : Int) (l : List Vx) : List Nat := enc p.toNat ++ enc l.length ++ l.flatMap encV
def bytT (p : Int) (l : List Vx) : List Nat := if (chkT p l).2 = 0 then encT p l else []
theorem from_le : ∀ k, k < 11 → (needsR.getD k (0, 0, 0, 0)).1 ≤ 2 := by decide
theorem chk_all {p : Int} {l : List Vx} (h : (chkT p l).2 = 0) : (1 ≤ p ∧ p ≤ 8) ∧ 1 ≤ l.length ∧ l.length ≤ 24 ∧ ∀ v ∈ l, (1 ≤ v.kind ∧ v.kind ≤ 10) ∧ v.frm.length ≤ 2 ∧ (∀ f ∈ v.frm, 0 ≤ f ∧ f < 24) ∧ hasX v = true := by
  unfold chkT at h
  split at h
  · cases h
  rename_i hb
  refine ⟨by omega, by omega, by omega, fun v hv => ?_⟩
  obtain ⟨i, hi, rfl⟩ := List.getElem_of_mem hv
  have h0 := (chkF_ok h).2 i l[i] (List.getElem?_eq_getElem hi)
  rw [Nat.zero_add] at h0
  obtain ⟨k1, k2, k3, _, _⟩ := chkV_zero h0
  refine ⟨k1, ?_, fun f hf => by have := k2 f hf; omega, k3⟩
  have := k3
  unfold hasX meetsX at this
  simp only [Bool.and_eq_true, decide_eq_true_eq] at this
  have h2 := from_le l[i].kind.toNat (by omega)
  omega
theorem bytX_len {e : Ex} (hok : OkE e) : (bytX e).length ≤ 1280 := by
  unfold bytX
  split
  · rename_i hm
    have h1 := encB_len (szE e) e rfl hok
    have h2 := mayX_sz hm
    omega
  · simp
theorem encInts_len {l : List Int} (h : ∀ n ∈ l, -2 ^ 63 ≤ n ∧ n < 2 ^ 63) (hl : l.length ≤ 2) : (encInts l).length ≤ 30 := by
  unfold encInts
  rw [List.length_append]
  have h1 := enc_flat h
  have h2 := (enc_le l.length (by omega)).2
  omega
theorem encV_len {v : Vx} (hok : OkX v) (hk : 1 ≤ v.kind ∧ v.kind ≤ 10) (hl : v.frm.length ≤ 2) : (encV v).length ≤ 1400 := by
  unfold encV encBytes
  simp only [List.length_append]
  have h1 := encInts_len hok.2.2.2.2 hl
  have h2 := (enc_le v.kind.toNat (by omega)).2
  have h3 := (enc_le (zz v.n) (zz_lt _ hok.2.2.2.1.1 hok.2.2.2.1.2)).2
  have h4 := bytX_len hok.1
  have h5 := (enc_le (bytX v.e).length (by omega)).2
  omega
theorem encVs_len {l : List Vx} (h : ∀ v ∈ l, (encV v).length ≤ 1400) : (l.flatMap encV).length ≤ 1400 * l.length := by
  induction l with
  | nil => simp
  | cons v l ih =>
    have h1 := h v (by simp)
    have h2 := ih fun u hu => h u (by simp [hu])
    simp only [List.flatMap_cons, List.length_append, List.length_cons]
    omega
def bytTV (p : Int) (l : List Vx) : V := .tuple [.imm (bytT p l).length (bytesV (bytT p l)), .int .i64 (chkT p l).2]
theorem bytTV_clo (p : Int) (l : List Vx) : Clo (bytTV p l) := Clo.tuple (CloL.cons (Clo.imm (bytesV_clo _)) (CloL.cons (Clo.int _ _) CloL.nil))
set_option maxHeartbeats 1000000 in
set_option maxRecDepth 10000 in
theorem pTBytes (l : List Vx) (p : Int) (hok : OkT l) (h : AHeap) (hg : TG h) : Pure Tryd.prog 21 [.agg (topE l p)] h (bytTV p l) := by
  refine Pure.of (bytTV_clo p l) ?_
  have hc : (V.agg (topE l p)).cells = some [.imm l.length (l.flatMap encX), .int .i64 p] := rfl
  obtain ⟨H, hH⟩ : ∃ x, x = h.push (.cells [.imm l.length (l.flatMap encX), .int .i64 p] 24 none) := ⟨_, rfl⟩
  have gt : H.get h.n = .cells [.imm l.length (l.flatMap encX), .int .i64 p] 24 none := by rw [hH]; exact get_push_new
  have kH : Keep h H none_ := by rw [hH]; exact Keep.push _ _ _
  have nH : h.n < H.n := by rw [hH]; exact Nat.lt_succ_self _
  refine SCalls.enterI (c := _) Tryd.func21 rfl (by kernel_rfl) (by simp) ?_
  simp only [wpA_region, wpA_seq, seqQ_normal, goI_out, goI_ops, opsA_nil, opsA_cons, stepA_assign, stepA_box, stepA_load, stepA_call, thenV_some, thenH_some, eval_tmp, eval_const, put_some, enterF_zero, enterF_succ, absV_int, absV_snil, aLoad_eq, loadGo_row, aPlace_ptr, dropC_cells, aBox_eq, Nat.reduceEqDiff, Nat.reduceAdd, List.map_cons, List.map_nil, Option.map_some, Nat.zero_add, Nat.zero_le, List.length_cons, List.length_nil, List.drop_zero, List.take_succ_cons, List.take_nil, if_true, if_false, Nat.le_refl, lt_24, hc, ← hH, gt]
  refine callI_pure cal16 (pCheck l p hok H (hg.keep kH)) ?_
  by_cases h0 : (chkT p l).2 = 0
  rotate_left
  · have c1 : ((chkT p l).2 != 0) = true := by simpa using h0
    have hV : bytTV p l = .tuple [.imm 0 [], .int .i64 (chkT p l).2] := by unfold bytTV bytT; rw [if_neg h0]; rfl
    rw [hV]
    simp only [wpA_region, wpA_seq, wpA_cond, wpA_ret, condI_true, seqQ_normal, seqQ_ret, endI_mk, goI_out, goI_ops, opsA_nil, opsA_cons, stepA_move, stepA_assign, stepA_binOp, stepA_extract, thenV_some, extV_zero, extV_succ, eval_tmp, eval_const, put_some, enterF_succ, aBin_neq, absV_int, absV_snil, Nat.reduceEqDiff, if_true, if_false, chkA, c1, retA_ret, Tryd.results21, resultsA_2]
    exact hid_mk ⟨_, Cast.tuple (CastL.cons (Cast.snil0 _) (CastL.refl _ _)), kH⟩
  · have c1 : ((chkT p l).2 != 0) = false := by simpa using h0
    obtain ⟨hp, hl1, hl2, hall⟩ := chk_all h0
    obtain ⟨P, rfl⟩ := Int.eq_ofNat_of_zero_le (show 0 ≤ p by omega)
    have hV : bytTV P l = .tuple [.imm (encT P l).length (bytesV (encT P l)), .int .i64 0] := by unfold bytTV bytT; rw [if_pos h0, h0]
    have u1 := wrap_natU (n := P) (by omega)
    have u2 := wrap_natU (n := l.length) (by omega)
    simp only [wpA_skip, wpA_region, wpA_seq, wpA_cond, condI_false, seqQ_normal, goI_out, goI_ops, opsA_nil, opsA_cons, stepA_move, stepA_assign, stepA_load, stepA_binOp, stepA_convert, stepA_fieldAddr, stepA_extract, stepA_call, thenV_some, thenC_some, extV_zero, extV_succ, eval_tmp, eval_const, put_some, enterF_succ, aBin_neq, absV_int, absV_snil, aField_eq, fieldGo_ptr, aLoad_eq, loadGo_one, aPlace_ptr, dropC_cells, Nat.reduceEqDiff, Nat.reduceAdd, Nat.reduceLeDiff, List.map_cons, List.map_nil, Nat.zero_add, List.length_cons, List.length_nil, List.drop_zero, List.drop_succ_cons, if_true, if_false, ft_24_1, lt_3, chkA, c1, gt, aConv_int it_3 it_71, u1]
    refine callI_pure cal43 (pUint .snil [] P H (Rd.snil _) (by simp) (by omega)) ?_
    simp only [wpA_region, wpA_seq, seqQ_normal, goI_out, goI_ops, opsA_nil, opsA_cons, stepA_move, stepA_assign, stepA_load, stepA_convert, stepA_fieldAddr, stepA_len, stepA_call, thenV_some, thenC_some, eval_tmp, put_some, enterF_succ, aField_eq, fieldGo_ptr, aLoad_eq, loadGo_one, aPlace_ptr, dropC_cells, aLen_imm, Nat.reduceEqDiff, Nat.reduceAdd, List.map_cons, List.map_nil, Nat.add_zero, Nat.zero_add, Nat.zero_le, List.length_cons, List.length_nil, List.drop_zero, List.nil_append, if_true, if_false, ft_24_0, kt_22, lt_22, gt, aConv_int it_3 it_71, u2, List.nil_append]
    have e1 := (enc_le P (by omega)).2
    have e2 := (enc_le l.length (by omega)).2
    refine callI_pure cal43 (pUint _ _ l.length H (Rd.imm _ _) (by omega) (by omega)) ?_
    simp only [wpA_region, wpA_seq, wpA_block, wpA_loop, seqQ_normal, goI_out, goI_ops, opsA_nil, opsA_cons, stepA_move, stepA_assign, stepA_load, stepA_fieldAddr, stepA_len, thenV_some, eval_tmp, eval_const, put_some, enterF_succ, absV_int, aField_eq, fieldGo_ptr, aLoad_eq, loadGo_one, aPlace_ptr, dropC_cells, aLen_imm, Nat.reduceEqDiff, Nat.reduceAdd, Nat.add_zero, Nat.zero_add, Nat.zero_le, List.length_cons, List.length_nil, List.drop_zero, if_true, if_false, ft_24_0, kt_22, lt_22, gt]
    have hlen : ∀ v ∈ l, (encV v).length ≤ 1400 := fun v hv => encV_len (hok.2 v hv) (hall v hv).1 (hall v hv).2.1
    refine SWp.loopG (α := Nat) (fun i f h' => f 1 = .ptr h.n 0 ∧ f 6 = .imm (enc P ++ enc l.length ++ (l.take i).flatMap encV).length (bytesV (enc P ++ enc l.length ++ (l.take i).flatMap encV)) ∧ f 30 = .imm l.length (l.flatMap encX) ∧ f 31 = .int .i64 ((l.length : Nat) : Int) ∧ f 32 = .int .i64 (i : Nat) ∧ i ≤ l.length ∧ Keep h h' none_) (fun i => l.length - i) 0
      ⟨rfl, by simp only [List.take_zero, List.flatMap_nil, List.append_nil]; rfl, rfl, rfl, rfl, Nat.zero_le _, kH⟩ ?_
    rintro i f h1 ⟨f1, f6, f30, f31, f32, hi, k1⟩
    refine wpI_sound (by kernel_rfl) ?_
    by_cases hlt : i < l.length
    · have c5 : decide ((i : Int) < ((l.length : Nat) : Int)) = true := by simp only [decide_eq_true_eq]; omega
      have okA := hok.2 _ (List.getElem_mem hlt)
      obtain ⟨kA, lA, fA, _⟩ := hall _ (List.getElem_mem hlt)
      have x0 := rows_ix (kk := .i64) (P := Tryd.prog) encX_len hlt ss_22
      have hsn : (l.take (i + 1)).flatMap encV = (l.take i).flatMap encV ++ encV l[i] := flat_take l encV hlt
      have hcl : ((l.take i).flatMap encV).length ≤ 1400 * 24 := by
        have := encVs_len (l := l.take i) fun v hv => hlen v (List.mem_of_mem_take hv)
        rw [List.length_take] at this
        have : (l.take i).length ≤ 24 := by rw [List.length_take]; omega
        omega
      generalize l[i] = A at *
      have hX := encX_eq A
      have lr : ∀ (q : List V), loadGo (some (some 6)) (some (encX A ++ q)) = some (.agg (encX A)) := fun q => load_row (encX_len A)
      have hone : (V.agg (encX A)).cells = some (encX A) := rfl
      have hset : setC (some 6) (AObj.cells [.int .i64 0, .snil, .int .i64 0, .int .i64 0, .snil, .int .i64 0] 47 none) 0 (encX A) = some (.cells (encX A) 47 none) := by
        rw [setC_row (n := 6) (encX_len A) (encX_one A), if_pos (by decide), hX]; rfl
      have hd0 : dropC (AObj.cells (encX A) 47 none) 0 = some [.int .i64 A.kind, .imm A.frm.length (i64V A.frm), .int .i64 A.e.op, .int .i64 A.e.num, .imm A.e.ks.length (A.e.ks.flatMap encE), .int .i64 A.n] := by rw [hX]; rfl
      have hd1 : dropC (AObj.cells (encX A) 47 none) 1 = some [.imm A.frm.length (i64V A.frm), .int .i64 A.e.op, .int .i64 A.e.num, .imm A.e.ks.length (A.e.ks.flatMap encE), .int .i64 A.n] := by rw [hX]; rfl
      have hd2 : dropC (AObj.cells (encX A) 47 none) 2 = some (encE A.e ++ [.int .i64 A.n]) := by obtain ⟨k, fr, ⟨o, m, ks⟩, n⟩ := A; rw [hX, encE_eq]; rfl
      have hd5 : dropC (AObj.cells (encX A) 47 none) 5 = some [.int .i64 A.n] := by rw [hX]; rfl
      have w2 : IntKind.i64.wrap (((i : Nat) : Int) + 1) = ((i + 1 : Nat) : Int) := by rw [Go.IntWalk.i64_in _ (by omega)]; omega
      have uk : IntKind.u64.wrap A.kind = ((A.kind.toNat : Nat) : Int) := by rw [IntKind.wrap_u64]; omega
      have lrE := ex_lr A.e
      obtain ⟨cs, hcs⟩ : ∃ y, y = enc P ++ enc l.length ++ (l.take i).flatMap encV := ⟨_, rfl⟩
      have hcs2 : enc P ++ enc l.length ++ (l.take (i + 1)).flatMap encV = (((cs ++ enc A.kind.toNat) ++ encInts A.frm) ++ enc (zz A.n)) ++ encBytes (bytX A.e) := by rw [hsn, hcs, encV]; simp only [List.append_assoc]
      have hcn : cs.length ≤ 40000 := by rw [hcs]; simp only [List.length_append]; omega
      rw [← hcs] at f6
      have g1 := (enc_le A.kind.toNat (by omega)).2
      have g2 := encInts_len okA.2.2.2.2 lA
      have g3 := (enc_le (zz A.n) (zz_lt _ okA.2.2.2.1.1 okA.2.2.2.1.2)).2
      have g4 := bytX_len okA.1
      have hgH : TG (h1.push (.cells (encX A) 47 none)) := hg.keep (k1.trans' (Keep.push _ _ _))
      simp only [wpA_skip, wpA_region, wpA_seq, wpA_cond, wpA_block, condI_true, seqQ_normal, goI_out, goI_ops, opsA_nil, opsA_cons, stepA_move, stepA_alloc, stepA_load, stepA_store, stepA_binOp, stepA_convert, stepA_fieldAddr, stepA_indexAddr, stepA_call, thenV_some, thenC_some, thenH_some, thenS_some, eval_tmp, put_some, put_none, aBin_lss, aField_eq, fieldGo_ptr, aLoad_eq, loadGo_one, aPlace_ptr, aPlace_at, aStore_eq, storeGo_ptr, aAlloc_eq, get_push_new, set_push, Nat.reduceEqDiff, List.map_cons, List.map_nil, Option.map_some, Nat.add_zero, if_true, if_false, ft_47_0, lt_3, lt_47, zc_47, zt_47, f6, f30, f31, f32, c5, x0, lr, hone, hset, hd0, aConv_int it_3 it_71, uk]
      refine callI_pure cal43 (pUint _ _ A.kind.toNat _ (Rd.imm _ _) (by omega) (by omega)) ?_
      simp only [wpA_region, wpA_seq, seqQ_normal, goI_out, goI_ops, opsA_nil, opsA_cons, stepA_move, stepA_assign, stepA_load, stepA_fieldAddr, stepA_call, thenV_some, eval_tmp, put_some, put_none, aField_eq, fieldGo_ptr, aLoad_eq, loadGo_one, aPlace_ptr, get_push_new, Nat.reduceEqDiff, List.map_cons, List.map_nil, Nat.zero_add, if_true, if_false, ft_47_1, lt_33, hd1]
      refine callI_pure cal44 (pInts _ _ A.frm _ (Rd.imm _ _) okA.2.2.2.2 (by rw [List.length_append]; omega)) ?_
      simp only [wpA_region, wpA_seq, seqQ_normal, goI_out, goI_ops, opsA_nil, opsA_cons, stepA_move, stepA_assign, stepA_load, stepA_fieldAddr, stepA_call, thenV_some, eval_tmp, put_some, put_none, aField_eq, fieldGo_ptr, aLoad_eq, loadGo_one, aPlace_ptr, get_push_new, Nat.reduceEqDiff, List.map_cons, List.map_nil, Nat.zero_add, if_true, if_false, ft_47_3, lt_2, hd5]
      refine callI_pure cal45 (pInt _ _ A.n _ (Rd.imm _ _) (by simp only [List.length_append]; omega) okA.2.2.2.1.1 okA.2.2.2.1.2) ?_
      simp only [wpA_region, wpA_seq, seqQ_normal, goI_out, goI_ops, opsA_nil, opsA_cons, stepA_assign, stepA_load, stepA_fieldAddr, stepA_call, thenV_some, eval_tmp, put_some, put_none, aField_eq, fieldGo_ptr, aLoad_eq, aPlace_ptr, get_push_new, Nat.reduceEqDiff, List.map_cons, List.map_nil, Nat.zero_add, if_true, if_false, ft_47_2, lt_45, hd2, lrE]
      refine callI_pure cal46 (pBytesX A.e okA.1 _ hgH.1) ?_
      simp only [wpA_region, seqQ_normal, goI_out, goI_ops, opsA_nil, opsA_cons, stepA_move, stepA_assign, stepA_extract, stepA_call, thenV_some, extV_zero, extV_succ, eval_tmp, put_some, put_none, Nat.reduceEqDiff, List.map_cons, List.map_nil, if_true, if_false, bytV]
      refine callI_pure cal47 (pBytes _ _ _ (bytX A.e) _ (Rd.imm _ _) (Rd.imm _ _) (by simp only [List.length_append]; omega)) ?_
      simp only [wpA_region, seqQ_normal, blkQ_normal, endI_mk, andThen_normal, goI_out, goI_ops, opsA_nil, opsA_cons, stepA_move, stepA_assign, stepA_binOp, thenV_some, eval_tmp, eval_const, put_some, put_none, aBin_add, absV_int, Nat.reduceEqDiff, if_true, if_false, f32, w2]
      exact hid_mk ⟨i + 1, ⟨f1, by rw [hcs2]; rfl, f30, f31, rfl, by omega, k1.trans' (Keep.push _ _ _)⟩, by omega⟩
    · have c5 : decide ((i : Int) < ((l.length : Nat) : Int)) = false := by simp only [decide_eq_false_iff_not]; omega
      rw [List.take_of_length_le (by omega)] at f6
      rw [hV]
      simp only [wpA_region, wpA_seq, wpA_cond, wpA_exit, wpA_ret, condI_false, seqQ_normal, seqQ_exit, blkQ_exit, endI_mk, goE, andThen_exit, goI_out, goI_ops, opsA_nil, opsA_cons, stepA_move, stepA_assign, stepA_binOp, thenV_some, eval_tmp, eval_const, put_some, aBin_lss, absV_int, Nat.reduceEqDiff, if_true, if_false, f6, f31, f32, c5, retA_ret, Tryd.results21, resultsA_2]
      exact hid_mk ⟨_, Cast.refl _ _, k1⟩
end Go.Proofs.YtpmmbcifhallbaaDoor.Pk
