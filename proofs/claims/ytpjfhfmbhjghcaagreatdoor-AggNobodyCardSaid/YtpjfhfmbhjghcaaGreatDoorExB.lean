/-
  What functions of the program do, told of abstract states. Conditions: as each theorem says.
-/
import Derived.Test.YtpjfhfmbhjghcaaGreatDoorExA
namespace Go.Proofs.YtpjfhfmbhjghcaaGreatDoor.Pk
open Go Go.Proofs Go.Proofs.YtpjfhfmbhjghcaaGreatDoor.Ab
set_option linter.unusedVariables false
set_option linter.unusedSimpArgs false

/-- How many expressions, within so many levels and so much room. -/
def cntL (f : Nat → Ex → Option Nat) (room : Nat) : Nat → List Ex → Option Nat
  | m, [] => some m
  | m, k :: r => match f (room - m) k with
    | some c => cntL f room (m + c) r
    | none => none
def cnt : Nat → Nat → Ex → Option Nat
  | 0, _, _ => none
  | l + 1, room, e => if room = 0 ∨ fitsX e = false then none else cntL (cnt l) room 1 e.ks
theorem cntL_le {f : Nat → Ex → Option Nat} {room : Nat} (hf : ∀ q e c, f q e = some c → 1 ≤ c ∧ c ≤ q) : ∀ {m : Nat} {l : List Ex} {c : Nat}, 1 ≤ m → m ≤ room → cntL f room m l = some c → 1 ≤ c ∧ c ≤ room
  | m, [], c, h1, h2, h => by simp [cntL] at h; omega
  | m, k :: r, c, h1, h2, h => by
    unfold cntL at h
    split at h
    · rename_i d hd
      have := hf _ _ _ hd
      exact cntL_le hf (by omega) (by omega) h
    · cases h
theorem cnt_le : ∀ {l room : Nat} {e : Ex} {c : Nat}, cnt l room e = some c → 1 ≤ c ∧ c ≤ room
  | 0, _, _, _, h => by simp [cnt] at h
  | l + 1, room, e, c, h => by
    unfold cnt at h
    split at h
    · cases h
    · rename_i hr
      exact cntL_le (fun q e c => cnt_le) (by omega) (by omega) h
def cntV : Option Nat → V
  | some m => .tuple [.int .i64 (m : Nat), .bool true]
  | none => .tuple [.int .i64 0, .bool false]
theorem fits_ks {o n : Int} {l : List Ex} (h : fitsX (.mk o n l) = true) : l.length ≤ 3 := by
  simp only [fitsX, Bool.and_eq_true, Bool.or_eq_true, decide_eq_true_eq] at h
  obtain ⟨⟨h1, h2⟩, h3, _⟩ := h
  have : ∀ k : Nat, kidsN.getD k 0 ≤ 3 := fun k => by
    by_cases hk : k < 17
    · revert hk; revert k; decide
    · rw [List.getD, List.getElem?_eq_none (by simp [kidsN]; omega)]; decide
  have := this o.toNat
  omega
theorem ex_ix {l : List Ex} {k : Nat} (hk : k < l.length) {kk : IntKind} : aIndexAddr Tryz.prog 25 (.imm l.length (l.flatMap encE)) (.int kk (k : Int)) = some (.at (encE l[k] ++ (l.drop (k + 1)).flatMap encE)) := rows_ix encE_len hk ss_25

set_option maxRecDepth 10000 in
theorem pCount : ∀ (l room : Nat) (e : Ex) (h : AHeap), KG h → l ≤ 16 → room ≤ 64 → Pure Tryz.prog 102 [.agg (encE e), .int .i64 (l : Nat), .int .i64 (room : Nat)] h (cntV (cnt l room e))
  | 0, room, e, h, hg, _, _ => by
    refine Pure.val (Clo.tuple (CloL.cons (Clo.int _ _) (CloL.cons (Clo.bool _) CloL.nil))) ?_
    refine SCalls.enterI (c := _) Tryz.func102 rfl (by kernel_rfl) (by simp) ?_
    have hc : (V.agg (encE e)).cells = some (encE e) := rfl
    have c1 : (((0 : Nat) : Int) == 0) = true := rfl
    simp only [wpA_region, wpA_seq, wpA_cond, wpA_ret, condI_true, seqQ_normal, seqQ_ret, endI_mk, goI_out, goI_ops, opsA_nil, opsA_cons, opsA_guardS, gvI_tf, slotAt_zero, slotAt_succ, stepA_move, stepA_assign, stepA_pick, stepA_box, stepA_binOp, thenV_some, thenH_some, pickV_true, eval_tmp, eval_const, put_some, enterF_zero, enterF_succ, aBin_eql, absV_int, absV_bool, aBox_eq, Nat.reduceEqDiff, Option.map_some, if_true, if_false, hc, c1, retA_ret, Tryz.results102, resultsA_2]
    exact hid_mk ⟨rfl, Keep.push _ _ _⟩
  | l + 1, room, e, h, hg, hl, hr => by
    have hclo : Clo (cntV (cnt (l + 1) room e)) := by
      cases cnt (l + 1) room e <;> exact Clo.tuple (CloL.cons (Clo.int _ _) (CloL.cons (Clo.bool _) CloL.nil))
    refine Pure.val hclo ?_
    refine SCalls.enterI (c := _) Tryz.func102 rfl (by kernel_rfl) (by simp) ?_
    have hc : (V.agg (encE e)).cells = some (encE e) := rfl
    have c1 : (((l + 1 : Nat) : Int) == 0) = false := by simp only [beq_eq_false_iff_ne, ne_eq]; omega
    by_cases h0 : room = 0
    · have c2 : (((room : Nat) : Int) == 0) = true := by simp [h0]
      have hG : cnt (l + 1) room e = none := by simp [cnt, h0]
      simp only [wpA_region, wpA_seq, wpA_cond, wpA_ret, condI_true, seqQ_normal, seqQ_ret, endI_mk, goI_out, goI_ops, opsA_nil, opsA_cons, opsA_guardS, gvI_same, gvI_tf, slotAt_zero, slotAt_succ, stepA_move, stepA_assign, stepA_pick, stepA_box, stepA_binOp, thenV_some, thenH_some, pickV_true, pickV_false, eval_tmp, eval_const, put_some, enterF_zero, enterF_succ, aBin_eql, absV_int, absV_bool, aBox_eq, Nat.reduceEqDiff, Option.map_some, if_true, if_false, hc, c1, c2, retA_ret, Tryz.results102, resultsA_2]
      exact hid_mk ⟨by rw [hG]; rfl, Keep.push _ _ _⟩
    have c2 : (((room : Nat) : Int) == 0) = false := by simp only [beq_eq_false_iff_ne, ne_eq]; omega
    have hdr : dropC (AObj.cells (encE e) 27 none) 0 = some (encE e) := by cases e; rfl
    have hld : loadGo (some (some 3)) (some (encE e)) = some (.agg (encE e)) := by cases e; rfl
    have hg1 : ∀ a, KG (h.push a) := fun a => by unfold KG; rw [push_glob]; exact hg
    simp only [wpA_region, wpA_seq, seqQ_normal, goI_out, goI_ops, opsA_nil, opsA_cons, opsA_guardS, gvI_same, slotAt_zero, slotAt_succ, stepA_move, stepA_assign, stepA_pick, stepA_box, stepA_load, stepA_binOp, stepA_call, thenV_some, thenH_some, pickV_false, eval_tmp, eval_const, put_some, enterF_zero, enterF_succ, aBin_eql, absV_int, absV_bool, aLoad_eq, aPlace_ptr, aBox_eq, get_push_new, Nat.reduceEqDiff, List.map_cons, List.map_nil, Option.map_some, if_true, if_false, lt_27, hc, c1, c2, hdr, hld]
    refine callI_pure cal138 (pFits e _ (hg1 _)) ?_
    by_cases hf : fitsX e = false
    · have hG : cnt (l + 1) room e = none := by simp [cnt, hf]
      simp only [wpA_region, wpA_seq, wpA_cond, wpA_ret, condI_true, seqQ_normal, seqQ_ret, endI_mk, goI_out, goI_ops, opsA_nil, opsA_cons, opsA_guardS, gvI_same, slotAt_zero, slotAt_succ, stepA_assign, stepA_pick, stepA_unOp, thenV_some, pickV_false, eval_tmp, eval_const, put_some, enterF_succ, aUn_not, absV_int, absV_bool, Nat.reduceEqDiff, if_true, if_false, Bool.not_false, hf, retA_ret, Tryz.results102, resultsA_2]
      exact hid_mk ⟨by rw [hG]; rfl, Keep.push _ _ _⟩
    have hf' : fitsX e = true := by simpa using hf
    obtain ⟨o, n, ks⟩ := e
    have hk3 := fits_ks hf'
    have hG : cnt (l + 1) room (.mk o n ks) = cntL (cnt l) room 1 ks := by simp [cnt, h0, hf', Ex.ks]
    have hd2 : dropC (AObj.cells (encE (.mk o n ks)) 27 none) 2 = some [.imm ks.length (ks.flatMap encE)] := by rw [encE_eq]; rfl
    simp only [wpA_skip, wpA_region, wpA_seq, wpA_cond, wpA_block, wpA_loop, condI_false, seqQ_normal, goI_out, goI_ops, opsA_nil, opsA_cons, opsA_guardS, gvI_same, slotAt_zero, slotAt_succ, stepA_move, stepA_assign, stepA_pick, stepA_load, stepA_unOp, stepA_fieldAddr, stepA_len, thenV_some, pickV_false, eval_tmp, eval_const, put_some, enterF_succ, aUn_not, absV_int, absV_bool, aField_eq, fieldGo_ptr, aLoad_eq, loadGo_one, aPlace_ptr, aLen_imm, get_push_new, Nat.reduceEqDiff, Nat.zero_add, if_true, if_false, Bool.not_true, ft_27_2, kt_25, lt_25, hf', hd2]
    refine SWp.loopG (α := Nat × Nat) (fun x f h' => f 1 = .int .i64 ((l + 1 : Nat) : Int) ∧ f 2 = .int .i64 (room : Nat) ∧ f 25 = .imm ks.length (ks.flatMap encE) ∧ f 26 = .int .i64 ((ks.length : Nat) : Int) ∧ f 27 = .int .i64 (x.1 : Nat) ∧ f 8 = .int .i64 (x.2 : Nat) ∧ x.1 ≤ ks.length ∧ 1 ≤ x.2 ∧ x.2 ≤ room ∧ Keep h h' none_ ∧ cntL (cnt l) room 1 ks = cntL (cnt l) room x.2 (ks.drop x.1))
      (fun x => ks.length - x.1) (0, 1) ⟨rfl, rfl, rfl, rfl, rfl, rfl, Nat.zero_le _, Nat.le_refl _, by omega, Keep.push _ _ _, rfl⟩ ?_
    rintro ⟨i, m⟩ f h' ⟨f1, f2, f25, f26, f27, f8, hi, hm1, hm2, hk, hE⟩
    simp only at f27 f8 hi hm1 hm2 hE
    refine wpI_sound (by kernel_rfl) ?_
    by_cases hlt : i < ks.length
    rotate_left
    · have c3 : decide ((i : Int) < ((ks.length : Nat) : Int)) = false := by simp only [decide_eq_false_iff_not]; omega
      rw [List.drop_of_length_le (by omega)] at hE
      simp only [wpA_region, wpA_seq, wpA_cond, wpA_exit, wpA_ret, condI_false, seqQ_normal, seqQ_exit, blkQ_exit, endI_mk, goE, andThen_exit, goI_out, goI_ops, opsA_nil, opsA_cons, stepA_move, stepA_assign, stepA_binOp, thenV_some, eval_tmp, eval_const, put_some, aBin_lss, absV_bool, Nat.reduceEqDiff, if_true, if_false, f26, f27, f8, c3, retA_ret, Tryz.results102, resultsA_2]
      exact hid_mk ⟨by rw [hG, hE]; rfl, hk⟩
    · have c3 : decide ((i : Int) < ((ks.length : Nat) : Int)) = true := by simp only [decide_eq_true_eq]; omega
      rw [List.drop_eq_getElem_cons hlt] at hE
      have x0 := ex_ix (kk := .i64) hlt
      generalize ks[i] = A at *
      have lr : ∀ (q : List V), loadGo (some (some 3)) (some (encE A ++ q)) = some (.agg (encE A)) := fun q => load_row (encE_len A)
      have hone : (V.agg (encE A)).cells = some (encE A) := rfl
      have hset : setC (some 3) (AObj.cells [.int .i64 0, .int .i64 0, .snil] 27 none) 0 (encE A) = some (.cells (encE A) 27 none) := by
        rw [setC_row (n := 3) (encE_len A) (encE_one A), if_pos (by decide)]; cases A; rfl
      have hdA : dropC (AObj.cells (encE A) 27 none) 0 = some (encE A) := by cases A; rfl
      have hlA : loadGo (some (some 3)) (some (encE A)) = some (.agg (encE A)) := by cases A; rfl
      have w0 : IntKind.i64.wrap (((l + 1 : Nat) : Int) - 1) = ((l : Nat) : Int) := by rw [Go.IntWalk.i64_in _ (by omega)]; omega
      have w1 : IntKind.i64.wrap (((room : Nat) : Int) - ((m : Nat) : Int)) = ((room - m : Nat) : Int) := by rw [Go.IntWalk.i64_in _ (by omega)]; omega
      have w2 : IntKind.i64.wrap (((i : Nat) : Int) + 1) = ((i + 1 : Nat) : Int) := by rw [Go.IntWalk.i64_in _ (by omega)]; omega
      have hgh : KG h' := by unfold KG; rw [hk.glob]; exact hg
      have ih := pCount l (room - m) A (h'.push (.cells (encE A) 27 none)) (by unfold KG; rw [push_glob]; exact hgh) (by omega) (by omega)
      simp only [wpA_skip, wpA_region, wpA_seq, wpA_cond, wpA_block, condI_true, seqQ_normal, goI_out, goI_ops, opsA_nil, opsA_cons, stepA_move, stepA_alloc, stepA_load, stepA_store, stepA_binOp, stepA_indexAddr, stepA_call, thenV_some, thenH_some, thenS_some, eval_tmp, eval_const, put_some, put_none, aBin_sub, aBin_lss, absV_int, aLoad_eq, aPlace_ptr, aPlace_at, aStore_eq, storeGo_ptr, aAlloc_eq, get_push_new, set_push, Nat.reduceEqDiff, List.map_cons, List.map_nil, Option.map_some, if_true, if_false, lt_27, zc_27, zt_27, f1, f2, f25, f26, f27, f8, c3, x0, lr, hone, hset, hdA, hlA, w0, w1]
      refine callI_pure cal102 ih ?_
      cases hcn : cnt l (room - m) A with
      | none =>
        have hE' : cntL (cnt l) room 1 ks = none := by rw [hE]; simp [cntL, hcn]
        simp only [wpA_region, wpA_seq, wpA_cond, wpA_ret, condI_true, seqQ_normal, seqQ_ret, blkQ_ret, endI_mk, goE, andThen_ret, goI_out, goI_ops, opsA_nil, opsA_cons, stepA_move, stepA_assign, stepA_unOp, stepA_extract, thenV_some, extV_zero, extV_succ, eval_tmp, eval_const, put_some, put_none, aUn_not, absV_int, absV_bool, Nat.reduceEqDiff, if_true, if_false, Bool.not_false, cntV, retA_ret, Tryz.results102, resultsA_2]
        exact hid_mk ⟨by rw [hG, hE']; rfl, hk.then_push _⟩
      | some c =>
        have hcl := cnt_le hcn
        have w3 : IntKind.i64.wrap (((m : Nat) : Int) + ((c : Nat) : Int)) = ((m + c : Nat) : Int) := by rw [Go.IntWalk.i64_in _ (by omega)]; omega
        simp only [wpA_skip, wpA_region, wpA_seq, wpA_cond, condI_false, seqQ_normal, blkQ_normal, endI_mk, andThen_normal, goI_out, goI_ops, opsA_nil, opsA_cons, stepA_move, stepA_assign, stepA_binOp, stepA_unOp, stepA_extract, thenV_some, extV_zero, extV_succ, eval_tmp, eval_const, put_some, put_none, aBin_add, aUn_not, absV_int, Nat.reduceEqDiff, if_true, if_false, Bool.not_true, f27, f8, cntV, w2, w3]
        exact hid_mk ⟨(i + 1, m + c), ⟨f1, f2, f25, f26, rfl, rfl, by omega, by simp only; omega, by simp only; omega, hk.then_push _, by rw [hE]; simp [cntL, hcn]⟩, by simp only; omega⟩

def mayX (e : Ex) : Bool := (cnt 16 64 e).isSome
theorem pMay (e : Ex) (h : AHeap) (hg : KG h) : Pure Tryz.prog 68 [.agg (encE e)] h (.bool (mayX e)) := by
  refine Pure.val (Clo.bool _) ?_
  refine SCalls.enterI (c := _) Tryz.func68 rfl (by kernel_rfl) (by simp) ?_
  have hc : (V.agg (encE e)).cells = some (encE e) := rfl
  have hdr : dropC (AObj.cells (encE e) 27 none) 0 = some (encE e) := by cases e; rfl
  have hld : loadGo (some (some 3)) (some (encE e)) = some (.agg (encE e)) := by cases e; rfl
  have hg1 : ∀ a, KG (h.push a) := fun a => by unfold KG; rw [push_glob]; exact hg
  simp only [wpA_region, wpA_seq, seqQ_normal, goI_out, goI_ops, opsA_nil, opsA_cons, stepA_assign, stepA_box, stepA_load, stepA_call, thenV_some, thenH_some, eval_tmp, eval_const, put_some, enterF_zero, enterF_succ, absV_int, absV_bool, aLoad_eq, aPlace_ptr, aBox_eq, get_push_new, Nat.reduceEqDiff, List.map_cons, List.map_nil, Option.map_some, if_true, if_false, lt_27, hc, hdr, hld]
  refine callI_pure cal102 (pCount 16 64 e _ (hg1 _) (by omega) (by omega)) ?_
  cases hcn : cnt 16 64 e with
  | none =>
    simp only [wpA_region, wpA_seq, wpA_ret, seqQ_normal, endI_mk, goI_out, goI_ops, opsA_nil, opsA_cons, stepA_move, stepA_assign, stepA_extract, thenV_some, extV_zero, extV_succ, eval_tmp, put_some, enterF_succ, Nat.reduceEqDiff, if_true, if_false, cntV, retA_ret, Tryz.results68, resultsA_1]
    exact hid_mk ⟨by simp [mayX, hcn], Keep.push _ _ _⟩
  | some c =>
    simp only [wpA_region, wpA_seq, wpA_ret, seqQ_normal, endI_mk, goI_out, goI_ops, opsA_nil, opsA_cons, stepA_move, stepA_assign, stepA_extract, thenV_some, extV_zero, extV_succ, eval_tmp, put_some, enterF_succ, Nat.reduceEqDiff, if_true, if_false, cntV, retA_ret, Tryz.results68, resultsA_1]
    exact hid_mk ⟨by simp [mayX, hcn], Keep.push _ _ _⟩
end Go.Proofs.YtpjfhfmbhjghcaaGreatDoor.Pk
