/-
  What functions of the program do, told of abstract states. Conditions: as each theorem says.
-/
import Derived.Test.YtfcjehlhoebmnaaGreatDoorPB
import Derived.Test.YtfcjehlhoebmnaaGreatDoorAbB
import Derived.Test.YtfcjehlhoebmnaaGreatDoorPA
import Derived.Test.YtfcjehlhoebmnaaGreatDoorAbC
import Derived.Shelf.SlSortCmp.WholeK
import Derived.Test.YtfcjehlhoebmnaaGreatDoorProg
namespace Go.Proofs.YtfcjehlhoebmnaaGreatDoor.Pk
open Go Go.Proofs Go.Proofs.YtfcjehlhoebmnaaGreatDoor.Ab
set_option linter.unusedVariables false
set_option linter.unusedSimpArgs false
theorem encB_lt : ∀ (s : Nat) (e : Ex), szE e = s → ∀ b ∈ encB e, b < 256 := by
 intro s
 induction s using Nat.strongRecOn with
 | _ s ih =>
 intro e hs b hb
 have hk : ∀ k ∈ e.ks, ∀ b ∈ encB k, b < 256 := fun k hk => ih (szE k) (by have := szE_kid k hk; omega) k rfl
 obtain ⟨o, n, l⟩ := e
 rw [encB_eq, List.mem_append, List.mem_append] at hb
 rcases hb with (hb | hb) | hb
 ·exact enc_lt _ _ (Nat.le_refl _) b hb
 ·split at hb
  ·exact enc_lt _ _ (Nat.le_refl _) b hb
  ·cases hb
 ·obtain ⟨k, hk1, hk2⟩ := List.mem_flatMap.1 hb
  exact hk k hk1 b hk2
end Go.Proofs.YtfcjehlhoebmnaaGreatDoor.Pk
namespace Go.Proofs.YtfcjehlhoebmnaaGreatDoor.Pk
open Go Go.Proofs Go.Proofs.YtfcjehlhoebmnaaGreatDoor.Ab
set_option linter.unusedVariables false
set_option linter.unusedSimpArgs false
def mgF (l : List Vx) (L : List Nat) (v : Nat) : List Int → Option (List Nat)
 | [] => none
 | f :: r => if kindAt l f ≠ 5 ∧ L.getD v 0 ≠ L.getD f.toNat 0 then some ((L.set v (min (L.getD v 0) (L.getD f.toNat 0))).set f.toNat (min (L.getD v 0) (L.getD f.toNat 0))) else mgF l L v r
def mgV (l : List Vx) (L : List Nat) : Nat → List Vx → Option (List Nat)
 | _, [] => none
 | v, x :: r => match mgF l L v x.frm with
  | some L' => some L'
  | none => mgV l L (v + 1) r
def mgN (l : List Vx) : Nat → List Nat → List Nat
 | 0, L => L
 | k + 1, L => match mgV l L 0 l with
  | some L' => mgN l k L'
  | none => L
def mgX (l : List Vx) : List Nat := mgN l 600 (List.range l.length)
def MI (es : List (Nat × Int × Int)) (L : List Nat) : Prop := ∀ k, k < L.length → kget es (k : Int) = some ((L.getD k 0 : Nat) : Int)
def wI (es : List (Nat × Int × Int)) : List (Nat × V × V) := mapK (V.int .i64) (V.int .i64) es
theorem lookI {h : AHeap} {i cl : Nat} {es : List (Nat × Int × Int)} {L : List Nat} (hm : MI es L) {k : Nat} (hk : k < L.length) (hg : h.get i = .map (wI es) cl) : aLookup Tryz.prog 211 (.map i) (.int .i64 (k : Int)) false h = some (.int .i64 ((L.getD k 0 : Nat) : Int)) := by
 have := lookup_k (enc := V.int .i64) (ok := false) (KeyEnc.ofInt mt_211) (k := (k : Int)) mt_211 z0_t hg
 rw [this, hm k hk]
 all_goals rfl
theorem updI {h : AHeap} {i cl : Nat} (es : List (Nat × Int × Int)) (k x : Int) (hg : h.get i = .map (wI es) cl) : aUpdate Tryz.prog 211 (.map i) (.int .i64 k) (.int .i64 x) h = some (h.set i (.map (wI (kset cl es k x)) (kclk cl es k))) :=
 update_k (enc := V.int .i64) (KeyEnc.ofInt mt_211) (k := k) mt_211 hg rfl
theorem MI.set {es : List (Nat × Int × Int)} {L : List Nat} (a : MI es L) (cl k x : Nat) : MI (kset cl es (k : Int) (x : Int)) (L.set k x) := fun j hj => by
 rw [List.length_set] at hj
 rw [kget_kset]
 by_cases he : j = k
 ·subst he
  rw [if_pos rfl, List.getD, List.getElem?_set]
  simp [hj]
 ·rw [if_neg (by omega), a j hj, List.getD, List.getD, List.getElem?_set, if_neg (by omega)]
theorem mgF_some {l : List Vx} {L : List Nat} {v : Nat} : ∀ {r : List Int} {L' : List Nat}, mgF l L v r = some L' → ∃ f ∈ r, L.getD v 0 ≠ L.getD f.toNat 0 ∧ L' = (L.set v (min (L.getD v 0) (L.getD f.toNat 0))).set f.toNat (min (L.getD v 0) (L.getD f.toNat 0))
 | [], _, h => by cases h
 | f :: r, L', h => by
  unfold mgF at h
  split at h
  ·rename_i hc
   exact ⟨f, by simp, hc.2, (Option.some.inj h).symm⟩
  ·obtain ⟨g, hg, h1, h2⟩ := mgF_some h
   exact ⟨g, List.mem_cons_of_mem _ hg, h1, h2⟩
end Go.Proofs.YtfcjehlhoebmnaaGreatDoor.Pk
namespace Go.Proofs.YtfcjehlhoebmnaaGreatDoor.Pk
open Go Go.Proofs Go.Proofs.YtfcjehlhoebmnaaGreatDoor.Ab
set_option linter.unusedVariables false
set_option linter.unusedSimpArgs false
theorem sum_set : ∀ {L : List Nat} {k : Nat} (x : Nat), k < L.length → (L.set k x).sum + L.getD k 0 = L.sum + x
 | [], k, x, h => by simp at h
 | a :: r, 0, x, _ => by simp; omega
 | a :: r, k + 1, x, h => by
  have := sum_set (L := r) (k := k) x (by simpa using h)
  simp only [List.set_cons_succ, List.sum_cons, List.getD_cons_succ]
  omega
theorem sum_low {L : List Nat} {v f : Nat} (hv : v < L.length) (hf : f < L.length) (hne : v ≠ f) (hd : L.getD v 0 ≠ L.getD f 0) : ((L.set v (min (L.getD v 0) (L.getD f 0))).set f (min (L.getD v 0) (L.getD f 0))).sum < L.sum := by
 have h1 := sum_set (L := L) (min (L.getD v 0) (L.getD f 0)) hv
 have h2 := sum_set (L := L.set v (min (L.getD v 0) (L.getD f 0))) (k := f) (min (L.getD v 0) (L.getD f 0)) (by simpa using hf)
 have h3 : (L.set v (min (L.getD v 0) (L.getD f 0))).getD f 0 = L.getD f 0 := by
  rw [List.getD, List.getElem?_set, if_neg hne, ← List.getD]
 omega
theorem mgV_at {l : List Vx} {L : List Nat} : ∀ {r : List Vx} {v : Nat} {L' : List Nat}, mgV l L v r = some L' → ∃ k x, r[k]? = some x ∧ mgF l L (v + k) x.frm = some L'
 | [], _, _, h => by cases h
 | x :: r, v, L', h => by
  unfold mgV at h
  split at h
  ·rename_i q
   exact ⟨0, x, rfl, by rw [Nat.add_zero, q]; exact h⟩
  ·obtain ⟨k, y, h1, h2⟩ := mgV_at h
   exact ⟨k + 1, y, by simpa using h1, by rw [show v + (k + 1) = v + 1 + k by omega]; exact h2⟩
set_option maxHeartbeats 2000000 in
set_option maxRecDepth 10000 in
theorem pMerge (l : List Vx) (h : AHeap) (hl24 : l.length ≤ 24) (hr : ∀ (v : Nat) (x : Vx), l[v]? = some x → ∀ f ∈ x.frm, 0 ≤ f ∧ f < (v : Int)) (hfl : ∀ x ∈ l, x.frm.length < 2 ^ 47) :
  SCalls Tryz.prog 111 [.imm l.length (l.flatMap encX)] h (fun r h' => ∃ m es cl, r = .map m ∧ h.n ≤ m ∧ m < h'.n ∧ h'.get m = .map (wI es) cl ∧ MI es (mgX l) ∧ (mgX l).length = l.length ∧ Keep h h' none_) := by
 refine SCalls.enterI (c := _) Tryz.func111 rfl (by kernel_rfl) (by simp) ?_
 simp only [wpA_region, wpA_seq, wpA_scope, seqQ_normal, goI_out, goI_ops, opsA_nil, opsA_cons, stepA_assign, eval_const, absV_mnil]
 refine SWp.scopeG (α := Unit) (l := 0) rfl (fun _ f h' => f 0 = .imm l.length (l.flatMap encX) ∧ f 3 = .map h.n ∧ Keep h h' none_ ∧ h.n < h'.n ∧ ∃ es cl, h'.get h.n = .map (wI es) cl ∧ MI es (List.range l.length)) (fun _ => 0) ?_ ?_ ?_
 ·intro _ f h1 _
  omega
 ·rintro _ f h1 ⟨f0, f3, k1, n1, es, cl, gm, hM⟩
  refine wpI_sound (by kernel_rfl) ?_
  simp only [wpA_block, wpA_loop]
  refine SWp.loopG (α := List Nat × List (Nat × Int × Int) × Nat × Nat) (fun x f h' => f 0 = .imm l.length (l.flatMap encX) ∧ f 3 = .map h.n ∧ Keep h h' none_ ∧ h.n < h'.n ∧ h'.get h.n = .map (wI x.2.1) x.2.2.1 ∧ MI x.2.1 x.1 ∧ x.1.length = l.length ∧ x.1.sum < x.2.2.2 ∧ mgN l x.2.2.2 x.1 = mgX l) (fun x => x.1.sum) (List.range l.length, es, cl, 600) ⟨f0, f3, k1, n1, gm, hM, by simp, ?_, rfl⟩ ?_
  ·show (List.range l.length).sum < 600
   have : ∀ n : Nat, n ≤ 24 → (List.range n).sum < 600 := by decide
   exact this _ hl24
  rintro ⟨L, es, cl, k⟩ f h2 ⟨f0, f3, k2, n2, gm, hM, hL, hk, hR⟩
  simp only at gm hM hL hk hR
  refine wpI_sound (by kernel_rfl) ?_
  simp only [wpA_region, wpA_seq, wpA_block, wpA_loop, seqQ_normal, goI_out, goI_ops, opsA_nil, opsA_cons, stepA_move, stepA_len, thenV_some, eval_tmp, eval_const, put_some, absV_int, aLen_imm, if_true, kt_43, f0]
  refine SWp.loopG (α := Nat) (fun v f h' => f 0 = .imm l.length (l.flatMap encX) ∧ f 3 = .map h.n ∧ f 20 = .imm l.length (l.flatMap encX) ∧ f 21 = .int .i64 ((l.length : Nat) : Int) ∧ f 22 = .int .i64 (v : Nat) ∧ v ≤ l.length ∧ Keep h h' none_ ∧ h.n < h'.n ∧ h'.get h.n = .map (wI es) cl ∧ mgV l L 0 l = mgV l L v (l.drop v)) (fun v => l.length - v) 0 ⟨f0, f3, rfl, rfl, rfl, Nat.zero_le _, k2, n2, gm, rfl⟩ ?_
  rintro v g h3 ⟨g0, g3, g20, g21, g22, hv, k3, n3, gm3, hE⟩
  refine wpI_sound (by kernel_rfl) ?_
  by_cases hlt : v < l.length
  rotate_left
  ·have c1 : decide ((v : Int) < ((l.length : Nat) : Int)) = false := by simp only [decide_eq_false_iff_not]; omega
   rw [List.drop_of_length_le (by omega)] at hE
   have hN : mgN l k L = L := by
    obtain ⟨k', rfl⟩ : ∃ k', k = k' + 1 := ⟨k - 1, by omega⟩
    unfold mgN
    rw [hE]
    all_goals rfl
   simp only [wpA_region, wpA_seq, wpA_cond, wpA_exit, wpA_ret, condI_false, seqQ_normal, seqQ_exit, blkQ_exit, blkQ_ret, endI_mk, goE, andThen_normal, andThen_exit, andThen_ret, goI_out, goI_ops, opsA_nil, opsA_cons, stepA_move, stepA_assign, stepA_binOp, thenV_some, eval_tmp, put_some, aBin_lss, Nat.reduceEqDiff, if_true, if_false, g3, g21, g22, c1, jumpA_ret, retA_ret, Tryz.results111, resultsA_1]
   exact hid_mk ⟨h.n, es, cl, rfl, Nat.le_refl _, n3, gm3, by rw [← hR, hN]; exact hM, by rw [← hR, hN]; exact hL, k3⟩
  have c1 : decide ((v : Int) < ((l.length : Nat) : Int)) = true := by simp only [decide_eq_true_eq]; omega
  have x0 := rows_ix (kk := .i64) (P := Tryz.prog) encX_len hlt ss_43
  have hrv := hr v l[v] (List.getElem?_eq_getElem hlt)
  have hfv := hfl l[v] (List.getElem_mem hlt)
  rw [List.drop_eq_getElem_cons hlt] at hE
  replace hE : mgV l L 0 l = match mgF l L v l[v].frm with | some L' => some L' | none => mgV l L (v + 1) (l.drop (v + 1)) := hE
  have w2 : IntKind.i64.wrap (((v : Nat) : Int) + 1) = ((v + 1 : Nat) : Int) := by rw [Go.IntWalk.i64_in _ (by omega)]; omega
  generalize l[v] = A at x0 hrv hfv hE
  have lr : ∀ (q : List V), loadGo (some (some 6)) (some (encX A ++ q)) = some (.agg (encX A)) := fun q => load_row (encX_len A)
  have hone : (V.agg (encX A)).cells = some (encX A) := rfl
  have hset : setC (some 6) (AObj.cells [.int .i64 0, .snil, .int .i64 0, .int .i64 0, .snil, .int .i64 0] 90 none) 0 (encX A) = some (.cells (encX A) 90 none) := by
   rw [setC_row (n := 6) (encX_len A) (encX_one A), if_pos (by decide), encX_eq]; rfl
  have hd1 : dropC (AObj.cells (encX A) 90 none) 1 = some [.imm A.frm.length (i64V A.frm), .int .i64 A.e.op, .int .i64 A.e.num, .imm A.e.ks.length (A.e.ks.flatMap encE), .int .i64 A.n] := by rw [encX_eq]; rfl
  obtain ⟨H4, hH4⟩ : ∃ x, x = h3.push (.cells (encX A) 90 none) := ⟨_, rfl⟩
  have gA : H4.get h3.n = .cells (encX A) 90 none := by rw [hH4]; exact get_push_new
  have gm4 : H4.get h.n = .map (wI es) cl := by rw [hH4]; exact (get_push_lt (by omega)).trans gm3
  have k4 : Keep h H4 none_ := by rw [hH4]; exact k3.then_push _
  have n4 : H4.n = h3.n + 1 := by rw [hH4]; rfl
  simp only [wpA_skip, wpA_region, wpA_seq, wpA_cond, wpA_block, wpA_loop, condI_true, seqQ_normal, goI_out, goI_ops, opsA_nil, opsA_cons, stepA_move, stepA_assign, stepA_alloc, stepA_load, stepA_store, stepA_binOp, stepA_fieldAddr, stepA_indexAddr, stepA_len, thenV_some, thenH_some, thenS_some, eval_tmp, eval_const, put_some, put_none, aBin_lss, absV_int, aField_eq, fieldGo_ptr, aLoad_eq, loadGo_one, aPlace_ptr, aPlace_at, aStore_eq, storeGo_ptr, aAlloc_eq, aLen_imm, get_push_new, set_push, Nat.reduceEqDiff, Option.map_some, Nat.zero_add, if_true, if_false, ft_90_1, kt_66, lt_66, lt_90, zc_90, zt_90, g20, g21, g22, c1, x0, lr, hone, hset, ← hH4, gA, hd1]
  refine SWp.loopG (α := Nat) (fun j f h' => f 0 = .imm l.length (l.flatMap encX) ∧ f 3 = .map h.n ∧ f 20 = .imm l.length (l.flatMap encX) ∧ f 21 = .int .i64 ((l.length : Nat) : Int) ∧ f 22 = .int .i64 (v : Nat) ∧ f 5 = .int .i64 (v : Nat) ∧ f 28 = .imm A.frm.length (i64V A.frm) ∧ f 29 = .int .i64 ((A.frm.length : Nat) : Int) ∧ f 30 = .int .i64 (j : Nat) ∧ j ≤ A.frm.length ∧ h' = H4 ∧ mgF l L v A.frm = mgF l L v (A.frm.drop j)) (fun j => A.frm.length - j) 0 ⟨g0, g3, g20, g21, g22, rfl, rfl, rfl, rfl, Nat.zero_le _, rfl, rfl⟩ ?_
  rintro j p h5 ⟨p0, p3, p20, p21, p22, p5, p28, p29, p30, hj, rfl, hF⟩
  refine wpI_sound (by kernel_rfl) ?_
  by_cases hjl : j < A.frm.length
  rotate_left
  ·have c2 : decide ((j : Int) < ((A.frm.length : Nat) : Int)) = false := by simp only [decide_eq_false_iff_not]; omega
   rw [List.drop_of_length_le (by omega)] at hF
   have hF' : mgF l L v A.frm = none := hF
   rw [hF'] at hE
   simp only [wpA_region, wpA_seq, wpA_cond, wpA_exit, wpA_ret, condI_false, seqQ_normal, seqQ_exit, blkQ_normal, blkQ_exit, blkQ_ret, endI_mk, goE, andThen_normal, andThen_exit, andThen_ret, goI_out, goI_ops, opsA_nil, opsA_cons, stepA_move, stepA_assign, stepA_binOp, thenV_some, eval_tmp, eval_const, put_some, aBin_add, aBin_lss, absV_int, Nat.reduceEqDiff, if_true, if_false, p3, p22, p29, p30, c2, w2]
   exact hid_mk ⟨v + 1, ⟨p0, p3, p20, p21, rfl, by omega, k4, by omega, gm4, hE⟩, by omega⟩
  have c2 : decide ((j : Int) < ((A.frm.length : Nat) : Int)) = true := by simp only [decide_eq_true_eq]; omega
  have x1 := i64V_ix' (P := Tryz.prog) (kk := .i64) hjl ss_66
  have w3 : IntKind.i64.wrap (((j : Nat) : Int) + 1) = ((j + 1 : Nat) : Int) := by rw [Go.IntWalk.i64_in _ (by omega)]; omega
  have hin : A.frm[j] ∈ A.frm := List.getElem_mem hjl
  rw [List.drop_eq_getElem_cons hjl] at hF
  generalize A.frm[j] = B at x1 hin hF
  obtain ⟨p1, p2⟩ := hrv B hin
  obtain ⟨q, rfl⟩ : ∃ q : Nat, B = (q : Int) := ⟨B.toNat, by omega⟩
  obtain ⟨x2, lu0, lk⟩ := kind_ix (l := l) (q := q) (by omega)
  have lv := lookI hM (k := v) (by omega) gm4
  have lq := lookI hM (k := q) (by omega) gm4
  replace hF : mgF l L v A.frm = if kindAt l (q : Int) ≠ 5 ∧ L.getD v 0 ≠ L.getD q 0 then some ((L.set v (min (L.getD v 0) (L.getD q 0))).set q (min (L.getD v 0) (L.getD q 0))) else mgF l L v (A.frm.drop (j + 1)) := hF
  by_cases h5k : kindAt l (q : Int) = 5
  ·have c3 : (kindAt l (q : Int) != 5) = false := by simp [h5k]
   rw [if_neg (by simp [h5k])] at hF
   simp only [wpA_skip, wpA_region, wpA_seq, wpA_cond, wpA_block, condI_true, condI_false, seqQ_normal, blkQ_normal, endI_mk, andThen_normal, goI_out, goI_ops, opsA_nil, opsA_cons, opsA_guardS, gvI_ft, slotAt_zero, slotAt_succ, stepA_move, stepA_assign, stepA_pick, stepA_load, stepA_binOp, stepA_fieldAddr, stepA_indexAddr, thenV_some, pickV_false, eval_tmp, eval_const, put_some, aBin_add, aBin_neq, aBin_lss, absV_int, absV_bool, aField_eq, fieldGo_at, aLoad_eq, loadGo_one, aPlace_at, Nat.reduceEqDiff, reduceCtorEq, Nat.zero_le, List.drop_zero, if_true, if_false, ft_90_0, lt_3, p0, p28, p29, p30, c2, x1, x2, lu0, c3, w3]
   exact hid_mk ⟨j + 1, ⟨p0, p3, p20, p21, p22, p5, p28, p29, rfl, by omega, rfl, hF⟩, by omega⟩
  have c3 : (kindAt l (q : Int) != 5) = true := by simp [h5k]
  by_cases heq : L.getD v 0 = L.getD q 0
  ·have c4 : (((L.getD v 0 : Nat) : Int) != ((L.getD q 0 : Nat) : Int)) = false := by rw [heq]; simp
   rw [if_neg (fun hh => hh.2 heq)] at hF
   simp only [wpA_skip, wpA_region, wpA_seq, wpA_cond, wpA_block, condI_true, condI_false, seqQ_normal, blkQ_normal, endI_mk, andThen_normal, goI_out, goI_ops, opsA_nil, opsA_cons, opsA_guardS, gvI_same, slotAt_zero, slotAt_succ, stepA_move, stepA_assign, stepA_pick, stepA_load, stepA_binOp, stepA_fieldAddr, stepA_indexAddr, stepA_lookup, thenV_some, pickV_true, eval_tmp, eval_const, put_some, aBin_add, aBin_neq, aBin_lss, absV_int, absV_bool, aField_eq, fieldGo_at, aLoad_eq, loadGo_one, aPlace_at, Nat.reduceEqDiff, reduceCtorEq, Nat.zero_le, List.drop_zero, if_true, if_false, ft_90_0, lt_3, p0, p3, p5, p28, p29, p30, c2, x1, x2, lu0, c3, lv, lq, c4, w3]
   exact hid_mk ⟨j + 1, ⟨p0, p3, p20, p21, p22, p5, p28, p29, rfl, by omega, rfl, hF⟩, by omega⟩
  have c4 : (((L.getD v 0 : Nat) : Int) != ((L.getD q 0 : Nat) : Int)) = true := by rw [bne_iff_ne]; omega
  rw [if_pos ⟨h5k, heq⟩] at hF
  rw [hF] at hE
  have hsum := sum_low (L := L) (v := v) (f := q) (by omega) (by omega) (by omega) heq
  generalize hlow : min (L.getD v 0) (L.getD q 0) = low at hF hE hsum
  have hmin : min ((L.getD v 0 : Nat) : Int) ((L.getD q 0 : Nat) : Int) = ((low : Nat) : Int) := by rw [← hlow, Nat.min_def, Int.min_def]; split <;> split <;> omega
  have u1 := updI es (v : Int) (low : Int) gm4
  have u2 := updI (h := h5.set h.n (.map (wI (kset cl es (v : Int) (low : Int))) (kclk cl es (v : Int)))) (kset cl es (v : Int) (low : Int)) (q : Int) (low : Int) get_set_same
  simp only [wpA_skip, wpA_region, wpA_seq, wpA_cond, wpA_block, wpA_exit, wpA_ret, condI_true, seqQ_normal, seqQ_exit, blkQ_normal, blkQ_exit, blkQ_ret, endI_mk, goE, andThen_normal, andThen_exit, andThen_ret, goI_out, goI_ops, opsA_nil, opsA_cons, opsA_guardS, gvI_same, slotAt_zero, slotAt_succ, stepA_move, stepA_assign, stepA_pick, stepA_load, stepA_binOp, stepA_fieldAddr, stepA_indexAddr, stepA_lookup, stepA_mapUpdate, stepA_min, thenV_some, thenS_some, pickV_true, eval_tmp, eval_const, put_some, put_none, aBin_add, aBin_neq, aBin_lss, mmV_min, absV_int, absV_bool, aField_eq, fieldGo_at, aLoad_eq, loadGo_one, aPlace_at, set_set, Nat.reduceEqDiff, reduceCtorEq, Nat.zero_le, List.drop_zero, if_true, if_false, ft_90_0, lt_3, p0, p3, p22, p5, p28, p29, p30, c2, x1, x2, lu0, c3, lv, lq, c4, hmin, u1, u2]
  obtain ⟨k', rfl⟩ : ∃ k', k = k' + 1 := ⟨k - 1, by omega⟩
  have hR' : mgN l k' ((L.set v low).set q low) = mgX l := by
   rw [← hR]
   show _ = match mgV l L 0 l with | some L' => mgN l k' L' | none => L
   rw [hE]
  refine hid_mk ⟨((L.set v low).set q low, kset (kclk cl es (v : Int)) (kset cl es (v : Int) (low : Int)) (q : Int) (low : Int), kclk (kclk cl es (v : Int)) (kset cl es (v : Int) (low : Int)) (q : Int), k'), ⟨p0, p3, k4.setNew (Nat.le_refl _) _, by show h.n < h5.n; omega, get_set_same, (hM.set cl v low).set _ q low, by simp [hL], by simp only; omega, hR'⟩, by simp only; omega⟩
 ·intro step
  refine SWp.seq (wpI_sound (by kernel_rfl) ?_)
  simp only [wpA_region, endI_mk, andThen_normal, goI_out, goI_ops, opsA_nil, opsA_cons, stepA_assign, stepA_makeMap, thenH_some, eval_tmp, put_some, enterF_succ, makeMap_nil, Nat.reduceEqDiff, Option.map_none, if_true, if_false]
  refine SWp.seq (wpI_sound (by kernel_rfl) ?_)
  simp only [wpA_region, wpA_seq, wpA_block, wpA_loop, seqQ_normal, goI_out, goI_ops, opsA_nil, opsA_cons, stepA_move, stepA_len, thenV_some, eval_tmp, eval_const, put_some, enterF_zero, enterF_succ, absV_int, aLen_imm, Nat.reduceEqDiff, reduceCtorEq, if_true, if_false, kt_43]
  refine SWp.loopG (α := Nat × List (Nat × Int × Int) × Nat) (fun x f h' => f 0 = .imm l.length (l.flatMap encX) ∧ f 3 = .map h.n ∧ f 12 = .int .i64 ((l.length : Nat) : Int) ∧ f 13 = .int .i64 (x.1 : Nat) ∧ x.1 ≤ l.length ∧ Keep h h' none_ ∧ h.n < h'.n ∧ h'.get h.n = .map (wI x.2.1) x.2.2 ∧ MI x.2.1 (List.range x.1)) (fun x => l.length - x.1) (0, [], 0) ⟨rfl, rfl, rfl, rfl, Nat.zero_le _, Keep.push _ _ _, Nat.lt_succ_self _, get_push_new, fun k hk => by simp at hk⟩ ?_
  rintro ⟨i, es, cl⟩ f h1 ⟨f0, f3, f12, f13, hi, k1, n1, gm, hM⟩
  simp only at f13 hi gm hM
  refine wpI_sound (by kernel_rfl) ?_
  by_cases hlt : i < l.length
  ·have c1 : decide ((i : Int) < ((l.length : Nat) : Int)) = true := by simp only [decide_eq_true_eq]; omega
   have w2 : IntKind.i64.wrap (((i : Nat) : Int) + 1) = ((i + 1 : Nat) : Int) := by rw [Go.IntWalk.i64_in _ (by omega)]; omega
   have u1 := updI es (i : Int) (i : Int) gm
   have hM2 : MI (kset cl es (i : Int) (i : Int)) (List.range (i + 1)) := fun k hk => by
    rw [List.length_range] at hk
    rw [kget_kset]
    have hg : (List.range (i + 1)).getD k 0 = k := by rw [List.getD, List.getElem?_range hk]; rfl
    rw [hg]
    by_cases hki : k = i
    ·rw [hki, if_pos rfl]
    ·rw [if_neg (by omega), hM k (by rw [List.length_range]; omega), List.getD, List.getElem?_range (by omega)]
     all_goals rfl
   simp only [wpA_skip, wpA_region, wpA_seq, wpA_cond, wpA_block, condI_true, seqQ_normal, blkQ_normal, endI_mk, andThen_normal, goI_out, goI_ops, opsA_nil, opsA_cons, stepA_move, stepA_assign, stepA_binOp, stepA_mapUpdate, thenV_some, thenS_some, eval_tmp, eval_const, put_some, put_none, aBin_add, aBin_lss, absV_int, Nat.reduceEqDiff, if_true, if_false, f3, f12, f13, c1, u1, w2]
   exact hid_mk ⟨(i + 1, kset cl es (i : Int) (i : Int), kclk cl es (i : Int)), ⟨f0, f3, f12, rfl, by simp only; omega, k1.setNew (Nat.le_refl _) _, n1, get_set_same, hM2⟩, by simp only; omega⟩
  ·have c1 : decide ((i : Int) < ((l.length : Nat) : Int)) = false := by simp only [decide_eq_false_iff_not]; omega
   have hil : i = l.length := by omega
   rw [hil] at hM
   simp only [wpA_region, wpA_seq, wpA_cond, wpA_exit, condI_false, seqQ_normal, seqQ_exit, blkQ_exit, endI_mk, goE, andThen_normal, andThen_exit, goI_out, goI_ops, opsA_nil, opsA_cons, stepA_binOp, thenV_some, eval_tmp, put_some, aBin_lss, if_true, f12, f13, c1]
   refine SWp.seq (.label ?_)
   exact step () _ _ ⟨f0, f3, k1, n1, es, cl, gm, hM⟩
end Go.Proofs.YtfcjehlhoebmnaaGreatDoor.Pk
namespace Go.Proofs.YtfcjehlhoebmnaaGreatDoor.Pk
open Go Go.Proofs Go.Proofs.YtfcjehlhoebmnaaGreatDoor.Ab
set_option linter.unusedVariables false
set_option linter.unusedSimpArgs false
theorem getD_set {L : List Nat} {k j x : Nat} : (L.set k x).getD j 0 = if k = j ∧ j < L.length then x else L.getD j 0 := by
 rw [List.getD, List.getElem?_set]
 by_cases h : k = j
 ·subst h
  by_cases hl : k < L.length
  ·simp [hl]
  ·simp [hl, List.getD]
 ·simp [h, List.getD]
theorem mgN_le {l : List Vx} : ∀ (k : Nat) (L : List Nat), (∀ j, L.getD j 0 ≤ j) → ∀ j, (mgN l k L).getD j 0 ≤ j
 | 0, L, h, j => h j
 | k + 1, L, h, j => by
  unfold mgN
  cases hq : mgV l L 0 l with
  | none => exact h j
  | some L' =>
   refine mgN_le k L' (fun j => ?_) j
   obtain ⟨v, x, h1, h2⟩ := mgV_at hq
   obtain ⟨f, _, _, e⟩ := mgF_some h2
   rw [e, getD_set, getD_set]
   have a := h (0 + v)
   have b := h f.toNat
   split
   ·rename_i hh
    rw [← hh.1]
    omega
   ·split
    ·rename_i hh
     rw [← hh.1]
     omega
    ·exact h j
theorem mgX_le (l : List Vx) : ∀ j, (mgX l).getD j 0 ≤ j := mgN_le _ _ fun j => by
 rw [List.getD]
 by_cases h : j < l.length
 ·rw [List.getElem?_range h]; exact Nat.le_refl _
 ·rw [List.getElem?_eq_none (by simp; omega)]; exact Nat.zero_le _
theorem Own.at' {h : AHeap} {e : TypeId} {v : V} {cs : List V} {i : Nat} (ho : Own h e 1 v cs) (hi : idOf v = some i) {k : Nat} (hk : k < cs.length) {kk : IntKind} {t : TypeId} (hs : slSz Tryz.prog t = some 1) :
  aIndexAddr Tryz.prog t v (.int kk (k : Int)) = some (.ptr i k) ∧ (∃ r, dropC (h.get i) k = some (cs[k] :: r)) ∧ ∀ x, x.one = true → ∃ ob, setC (some 1) (h.get i) k [x] = some ob ∧ Own (h.set i ob) e 1 v (cs.set k x) := by
 obtain ⟨j, q1, q2, q3, q4⟩ := own_elem (P := Tryz.prog) (kk := kk) hs ho hk
 rw [hi] at q2
 obtain rfl : i = j := by simpa using q2
 exact ⟨q1, q3, fun x hx => by obtain ⟨ob, a, b, _⟩ := q4 x hx; exact ⟨ob, a, b⟩⟩
def ptN (R : List Nat) : Nat → List Int × Nat
 | 0 => ([], 0)
 | i + 1 => if R.getD i 0 = i then ((ptN R i).1 ++ [((ptN R i).2 : Int)], (ptN R i).2 + 1) else ((ptN R i).1 ++ [(ptN R i).1.getD (R.getD i 0) 0], (ptN R i).2)
theorem ptN_len (R : List Nat) : ∀ i, (ptN R i).1.length = i
 | 0 => rfl
 | i + 1 => by unfold ptN; split <;> simp [ptN_len R i]
theorem ptN_le (R : List Nat) : ∀ i, (ptN R i).2 ≤ i
 | 0 => Nat.le_refl _
 | i + 1 => by have := ptN_le R i; unfold ptN; split <;> simp only <;> omega
def partsX (p : Int) (l : List Vx) : List Int := if (chkT p l).2 = 0 then (ptN (mgX l) l.length).1 else []
theorem pt_set {P : List Int} {i n : Nat} (hP : P.length = i) (hi : i < n) (x : Int) : (P ++ List.replicate (n - i) 0).set i x = (P ++ [x]) ++ List.replicate (n - (i + 1)) 0 := by
 subst hP
 rw [List.set_append_right _ _ (Nat.le_refl _), Nat.sub_self, show n - P.length = (n - (P.length + 1)) + 1 by omega, List.replicate_succ, List.set_cons_zero]
 simp
set_option maxHeartbeats 2000000 in
set_option maxRecDepth 10000 in
theorem pParts (l : List Vx) (p : Int) (hok : OkT l) (h : AHeap) (hg : TG h) : Pure Tryz.prog 70 [.agg (topE l p)] h (.tuple [.imm (partsX p l).length (i64V (partsX p l)), .int .i64 (chkT p l).2]) := by
 refine Pure.of (Clo.tuple (CloL.cons (Clo.imm (i64V_clo _)) (CloL.cons (Clo.int _ _) CloL.nil))) ?_
 have hc : (V.agg (topE l p)).cells = some [.imm l.length (l.flatMap encX), .int .i64 p] := rfl
 obtain ⟨H, hH⟩ : ∃ x, x = h.push (.cells [.imm l.length (l.flatMap encX), .int .i64 p] 45 none) := ⟨_, rfl⟩
 have gt : H.get h.n = .cells [.imm l.length (l.flatMap encX), .int .i64 p] 45 none := by rw [hH]; exact get_push_new
 have kH : Keep h H none_ := by rw [hH]; exact Keep.push _ _ _
 have nH : H.n = h.n + 1 := by rw [hH]; rfl
 have tH := hg.keep kH
 refine SCalls.enterI (c := _) Tryz.func70 rfl (by kernel_rfl) (by simp) ?_
 simp only [wpA_region, wpA_seq, seqQ_normal, goI_out, goI_ops, opsA_nil, opsA_cons, stepA_assign, stepA_box, stepA_load, stepA_call, thenV_some, thenH_some, eval_tmp, eval_const, put_some, enterF_zero, enterF_succ, absV_int, absV_snil, aLoad_eq, loadGo_row, aPlace_ptr, dropC_cells, aBox_eq, Nat.reduceEqDiff, Nat.reduceAdd, List.map_cons, List.map_nil, Option.map_some, Nat.zero_add, Nat.zero_le, List.length_cons, List.length_nil, List.drop_zero, List.take_succ_cons, List.take_nil, if_true, if_false, Nat.le_refl, lt_45, hc, ← hH, gt]
 refine callI_pure cal12 (pCheck l p hok H tH) ?_
 by_cases h0 : (chkT p l).2 = 0
 rotate_left
 ·have c2 : ((chkT p l).2 != 0) = true := by simp [h0]
  have hG : partsX p l = [] := if_neg h0
  simp only [wpA_region, wpA_seq, wpA_cond, wpA_ret, condI_true, seqQ_normal, seqQ_ret, endI_mk, goI_out, goI_ops, opsA_nil, opsA_cons, stepA_move, stepA_assign, stepA_binOp, stepA_extract, thenV_some, extV_zero, extV_succ, eval_tmp, eval_const, put_some, enterF_succ, aBin_neq, absV_int, absV_snil, Nat.reduceEqDiff, if_true, if_false, chkA, c2, retA_ret, Tryz.results70, resultsA_2]
  exact hid_mk ⟨_, by rw [hG]; exact Cast.tuple (CastL.cons (Cast.snil0 _) (CastL.refl _ _)), kH⟩
 have c2 : ((chkT p l).2 != 0) = false := by simp [h0]
 obtain ⟨_, _, l1, l24, _, hall⟩ := chk_ok h0
 have hG : partsX p l = (ptN (mgX l) l.length).1 := if_pos h0
 simp only [wpA_skip, wpA_region, wpA_seq, wpA_cond, condI_false, seqQ_normal, goI_out, goI_ops, opsA_nil, opsA_cons, stepA_move, stepA_assign, stepA_load, stepA_binOp, stepA_fieldAddr, stepA_extract, stepA_call, thenV_some, extV_zero, extV_succ, eval_tmp, eval_const, put_some, enterF_succ, aBin_neq, absV_int, aField_eq, fieldGo_ptr, aLoad_eq, loadGo_one, aPlace_ptr, dropC_cells, Nat.reduceEqDiff, Nat.reduceAdd, List.map_cons, List.map_nil, Nat.add_zero, Nat.zero_add, Nat.zero_le, List.length_cons, List.length_nil, List.drop_zero, if_true, if_false, ft_45_0, lt_43, chkA, c2, gt]
 refine callI_of cal111 (pMerge l H l24 (fun v x hx f hf => (chkV_zero (hall v x hx)).2.1 f hf) (fun x hx => (hok.2 x hx).2.1)) fun r h1 ⟨m, es, cl, er, m1, m2, gm, hM, hRl, k1⟩ => ?_
 subst er
 have hRle := mgX_le l
 generalize mgX l = R at hM hRl hRle hG
 have gt1 := (k1.get h.n (by omega) (by simp [none_])).trans gt
 have hmk : aMake Tryz.prog 66 (.int .i64 ((l.length : Nat) : Int)) (.int .i64 ((l.length : Nat) : Int)) h1 = some (.sl h1.n 0 l.length l.length, h1.push (.cells (i64V (List.replicate l.length 0)) 3 none)) := by
  rw [make_go sl_66 (Nat.le_refl _) (by simp only; omega) (by omega), made_one]
  simp [i64V]
 have a0 : Own (h1.push (.cells (i64V (List.replicate l.length 0)) 3 none)) 3 1 (.sl h1.n 0 l.length l.length) (i64V (List.replicate l.length 0)) := Own.fresh' _ l.length (by rw [i64V_length, List.length_replicate, Nat.mul_one]) (by unfold unk; omega)
 obtain ⟨H2, hH2⟩ : ∃ x, x = h1.push (.cells (i64V (List.replicate l.length 0)) 3 none) := ⟨_, rfl⟩
 have k2 : Keep h1 H2 none_ := by rw [hH2]; exact Keep.push _ _ _
 have n2 : H2.n = h1.n + 1 := by rw [hH2]; rfl
 rw [← hH2] at a0
 have gt2 := (k2.get h.n (by have := k1.n; omega) (by simp [none_])).trans gt1
 have gm2 := (k2.get m m2 (by simp [none_])).trans gm
 simp only [wpA_region, wpA_seq, wpA_block, wpA_loop, seqQ_normal, goI_out, goI_ops, opsA_nil, opsA_cons, stepA_move, stepA_assign, stepA_load, stepA_makeSlice, stepA_fieldAddr, stepA_len, thenV_some, thenH_some, eval_tmp, eval_const, put_some, enterF_succ, absV_int, aField_eq, fieldGo_ptr, aLoad_eq, loadGo_one, aPlace_ptr, dropC_cells, aLen_imm, Nat.reduceEqDiff, Nat.reduceAdd, Nat.add_zero, Nat.zero_add, Nat.zero_le, List.length_cons, List.length_nil, List.drop_zero, if_true, if_false, ft_45_0, kt_43, lt_43, gt1, hmk, ← hH2, gt2]
 have nk := k1.n
 refine SWp.loopG (α := Nat) (fun i f h' => f 6 = .map m ∧ f 7 = .sl h1.n 0 l.length l.length ∧ f 8 = .int .i64 (((ptN R i).2 : Nat) : Int) ∧ f 27 = .int .i64 ((l.length : Nat) : Int) ∧ f 28 = .int .i64 (i : Nat) ∧ i ≤ l.length ∧ Keep H2 h' (fun q => q = h1.n) ∧ Own h' 3 1 (.sl h1.n 0 l.length l.length) (i64V ((ptN R i).1 ++ List.replicate (l.length - i) 0))) (fun i => l.length - i) 0 ⟨rfl, rfl, rfl, rfl, rfl, Nat.zero_le _, Keep.refl _ _, a0⟩ ?_
 rintro i f h3 ⟨f6, f7, f8, f27, f28, hi, k3, o3⟩
 have gm3 := (k3.get m (by omega) (by omega)).trans gm2
 refine wpI_sound (by kernel_rfl) ?_
 by_cases hlt : i < l.length
 rotate_left
 ·have c3 : decide ((i : Int) < ((l.length : Nat) : Int)) = false := by simp only [decide_eq_false_iff_not]; omega
  have hil : i = l.length := by omega
  subst hil
  rw [Nat.sub_self, List.replicate_zero, List.append_nil] at o3
  obtain ⟨h4, c4, k4⟩ := Cast.own o3 (n := l.length) (by rw [i64V_length, ptN_len, Nat.mul_one]) (by decide)
  have kF : Keep h h4 none_ := (((kH.trans' k1).trans' k2).trans k3 fun q hq e => by omega).trans k4 fun q hq e => by simp [isId, idOf] at e; omega
  simp only [wpA_region, wpA_seq, wpA_cond, wpA_exit, wpA_ret, condI_false, seqQ_normal, seqQ_exit, blkQ_exit, endI_mk, goE, andThen_exit, goI_out, goI_ops, opsA_nil, opsA_cons, stepA_move, stepA_assign, stepA_binOp, thenV_some, eval_tmp, eval_const, put_some, aBin_lss, absV_int, Nat.reduceEqDiff, if_true, if_false, f7, f27, f28, c3, retA_ret, Tryz.results70, resultsA_2]
  refine hid_mk ⟨h4, ?_, kF⟩
  rw [hG, ptN_len, h0]
  exact Cast.tuple (CastL.cons c4 (CastL.refl _ _))
 have c3 : decide ((i : Int) < ((l.length : Nat) : Int)) = true := by simp only [decide_eq_true_eq]; omega
 have w2 : IntKind.i64.wrap (((i : Nat) : Int) + 1) = ((i + 1 : Nat) : Int) := by rw [Go.IntWalk.i64_in _ (by omega)]; omega
 have lk := lookI hM (k := i) (by omega) gm3
 have hlen : (i64V ((ptN R i).1 ++ List.replicate (l.length - i) 0)).length = l.length := by rw [i64V_length, List.length_append, ptN_len, List.length_replicate]; omega
 obtain ⟨q1, _, q3⟩ := Pk.Own.at' (kk := .i64) o3 (i := h1.n) rfl (k := i) (by rw [hlen]; exact hlt) ss_66
 have hle := ptN_le R i
 by_cases he : R.getD i 0 = i
 ·have c4 : (((R.getD i 0 : Nat) : Int) == ((i : Nat) : Int)) = true := by rw [he]; simp
  have w3 : IntKind.i64.wrap ((((ptN R i).2 : Nat) : Int) + 1) = (((ptN R i).2 + 1 : Nat) : Int) := by rw [Go.IntWalk.i64_in _ (by omega)]; omega
  obtain ⟨ob, b1, b2⟩ := q3 (.int .i64 (((ptN R i).2 : Nat) : Int)) rfl
  rw [i64V_set, pt_set (ptN_len R i) hlt] at b2
  have hp : ptN R (i + 1) = ((ptN R i).1 ++ [((ptN R i).2 : Int)], (ptN R i).2 + 1) := if_pos he
  simp only [wpA_skip, wpA_region, wpA_seq, wpA_cond, wpA_block, condI_true, seqQ_normal, blkQ_normal, endI_mk, andThen_normal, goI_out, goI_ops, opsA_nil, opsA_cons, stepA_move, stepA_assign, stepA_store, stepA_binOp, stepA_indexAddr, stepA_lookup, thenV_some, thenS_some, eval_tmp, eval_const, put_some, put_none, aBin_add, aBin_eql, aBin_lss, absV_int, cells_int, aStore_eq, storeGo_ptr, Nat.reduceEqDiff, Option.map_some, if_true, if_false, zt_3, f6, f7, f8, f27, f28, c3, lk, c4, q1, b1, w2, w3]
  exact hid_mk ⟨i + 1, ⟨f6, f7, by rw [hp]; rfl, f27, rfl, by omega, k3.trans' (Keep.set _ _ _), by rw [hp]; exact b2⟩, by omega⟩
 ·have c4 : (((R.getD i 0 : Nat) : Int) == ((i : Nat) : Int)) = false := by simp only [beq_eq_false_iff_ne, ne_eq]; omega
  have hRi := hRle i
  have hj : R.getD i 0 < i := by omega
  generalize hJ : R.getD i 0 = J at *
  obtain ⟨p1, p2, _⟩ := Pk.Own.at' (kk := .i64) o3 (i := h1.n) rfl (k := J) (by rw [hlen]; omega) ss_66
  have hgj : (i64V ((ptN R i).1 ++ List.replicate (l.length - i) 0))[J]'(by rw [hlen]; omega) = .int .i64 ((ptN R i).1.getD J 0) := by
   simp only [i64V, List.getElem_map]
   rw [List.getElem_append_left (by rw [ptN_len]; exact hj), List.getD, List.getElem?_eq_getElem (by rw [ptN_len]; exact hj)]
   all_goals rfl
  obtain ⟨rr, p2⟩ := p2
  rw [hgj] at p2
  obtain ⟨ob, b1, b2⟩ := q3 (.int .i64 ((ptN R i).1.getD J 0)) rfl
  rw [i64V_set, pt_set (ptN_len R i) hlt] at b2
  have hp : ptN R (i + 1) = ((ptN R i).1 ++ [(ptN R i).1.getD J 0], (ptN R i).2) := by
   show (if R.getD i 0 = i then _ else _) = _
   rw [hJ, if_neg (by omega)]
  simp only [wpA_skip, wpA_region, wpA_seq, wpA_cond, wpA_block, condI_true, condI_false, seqQ_normal, blkQ_normal, endI_mk, andThen_normal, goI_out, goI_ops, opsA_nil, opsA_cons, stepA_move, stepA_assign, stepA_load, stepA_store, stepA_binOp, stepA_indexAddr, stepA_lookup, thenV_some, thenS_some, eval_tmp, eval_const, put_some, put_none, aBin_add, aBin_eql, aBin_lss, absV_int, cells_int, aLoad_eq, loadGo_one, aPlace_ptr, aStore_eq, storeGo_ptr, Nat.reduceEqDiff, Option.map_some, if_true, if_false, lt_3, zt_3, f6, f7, f27, f28, c3, lk, c4, p1, p2, q1, b1, w2]
  exact hid_mk ⟨i + 1, ⟨f6, f7, by rw [hp]; exact f8, f27, rfl, by omega, k3.trans' (Keep.set _ _ _), by rw [hp]; exact b2⟩, by omega⟩
end Go.Proofs.YtfcjehlhoebmnaaGreatDoor.Pk
namespace Go.Proofs.YtfcjehlhoebmnaaGreatDoor.Pk
open Go Go.Proofs Go.Proofs.YtfcjehlhoebmnaaGreatDoor.Ab
set_option linter.unusedVariables false
set_option linter.unusedSimpArgs false
theorem pValid (l : List Vx) (p : Int) (hok : OkT l) (h : AHeap) (hg : TG h) : Pure Tryz.prog 61 [.agg (topE l p)] h (.bool ((chkT p l).2 == 0)) := by
 refine Pure.val (Clo.bool _) ?_
 have hc : (V.agg (topE l p)).cells = some [.imm l.length (l.flatMap encX), .int .i64 p] := rfl
 obtain ⟨H, hH⟩ : ∃ x, x = h.push (.cells [.imm l.length (l.flatMap encX), .int .i64 p] 45 none) := ⟨_, rfl⟩
 have gt : H.get h.n = .cells [.imm l.length (l.flatMap encX), .int .i64 p] 45 none := by rw [hH]; exact get_push_new
 have kH : Keep h H none_ := by rw [hH]; exact Keep.push _ _ _
 refine SCalls.enterI (c := _) Tryz.func61 rfl (by kernel_rfl) (by simp) ?_
 simp only [wpA_region, wpA_seq, seqQ_normal, goI_out, goI_ops, opsA_nil, opsA_cons, stepA_assign, stepA_box, stepA_load, stepA_call, thenV_some, thenH_some, eval_tmp, eval_const, put_some, enterF_zero, enterF_succ, absV_bool, aLoad_eq, loadGo_row, aPlace_ptr, dropC_cells, aBox_eq, Nat.reduceEqDiff, Nat.reduceAdd, List.map_cons, List.map_nil, Option.map_some, Nat.zero_add, Nat.zero_le, List.length_cons, List.length_nil, List.drop_zero, List.take_succ_cons, List.take_nil, if_true, if_false, Nat.le_refl, lt_45, hc, ← hH, gt]
 refine callI_pure cal12 (pCheck l p hok H (hg.keep kH)) ?_
 simp only [wpA_region, wpA_seq, wpA_ret, seqQ_normal, endI_mk, goI_out, goI_ops, opsA_nil, opsA_cons, stepA_move, stepA_assign, stepA_binOp, stepA_extract, thenV_some, extV_zero, extV_succ, eval_tmp, eval_const, put_some, enterF_succ, aBin_eql, absV_int, Nat.reduceEqDiff, if_true, if_false, chkA, retA_ret, Tryz.results61, resultsA_1]
 exact hid_mk ⟨rfl, kH⟩
def mx : Int → List Int → Int
 | a, [] => a
 | a, b :: r => mx (max a b) r
theorem mx_snoc (b : Int) : ∀ (a : Int) (r : List Int), mx a (r ++ [b]) = max (mx a r) b
 | a, [] => rfl
 | a, c :: r => mx_snoc b (max a c) r
set_option maxRecDepth 10000 in
theorem pMax (L : List Int) (a : Int) (r : List Int) (hL : L = a :: r) (hl : L.length < 2 ^ 40) (h : AHeap) : Pure Tryz.prog 71 [.imm L.length (i64V L)] h (.int .i64 (mx a r)) := by
 refine Pure.val (Clo.int _ _) ?_
 have hpos : 0 < L.length := by rw [hL]; simp
 have hn : L.length = r.length + 1 := by rw [hL]; rfl
 refine SCalls.enterI (c := _) Tryz.func71 rfl (by kernel_rfl) (by simp) ?_
 have c0 : decide (((L.length : Nat) : Int) < 1) = false := by simp only [decide_eq_false_iff_not]; omega
 have x0 : (if (0 : Int) < ((L.length : Nat) : Int) ∧ Int.toNat 0 * 1 ≤ (i64V L).length then some (V.at (List.drop (Int.toNat 0 * 1) (i64V L))) else none) = some (V.at (.int .i64 a :: i64V r)) := by
  rw [if_pos ⟨by omega, by simp⟩, hL]; rfl
 simp only [wpA_skip, wpA_region, wpA_seq, wpA_cond, wpA_block, wpA_loop, condI_false, seqQ_normal, goI_out, goI_ops, opsA_nil, opsA_cons, stepA_move, stepA_assign, stepA_load, stepA_binOp, stepA_indexAddr, stepA_len, thenV_some, eval_tmp, eval_const, put_some, enterF_zero, enterF_succ, aBin_lss, absV_int, aLoad_eq, loadGo_one, aPlace_at, aIndexAddr_eq, ixGo_imm, aLen_imm, Int.reduceLE, Nat.reduceEqDiff, reduceCtorEq, true_and, if_true, if_false, as_66, kt_66, lt_3, ss_66, c0, x0]
 refine SWp.loopG (α := Nat) (fun i f h' => f 0 = .imm L.length (i64V L) ∧ f 3 = .int .i64 (mx a (r.take i)) ∧ f 4 = .int .i64 ((i + 1 : Nat) : Int) ∧ i ≤ r.length ∧ h' = h) (fun i => r.length - i) 0 ⟨rfl, rfl, rfl, Nat.zero_le _, rfl⟩ ?_
 rintro i f h1 ⟨f0, f3, f4, hi, rfl⟩
 refine wpI_sound (by kernel_rfl) ?_
 by_cases hlt : i < r.length
 ·have c1 : decide (((i + 1 : Nat) : Int) < ((L.length : Nat) : Int)) = true := by simp only [decide_eq_true_eq]; omega
  have x1 := i64V_ix' (P := Tryz.prog) (kk := .i64) (l := L) (k := i + 1) (by omega) ss_66
  have hg : L[i + 1]'(by omega) = r[i] := by subst hL; rfl
  have hsn : r.take (i + 1) = r.take i ++ [r[i]] := List.take_succ_eq_append_getElem hlt
  rw [hg] at x1
  generalize r[i] = B at x1 hsn
  have w2 : IntKind.i64.wrap (((i + 1 : Nat) : Int) + 1) = ((i + 1 + 1 : Nat) : Int) := by rw [Go.IntWalk.i64_in _ (by omega)]; omega
  simp only [wpA_skip, wpA_region, wpA_seq, wpA_cond, wpA_block, condI_true, seqQ_normal, blkQ_normal, endI_mk, andThen_normal, goI_out, goI_ops, opsA_nil, opsA_cons, stepA_move, stepA_assign, stepA_load, stepA_binOp, stepA_indexAddr, stepA_len, stepA_max, thenV_some, eval_tmp, eval_const, put_some, aBin_add, aBin_lss, mmV_max, absV_int, aLoad_eq, loadGo_one, aPlace_at, aLen_imm, Nat.reduceEqDiff, reduceCtorEq, if_true, if_false, kt_66, lt_3, f0, f3, f4, c1, x1, w2]
  exact hid_mk ⟨i + 1, ⟨f0, by rw [hsn, mx_snoc]; rfl, rfl, by omega, rfl⟩, by omega⟩
 ·have c1 : decide (((i + 1 : Nat) : Int) < ((L.length : Nat) : Int)) = false := by simp only [decide_eq_false_iff_not]; omega
  rw [List.take_of_length_le (by omega)] at f3
  simp only [wpA_region, wpA_seq, wpA_cond, wpA_exit, wpA_ret, condI_false, seqQ_normal, seqQ_exit, blkQ_exit, endI_mk, goE, andThen_exit, goI_out, goI_ops, opsA_nil, opsA_cons, stepA_move, stepA_assign, stepA_binOp, stepA_len, thenV_some, eval_tmp, put_some, aBin_lss, aLen_imm, Nat.reduceEqDiff, reduceCtorEq, if_true, if_false, kt_66, f0, f3, f4, c1, retA_ret, Tryz.results71, resultsA_1]
  exact hid_mk ⟨rfl, Keep.refl _ _⟩
def tasksX (p : Int) (l : List Vx) : Int := if (chkT p l).2 = 0 then IntKind.i64.wrap (IntKind.i64.wrap (mx ((partsX p l).headD 0) (partsX p l).tail + 1) * p) else 0
theorem partsX_len {p : Int} {l : List Vx} (h0 : (chkT p l).2 = 0) : (partsX p l).length = l.length := by
 unfold partsX
 rw [if_pos h0, ptN_len]
set_option maxRecDepth 10000 in
theorem pTasks (l : List Vx) (p : Int) (hok : OkT l) (h : AHeap) (hg : TG h) : Pure Tryz.prog 38 [.agg (topE l p)] h (.int .i64 (tasksX p l)) := by
 refine Pure.val (Clo.int _ _) ?_
 have hc : (V.agg (topE l p)).cells = some [.imm l.length (l.flatMap encX), .int .i64 p] := rfl
 obtain ⟨H, hH⟩ : ∃ x, x = h.push (.cells [.imm l.length (l.flatMap encX), .int .i64 p] 45 none) := ⟨_, rfl⟩
 have gt : H.get h.n = .cells [.imm l.length (l.flatMap encX), .int .i64 p] 45 none := by rw [hH]; exact get_push_new
 have kH : Keep h H none_ := by rw [hH]; exact Keep.push _ _ _
 refine SCalls.enterI (c := _) Tryz.func38 rfl (by kernel_rfl) (by simp) ?_
 simp only [wpA_region, wpA_seq, seqQ_normal, goI_out, goI_ops, opsA_nil, opsA_cons, stepA_assign, stepA_box, stepA_load, stepA_call, thenV_some, thenH_some, eval_tmp, eval_const, put_some, enterF_zero, enterF_succ, absV_int, aLoad_eq, loadGo_row, aPlace_ptr, dropC_cells, aBox_eq, Nat.reduceEqDiff, Nat.reduceAdd, List.map_cons, List.map_nil, Option.map_some, Nat.zero_add, Nat.zero_le, List.length_cons, List.length_nil, List.drop_zero, List.take_succ_cons, List.take_nil, if_true, if_false, Nat.le_refl, lt_45, hc, ← hH, gt]
 refine callI_pure cal70 (pParts l p hok H (hg.keep kH)) ?_
 by_cases h0 : (chkT p l).2 = 0
 rotate_left
 ·have c2 : ((chkT p l).2 != 0) = true := by simp [h0]
  simp only [wpA_region, wpA_seq, wpA_cond, wpA_ret, condI_true, seqQ_normal, seqQ_ret, endI_mk, goI_out, goI_ops, opsA_nil, opsA_cons, stepA_move, stepA_assign, stepA_binOp, stepA_extract, thenV_some, extV_zero, extV_succ, eval_tmp, eval_const, put_some, enterF_succ, aBin_neq, absV_int, Nat.reduceEqDiff, if_true, if_false, c2, retA_ret, Tryz.results38, resultsA_1]
  exact hid_mk ⟨by rw [tasksX, if_neg h0], kH⟩
 have c2 : ((chkT p l).2 != 0) = false := by simp [h0]
 obtain ⟨_, _, l1, l24, _⟩ := chk_ok h0
 have hpl := partsX_len h0
 have hT : tasksX p l = IntKind.i64.wrap (IntKind.i64.wrap (mx ((partsX p l).headD 0) (partsX p l).tail + 1) * p) := if_pos h0
 obtain ⟨a, r, hL⟩ : ∃ a r, partsX p l = a :: r := by
  cases hq : partsX p l with
  | nil => rw [hq] at hpl; simp at hpl; omega
  | cons a r => exact ⟨a, r, rfl⟩
 rw [hL] at hT
 generalize partsX p l = L at hpl hL
 simp only [wpA_skip, wpA_region, wpA_seq, wpA_cond, wpA_draw, condI_false, seqQ_normal, goI_out, goI_ops, opsA_nil, opsA_cons, stepA_move, stepA_assign, stepA_binOp, stepA_extract, thenV_some, extV_zero, extV_succ, eval_tmp, eval_const, put_some, enterF_succ, aBin_neq, absV_int, Nat.reduceEqDiff, if_true, if_false, c2]
 refine SWp.drawnS none_ [] (.q 0 (.c 1 (.q 2 (.q 3 (.q 4 (.q 5 (.q 6 .done))))))) (by kernel_rfl) (by kernel_rfl) (by kernel_rfl) ?_
 simp only [siI_q, sqI_some, mOk_none', implies_true, qI_nil, qI_cons, q_move, goI_mk, eval_tmp, put_some, enterF_succ, List.getElem?_cons_zero, Nat.reduceEqDiff, true_and, if_true, if_false]
 refine siI_c rfl rfl rfl (fun h' hk => pMax L a r hL (by omega) h') ?_
 simp only [siI_done, siI_q, sqI_some, mOk_none', implies_true, qI_nil, qI_cons, thenQ_some, q_assign, q_load, q_binOp, q_fieldAddr, wpA_ret, seqQ_normal, endI_mk, goI_out, goI_mk, eval_tmp, eval_const, put_some, enterF_succ, aBin_add, aBin_mul, absV_int, aField_eq, fieldGo_ptr, aLoad_eq, loadGo_one, aPlace_ptr, dropC_cells, List.getElem?_cons_zero, List.getElem?_cons_succ, Nat.reduceEqDiff, Nat.reduceAdd, Nat.reduceLeDiff, Nat.zero_add, List.length_cons, List.length_nil, List.drop_zero, List.drop_succ_cons, true_and, if_true, if_false, ft_45_1, lt_3, gt, retA_ret, Tryz.results38, resultsA_1]
 exact hid_mk ⟨by rw [hT]; rfl, kH⟩
end Go.Proofs.YtfcjehlhoebmnaaGreatDoor.Pk
namespace Go.Proofs.YtfcjehlhoebmnaaGreatDoor.Pk
open Go Go.Proofs Go.Proofs.YtfcjehlhoebmnaaGreatDoor.Ab
set_option linter.unusedVariables false
def Ed (l : List Vx) (a b : Nat) : Prop := ∃ x, l[b]? = some x ∧ (a : Int) ∈ x.frm ∧ kindAt l (a : Int) ≠ 5
inductive Cn (l : List Vx) : Nat → Nat → Prop
 | refl (a : Nat) : Cn l a a
 | step {a b c : Nat} : Cn l a b → (Ed l b c ∨ Ed l c b) → Cn l a c
def Up (l : List Vx) : Prop := ∀ (v : Nat) (x : Vx), l[v]? = some x → ∀ f ∈ x.frm, 0 ≤ f ∧ f < (v : Int)
theorem mgF_none {l : List Vx} {L : List Nat} {v : Nat} : ∀ {r : List Int}, mgF l L v r = none → ∀ f ∈ r, kindAt l f ≠ 5 → L.getD v 0 = L.getD f.toNat 0
 | [], _, f, hf, _ => by simp at hf
 | g :: r, h, f, hf, hk => by
  unfold mgF at h
  split at h
  ·cases h
  ·rename_i hc
   rcases List.mem_cons.1 hf with rfl | hf
   ·exact Classical.byContradiction fun e => hc ⟨hk, e⟩
   ·exact mgF_none h f hf hk
theorem mgV_none {l : List Vx} {L : List Nat} : ∀ {r : List Vx} {v : Nat}, mgV l L v r = none → ∀ (k : Nat) (x : Vx), r[k]? = some x → mgF l L (v + k) x.frm = none
 | [], _, _, k, x, hx => by simp at hx
 | y :: r, v, h, k, x, hx => by
  unfold mgV at h
  split at h
  ·cases h
  ·rename_i q
   cases k with
   | zero => simp at hx; subst hx; exact q
   | succ k => rw [show v + (k + 1) = v + 1 + k by omega]; exact mgV_none h k x (by simpa using hx)
theorem mgF_edge {l : List Vx} {L : List Nat} {v : Nat} : ∀ {r : List Int} {L' : List Nat}, mgF l L v r = some L' → ∃ f ∈ r, kindAt l f ≠ 5 ∧ L.getD v 0 ≠ L.getD f.toNat 0 ∧ L' = (L.set v (min (L.getD v 0) (L.getD f.toNat 0))).set f.toNat (min (L.getD v 0) (L.getD f.toNat 0))
 | [], _, h => by cases h
 | f :: r, L', h => by
  unfold mgF at h
  split at h
  ·rename_i hc
   exact ⟨f, by simp, hc.1, hc.2, (Option.some.inj h).symm⟩
  ·obtain ⟨g, hg, h1, h2⟩ := mgF_edge h
   exact ⟨g, List.mem_cons_of_mem _ hg, h1, h2⟩
theorem mgV_step {l : List Vx} (hu : Up l) {L L' : List Nat} (h : mgV l L 0 l = some L') : ∃ v f, f < v ∧ v < l.length ∧ Ed l f v ∧ L.getD v 0 ≠ L.getD f 0 ∧ L' = (L.set v (min (L.getD v 0) (L.getD f 0))).set f (min (L.getD v 0) (L.getD f 0)) := by
 obtain ⟨k, x, h1, h2⟩ := mgV_at h
 obtain ⟨f, hf, hk, hne, e⟩ := mgF_edge h2
 obtain ⟨a, b⟩ := hu k x h1 f hf
 rw [Nat.zero_add] at hne e
 refine ⟨k, f.toNat, by omega, (List.getElem?_eq_some_iff.1 h1).1, ⟨x, h1, ?_, ?_⟩, hne, e⟩
 ·rw [Int.toNat_of_nonneg a]; exact hf
 ·rw [Int.toNat_of_nonneg a]; exact hk
theorem mgN_fix {l : List Vx} (hu : Up l) : ∀ (k : Nat) (L : List Nat), L.length = l.length → L.sum < k → mgV l (mgN l k L) 0 l = none ∧ (mgN l k L).length = l.length
 | 0, L, _, h => by omega
 | k + 1, L, hL, h => by
  unfold mgN
  cases hq : mgV l L 0 l with
  | none => exact ⟨hq, hL⟩
  | some L' =>
   obtain ⟨v, f, a, b, _, c, e⟩ := mgV_step hu hq
   have := sum_low (L := L) (v := v) (f := f) (by omega) (by omega) (by omega) c
   rw [← e] at this
   exact mgN_fix hu k L' (by rw [e]; simp [hL]) (by omega)
theorem mgN_cn {l : List Vx} (hu : Up l) : ∀ (k : Nat) (L : List Nat), L.length = l.length → (∀ j, j < l.length → Cn l (L.getD j 0) j) → ∀ j, j < l.length → Cn l ((mgN l k L).getD j 0) j
 | 0, L, _, h => h
 | k + 1, L, hL, h => by
  unfold mgN
  cases hq : mgV l L 0 l with
  | none => exact h
  | some L' =>
   obtain ⟨v, f, a, b, ed, c, e⟩ := mgV_step hu hq
   refine mgN_cn hu k L' (by rw [e]; simp [hL]) fun j hj => ?_
   have hv := h v b
   have hf := h f (by omega)
   have hm : Cn l (min (L.getD v 0) (L.getD f 0)) v ∧ Cn l (min (L.getD v 0) (L.getD f 0)) f := by
    rcases Nat.le_total (L.getD v 0) (L.getD f 0) with hle | hle
    ·rw [Nat.min_eq_left hle]; exact ⟨hv, hv.step (.inr ed)⟩
    ·rw [Nat.min_eq_right hle]; exact ⟨hf.step (.inl ed), hf⟩
   rw [e, getD_set, getD_set]
   split
   ·rename_i hh; rw [← hh.1]; exact hm.2
   ·split
    ·rename_i hh; rw [← hh.1]; exact hm.1
    ·exact h j hj
structure Lst (l : List Vx) (R : List Nat) : Prop where
 len : R.length = l.length
 le : ∀ j, R.getD j 0 ≤ j
 cn : ∀ j, j < l.length → Cn l (R.getD j 0) j
 ed : ∀ a b, Ed l a b → R.getD a 0 = R.getD b 0
theorem Lst.same {l : List Vx} {R : List Nat} (h : Lst l R) {a b : Nat} (c : Cn l a b) : R.getD a 0 = R.getD b 0 := by
 induction c with
 | refl => rfl
 | step _ e ih =>
          rcases e with e | e
          ·rw [ih]; exact h.ed _ _ e
          ·rw [ih]; exact (h.ed _ _ e).symm
theorem Lst.root {l : List Vx} {R : List Nat} (h : Lst l R) {a : Nat} (ha : a < l.length) : R.getD (R.getD a 0) 0 = R.getD a 0 := h.same (h.cn a ha)
theorem mgX_lst {l : List Vx} (hu : Up l) (h24 : l.length ≤ 24) : Lst l (mgX l) := by
 have hs : (List.range l.length).sum < 600 := by
  have : ∀ n : Nat, n ≤ 24 → (List.range n).sum < 600 := by decide
  exact this _ h24
 obtain ⟨f1, f2⟩ := mgN_fix hu 600 (List.range l.length) (by simp) hs
 refine ⟨f2, mgX_le l, mgN_cn hu _ _ (by simp) fun j hj => ?_, fun a b ⟨x, h1, h2, h3⟩ => ?_⟩
 ·rw [List.getD, List.getElem?_range hj]; exact .refl _
 ·have := mgF_none (mgV_none f1 b x h1) (a : Int) h2 h3
  rw [Nat.zero_add, Int.toNat_natCast] at this
  exact this.symm
def cntR (R : List Nat) (i : Nat) : Nat := (ptN R i).2
theorem cnt_succ (R : List Nat) (i : Nat) : cntR R (i + 1) = if R.getD i 0 = i then cntR R i + 1 else cntR R i := by
 unfold cntR
 show (if R.getD i 0 = i then _ else _ : List Int × Nat).2 = _
 split <;> rfl
theorem cnt_mono (R : List Nat) {i : Nat} : ∀ {j : Nat}, i ≤ j → cntR R i ≤ cntR R j
 | 0, h => by rw [Nat.le_zero.1 h]; exact Nat.le_refl _
 | j + 1, h => by
  rcases Nat.lt_or_ge j i with hl | hl
  ·rw [show i = j + 1 by omega]; exact Nat.le_refl _
  ·have := cnt_mono R (i := i) hl
   rw [cnt_succ]
   split <;> omega
theorem cnt_lt {R : List Nat} {r j : Nat} (hr : R.getD r 0 = r) (h : r < j) : cntR R r < cntR R j := by
 have := cnt_mono R (i := r + 1) (j := j) h
 rw [cnt_succ, if_pos hr] at this
 omega
theorem pt_get {l : List Vx} {R : List Nat} (hR : Lst l R) : ∀ {i : Nat}, i ≤ l.length → ∀ v, v < i → (ptN R i).1.getD v 0 = ((cntR R (R.getD v 0) : Nat) : Int)
 | 0, _, v, h => by omega
 | i + 1, hi, v, h => by
  have ih := pt_get hR (i := i) (by omega)
  have hl := ptN_len R i
  unfold ptN
  rcases Nat.lt_or_ge v i with hv | hv
  ·split
   ·rw [← ih v hv]
    simp only [List.getD]
    rw [List.getElem?_append_left (by omega)]
   ·rw [← ih v hv]
    simp only [List.getD]
    rw [List.getElem?_append_left (by omega)]
  ·have he : v = i := by omega
   subst he
   split
   ·rename_i hr
    rw [hr]
    simp only [List.getD]
    rw [List.getElem?_append_right (by omega), hl, Nat.sub_self]
    all_goals rfl
   ·rename_i hr
    have hlt : R.getD v 0 < v := by have := hR.le v; omega
    have hq := ih _ hlt
    rw [hR.root (by omega)] at hq
    show ((ptN R v).1 ++ [(ptN R v).1.getD (R.getD v 0) 0]).getD v 0 = _
    rw [hq]
    simp only [List.getD]
    rw [List.getElem?_append_right (by omega), hl, Nat.sub_self]
    all_goals rfl
theorem pt_mx (R : List Nat) {l : List Vx} (hR : Lst l R) : ∀ i, i < l.length → mx ((ptN R (i + 1)).1.headD 0) (ptN R (i + 1)).1.tail = ((cntR R (i + 1) : Nat) : Int) - 1
 | 0, h => by
  have h0 : R.getD 0 0 = 0 := by have := hR.le 0; omega
  have : ptN R 1 = ([0], 1) := by unfold ptN; rw [if_pos h0]; rfl
  rw [show (0 + 1 : Nat) = 1 from rfl, cntR, this]
  all_goals rfl
 | i + 1, h => by
  have ih := pt_mx R hR i (by omega)
  have hl := ptN_len R (i + 1)
  obtain ⟨x, hx, hx2⟩ : ∃ x, (ptN R (i + 1 + 1)).1 = (ptN R (i + 1)).1 ++ [x] ∧ max (((cntR R (i + 1) : Nat) : Int) - 1) x = ((cntR R (i + 2) : Nat) : Int) - 1 := by
   have hg := pt_get hR (i := i + 1 + 1) (by omega) (i + 1) (by omega)
   have hc := cnt_succ R (i + 1)
   by_cases hr : R.getD (i + 1) 0 = i + 1
   ·refine ⟨((cntR R (i + 1) : Nat) : Int), by rw [show ptN R (i + 1 + 1) = _ from rfl]; unfold ptN; rw [if_pos hr]; rfl, ?_⟩
    rw [if_pos hr] at hc
    rw [show i + 2 = i + 1 + 1 from rfl, hc]
    omega
   ·have hlt : R.getD (i + 1) 0 < i + 1 := by have := hR.le (i + 1); omega
    refine ⟨((cntR R (R.getD (i + 1) 0) : Nat) : Int), ?_, ?_⟩
    ·have h2 : (ptN R (i + 1 + 1)).1 = (ptN R (i + 1)).1 ++ [(ptN R (i + 1)).1.getD (R.getD (i + 1) 0) 0] := by
      show (if R.getD (i + 1) 0 = i + 1 then _ else _ : List Int × Nat).1 = _
      rw [if_neg hr]
     rw [h2, pt_get hR (i := i + 1) (by omega) _ hlt, hR.root (by omega)]
    ·rw [if_neg hr] at hc
     rw [show i + 2 = i + 1 + 1 from rfl, hc]
     have := cnt_lt (hR.root (a := i + 1) (by omega)) hlt
     omega
  rw [hx]
  cases hp : (ptN R (i + 1)).1 with
  | nil => rw [hp] at hl; simp at hl
  | cons a r =>
   rw [hp] at ih
   simp only [List.headD_cons, List.tail_cons] at ih
   simp only [List.cons_append, List.headD_cons, List.tail_cons]
   rw [mx_snoc, ih, hx2]
theorem up_of {p : Int} {l : List Vx} (h0 : (chkT p l).2 = 0) : Up l := by
 obtain ⟨_, _, _, _, _, hall⟩ := chk_ok h0
 exact fun v x hx f hf => (chkV_zero (hall v x hx)).2.1 f hf
theorem cntR_le (R : List Nat) (i : Nat) : cntR R i ≤ i := ptN_le R i
theorem tasks_eq {p : Int} {l : List Vx} (h0 : (chkT p l).2 = 0) : tasksX p l = ((cntR (mgX l) l.length : Nat) : Int) * p := by
 obtain ⟨_, hp, l1, l24, _, _⟩ := chk_ok h0
 have hR := mgX_lst (up_of h0) l24
 have hm := pt_mx (mgX l) hR (l.length - 1) (by omega)
 rw [show l.length - 1 + 1 = l.length by omega] at hm
 have hc := cntR_le (mgX l) l.length
 generalize cntR (mgX l) l.length = c at hm hc ⊢
 have hX : partsX p l = (ptN (mgX l) l.length).1 := if_pos h0
 rw [tasksX, if_pos h0, hX, hm]
 have e1 : IntKind.i64.wrap ((c : Int) - 1 + 1) = c := by rw [Go.IntWalk.i64_in _ (by omega)]; omega
 rw [e1]
 have hP : p = 1 ∨ p = 2 ∨ p = 3 ∨ p = 4 ∨ p = 5 ∨ p = 6 ∨ p = 7 ∨ p = 8 := by omega
 refine Go.IntWalk.i64_in _ ?_
 rcases hP with rfl | rfl | rfl | rfl | rfl | rfl | rfl | rfl <;> omega
end Go.Proofs.YtfcjehlhoebmnaaGreatDoor.Pk
namespace Go.Proofs.YtfcjehlhoebmnaaGreatDoor.Pk
open Go Go.Proofs Go.Proofs.YtfcjehlhoebmnaaGreatDoor.Ab
set_option maxRecDepth 10000
set_option linter.unusedVariables false
set_option linter.unusedSimpArgs false
def entS (r : Int) : Int := if bAnd .u32 r 1 = 0 then r.fdiv (2 ^ (min (Int.toNat 1) IntKind.u32.bits)) else bXor .u32 (r.fdiv (2 ^ (min (Int.toNat 1) IntKind.u32.bits))) 2197175160
def entF (r : Int) : Nat → Int
 | 0 => r
 | k + 1 => entS (entF r k)
set_option maxRecDepth 10000 in
theorem entry (c : Int) (h : AHeap) : Pure Tryz.prog 283 [.int .u8 c] h (.int .u32 (entF (IntKind.u32.wrap c) 8)) := by
 refine SCalls.enterI (c := _) Tryz.func283 rfl (by kernel_rfl) (by simp) ?_
 simp only [wpA_skip, wpA_region, wpA_seq, wpA_cond, wpA_block, wpA_exit, wpA_goto, wpA_label, wpA_ret, wpA_loop, wpA_scope, wpA_draw, condI_true, condI_false, pt_mk, seqQ_normal, seqQ_exit, seqQ_goto, seqQ_ret, seqQ_panic, blkQ_normal, blkQ_exit, blkQ_goto, blkQ_ret, blkQ_panic, endI_mk, goE, excE_out, excE_ops, andThen_normal, andThen_exit, andThen_goto, andThen_ret, andThen_panic, goI_out, goI_ops, goI_mk, opsA_nil, opsA_cons, opsA_guardS, gvI_same, gvI_tf, gvI_ft, gvI_u, slotAt_zero, slotAt_succ, stepA_move, stepA_assign, stepA_pick, stepA_alloc, stepA_box, stepA_build, stepA_buildSlice, stepA_load, stepA_store, stepA_nilCheck, stepA_binOp, stepA_unOp, stepA_convert, stepA_makeMap, stepA_makeSlice, stepA_slice, stepA_fieldAddr, stepA_field, stepA_indexAddr, stepA_index, stepA_lookup, stepA_mapUpdate, stepA_mapEntry, stepA_entryStore, stepA_insert, stepA_range, stepA_next, stepA_entry, stepA_typeAssert, stepA_extract, stepA_makeInterface, stepA_makeFunc, stepA_panic, stepA_bpanic, stepA_len, stepA_append, stepA_copy, stepA_cap, stepA_delete, stepA_clear, stepA_min, stepA_max, stepA_call, stepA_callv, stepA_inv, callvI_func, panI_iface, ifcV_false, thenV_some, thenC_some, thenC_mark, thenH_some, thenS_some, thenV_none, thenH_none, thenS_none, pickV_true, pickV_false, nilV_ptr, nilV_at, nilV_func, extV_zero, extV_succ, eval_tmp, eval_const, eval_func, put_some, put_none, enterF_zero, enterF_succ, aBin_add, aBin_sub, aBin_mul, aBin_eql, aBin_neq, aBin_lss, aBin_leq, aBin_gtr, aBin_geq, aBin_and, aBin_or, aBin_xor, aBin_andNot, aUn_not, aUn_neg, aBin_bool_eql, aBin_bool_neq, aBin_str_eql, aBin_str_neq, aConv_int, mmV_min, mmV_max, ptr_nil_eql, ptr_nil_neq, at_nil_eql, at_nil_neq, nil_nil_eql, nil_nil_neq, absV_int, absV_bool, absV_str, absV_pnil, absV_snil, absV_mnil, absV_nilFunc, absV_nilIface, absV_agg, absV_tuple, absF_int, absF_bool, absF_str, absF_pnil, absF_snil, absF_mnil, absF_nilFunc, absF_nilIface, cells_int, cells_bool, cells_string, cells_pnil, cells_snil, cells_mnil, cells_z0, cells_nilFunc, cells_nilIface, cells_ptr, cells_sl, cells_imm, cells_atp, cells_map, cells_func, cells_iface, cells_agg, one_int, one_bool, one_string, one_pnil, one_snil, one_mnil, one_z0, one_nilFunc, one_nilIface, one_ptr, one_sl, one_imm, one_at, one_map, one_func, one_iface, all_nil, all_cons, aField_eq, fieldGo_ptr, fieldGo_at, aLoad_eq, loadGo_one, loadGo_row, aPlace_ptr, aPlace_at, dropC_cells, aStore_eq, storeGo_ptr, setC_one, setC_row, setAll_nil, setAll_cons, aAlloc_eq, aBox_eq, aIndexAddr_eq, ixGo_sl, ixGo_imm, ixGo_ptr, ixGo_at, aLen_sl, aLen_imm, aLen_snil, aLen_z0, aLen_mnil, aLen_str, makeMap_nil, aBuild_go, aFill_nil, aFill_cons, fillGo_some, aFieldOf_eq, partGo_row, partGo_one, buildGo_struct, buildGo_array, push_n, set_n, push_glob, set_glob, get_push_new, get_set_same, set_set, set_push, get_push2, get_push2', set_push2, set_push2', get_push3a, get_push3b, get_push3c, get_push4a, get_push4b, get_push4c, get_push4d, set_push3a, set_push3b, set_push3c, set_push4a, set_push4b, set_push4c, set_push4d, List.getElem?_cons_zero, List.getElem?_cons_succ, Int.reduceBEq, Int.reduceBNe, bne_self_eq_false, beq_self_eq_true, Int.reduceLT, Int.reduceLE, Int.reduceNeg, Option.some.injEq, Bool.false_eq_true, decide_true, decide_false, reduceIte, Nat.reduceEqDiff, Nat.reduceAdd, Nat.reduceLT, Nat.reduceLeDiff, Nat.reduceMul, Nat.reduceSub, reduceCtorEq, List.map_cons, List.map_nil, Option.map_some, Option.map_none, Nat.add_zero, Nat.zero_add, Nat.zero_le, List.length_cons, List.length_nil, List.drop_zero, List.drop_succ_cons, List.drop_nil, List.take_succ_cons, List.take_zero, List.take_nil, List.set_cons_zero, List.set_cons_succ, List.nil_append, List.append_nil, List.cons_append, and_true, true_and, and_self, if_true, if_false, Bool.and_true, Bool.true_and, Bool.and_self, Bool.not_true, Bool.not_false, Nat.zero_lt_succ, Nat.lt_irrefl, Nat.le_refl, it_206, it_5]
 refine SWp.loopG (α := Nat) (fun i f h' => h' = h ∧ f 3 = .int .u32 (entF (IntKind.u32.wrap c) i) ∧ f 7 = .int .i64 (i : Nat) ∧ i ≤ 8) (fun i => 8 - i) 0
  ⟨rfl, rfl, rfl, Nat.zero_le _⟩ ?_
 rintro i f h' ⟨rfl, f3, f7, hi⟩
 refine wpI_sound (by kernel_rfl) ?_
 by_cases hlast : i < 8
 ·have d1 : decide ((i : Int) < 8) = true := by simp; omega
  have hw : IntKind.i64.wrap ((i : Int) + 1) = ((i + 1 : Nat) : Int) := by rw [Go.IntWalk.i64_in _ (by omega)]; rfl
  by_cases c1 : bAnd .u32 (entF (IntKind.u32.wrap c) i) 1 = 0
  ·have c1' : (bAnd .u32 (entF (IntKind.u32.wrap c) i) 1 != 0) = false := by simp [c1]
   simp only [wpA_skip, wpA_region, wpA_seq, wpA_cond, wpA_block, wpA_exit, wpA_goto, wpA_label, wpA_ret, wpA_loop, wpA_scope, wpA_draw, condI_true, condI_false, pt_mk, seqQ_normal, seqQ_exit, seqQ_goto, seqQ_ret, seqQ_panic, blkQ_normal, blkQ_exit, blkQ_goto, blkQ_ret, blkQ_panic, endI_mk, goE, excE_out, excE_ops, andThen_normal, andThen_exit, andThen_goto, andThen_ret, andThen_panic, goI_out, goI_ops, goI_mk, opsA_nil, opsA_cons, opsA_guardS, gvI_same, gvI_tf, gvI_ft, gvI_u, slotAt_zero, slotAt_succ, stepA_move, stepA_assign, stepA_pick, stepA_alloc, stepA_box, stepA_build, stepA_buildSlice, stepA_load, stepA_store, stepA_nilCheck, stepA_binOp, stepA_unOp, stepA_convert, stepA_makeMap, stepA_makeSlice, stepA_slice, stepA_fieldAddr, stepA_field, stepA_indexAddr, stepA_index, stepA_lookup, stepA_mapUpdate, stepA_mapEntry, stepA_entryStore, stepA_insert, stepA_range, stepA_next, stepA_entry, stepA_typeAssert, stepA_extract, stepA_makeInterface, stepA_makeFunc, stepA_panic, stepA_bpanic, stepA_len, stepA_append, stepA_copy, stepA_cap, stepA_delete, stepA_clear, stepA_min, stepA_max, stepA_call, stepA_callv, stepA_inv, callvI_func, panI_iface, ifcV_false, thenV_some, thenC_some, thenC_mark, thenH_some, thenS_some, thenV_none, thenH_none, thenS_none, pickV_true, pickV_false, nilV_ptr, nilV_at, nilV_func, extV_zero, extV_succ, eval_tmp, eval_const, eval_func, put_some, put_none, enterF_zero, enterF_succ, aBin_add, aBin_sub, aBin_mul, aBin_eql, aBin_neq, aBin_lss, aBin_leq, aBin_gtr, aBin_geq, aBin_and, aBin_or, aBin_xor, aBin_andNot, aUn_not, aUn_neg, aBin_bool_eql, aBin_bool_neq, aBin_str_eql, aBin_str_neq, aConv_int, mmV_min, mmV_max, ptr_nil_eql, ptr_nil_neq, at_nil_eql, at_nil_neq, nil_nil_eql, nil_nil_neq, absV_int, absV_bool, absV_str, absV_pnil, absV_snil, absV_mnil, absV_nilFunc, absV_nilIface, absV_agg, absV_tuple, absF_int, absF_bool, absF_str, absF_pnil, absF_snil, absF_mnil, absF_nilFunc, absF_nilIface, cells_int, cells_bool, cells_string, cells_pnil, cells_snil, cells_mnil, cells_z0, cells_nilFunc, cells_nilIface, cells_ptr, cells_sl, cells_imm, cells_atp, cells_map, cells_func, cells_iface, cells_agg, one_int, one_bool, one_string, one_pnil, one_snil, one_mnil, one_z0, one_nilFunc, one_nilIface, one_ptr, one_sl, one_imm, one_at, one_map, one_func, one_iface, all_nil, all_cons, aField_eq, fieldGo_ptr, fieldGo_at, aLoad_eq, loadGo_one, loadGo_row, aPlace_ptr, aPlace_at, dropC_cells, aStore_eq, storeGo_ptr, setC_one, setC_row, setAll_nil, setAll_cons, aAlloc_eq, aBox_eq, aIndexAddr_eq, ixGo_sl, ixGo_imm, ixGo_ptr, ixGo_at, aLen_sl, aLen_imm, aLen_snil, aLen_z0, aLen_mnil, aLen_str, makeMap_nil, aBuild_go, aFill_nil, aFill_cons, fillGo_some, aFieldOf_eq, partGo_row, partGo_one, buildGo_struct, buildGo_array, push_n, set_n, push_glob, set_glob, get_push_new, get_set_same, set_set, set_push, get_push2, get_push2', set_push2, set_push2', get_push3a, get_push3b, get_push3c, get_push4a, get_push4b, get_push4c, get_push4d, set_push3a, set_push3b, set_push3c, set_push4a, set_push4b, set_push4c, set_push4d, List.getElem?_cons_zero, List.getElem?_cons_succ, Int.reduceBEq, Int.reduceBNe, bne_self_eq_false, beq_self_eq_true, Int.reduceLT, Int.reduceLE, Int.reduceNeg, Option.some.injEq, Bool.false_eq_true, decide_true, decide_false, reduceIte, Nat.reduceEqDiff, Nat.reduceAdd, Nat.reduceLT, Nat.reduceLeDiff, Nat.reduceMul, Nat.reduceSub, reduceCtorEq, List.map_cons, List.map_nil, Option.map_some, Option.map_none, Nat.add_zero, Nat.zero_add, Nat.zero_le, List.length_cons, List.length_nil, List.drop_zero, List.drop_succ_cons, List.drop_nil, List.take_succ_cons, List.take_zero, List.take_nil, List.set_cons_zero, List.set_cons_succ, List.nil_append, List.append_nil, List.cons_append, and_true, true_and, and_self, if_true, if_false, Bool.and_true, Bool.true_and, Bool.and_self, Bool.not_true, Bool.not_false, Nat.zero_lt_succ, Nat.lt_irrefl, Nat.le_refl, it_206, it_5, f3, f7, d1, c1', hw, aBin_shr (show (0 : Int) ≤ 1 by decide)]
   have e : entF (IntKind.u32.wrap c) (i + 1) = (entF (IntKind.u32.wrap c) i).fdiv (2 ^ (min (Int.toNat 1) IntKind.u32.bits)) := by rw [entF, entS, if_pos c1]
   exact hid_mk ⟨i + 1, ⟨rfl, by rw [e]; rfl, rfl, hlast⟩, by omega⟩
  ·have c1' : (bAnd .u32 (entF (IntKind.u32.wrap c) i) 1 != 0) = true := by simp [c1]
   simp only [wpA_skip, wpA_region, wpA_seq, wpA_cond, wpA_block, wpA_exit, wpA_goto, wpA_label, wpA_ret, wpA_loop, wpA_scope, wpA_draw, condI_true, condI_false, pt_mk, seqQ_normal, seqQ_exit, seqQ_goto, seqQ_ret, seqQ_panic, blkQ_normal, blkQ_exit, blkQ_goto, blkQ_ret, blkQ_panic, endI_mk, goE, excE_out, excE_ops, andThen_normal, andThen_exit, andThen_goto, andThen_ret, andThen_panic, goI_out, goI_ops, goI_mk, opsA_nil, opsA_cons, opsA_guardS, gvI_same, gvI_tf, gvI_ft, gvI_u, slotAt_zero, slotAt_succ, stepA_move, stepA_assign, stepA_pick, stepA_alloc, stepA_box, stepA_build, stepA_buildSlice, stepA_load, stepA_store, stepA_nilCheck, stepA_binOp, stepA_unOp, stepA_convert, stepA_makeMap, stepA_makeSlice, stepA_slice, stepA_fieldAddr, stepA_field, stepA_indexAddr, stepA_index, stepA_lookup, stepA_mapUpdate, stepA_mapEntry, stepA_entryStore, stepA_insert, stepA_range, stepA_next, stepA_entry, stepA_typeAssert, stepA_extract, stepA_makeInterface, stepA_makeFunc, stepA_panic, stepA_bpanic, stepA_len, stepA_append, stepA_copy, stepA_cap, stepA_delete, stepA_clear, stepA_min, stepA_max, stepA_call, stepA_callv, stepA_inv, callvI_func, panI_iface, ifcV_false, thenV_some, thenC_some, thenC_mark, thenH_some, thenS_some, thenV_none, thenH_none, thenS_none, pickV_true, pickV_false, nilV_ptr, nilV_at, nilV_func, extV_zero, extV_succ, eval_tmp, eval_const, eval_func, put_some, put_none, enterF_zero, enterF_succ, aBin_add, aBin_sub, aBin_mul, aBin_eql, aBin_neq, aBin_lss, aBin_leq, aBin_gtr, aBin_geq, aBin_and, aBin_or, aBin_xor, aBin_andNot, aUn_not, aUn_neg, aBin_bool_eql, aBin_bool_neq, aBin_str_eql, aBin_str_neq, aConv_int, mmV_min, mmV_max, ptr_nil_eql, ptr_nil_neq, at_nil_eql, at_nil_neq, nil_nil_eql, nil_nil_neq, absV_int, absV_bool, absV_str, absV_pnil, absV_snil, absV_mnil, absV_nilFunc, absV_nilIface, absV_agg, absV_tuple, absF_int, absF_bool, absF_str, absF_pnil, absF_snil, absF_mnil, absF_nilFunc, absF_nilIface, cells_int, cells_bool, cells_string, cells_pnil, cells_snil, cells_mnil, cells_z0, cells_nilFunc, cells_nilIface, cells_ptr, cells_sl, cells_imm, cells_atp, cells_map, cells_func, cells_iface, cells_agg, one_int, one_bool, one_string, one_pnil, one_snil, one_mnil, one_z0, one_nilFunc, one_nilIface, one_ptr, one_sl, one_imm, one_at, one_map, one_func, one_iface, all_nil, all_cons, aField_eq, fieldGo_ptr, fieldGo_at, aLoad_eq, loadGo_one, loadGo_row, aPlace_ptr, aPlace_at, dropC_cells, aStore_eq, storeGo_ptr, setC_one, setC_row, setAll_nil, setAll_cons, aAlloc_eq, aBox_eq, aIndexAddr_eq, ixGo_sl, ixGo_imm, ixGo_ptr, ixGo_at, aLen_sl, aLen_imm, aLen_snil, aLen_z0, aLen_mnil, aLen_str, makeMap_nil, aBuild_go, aFill_nil, aFill_cons, fillGo_some, aFieldOf_eq, partGo_row, partGo_one, buildGo_struct, buildGo_array, push_n, set_n, push_glob, set_glob, get_push_new, get_set_same, set_set, set_push, get_push2, get_push2', set_push2, set_push2', get_push3a, get_push3b, get_push3c, get_push4a, get_push4b, get_push4c, get_push4d, set_push3a, set_push3b, set_push3c, set_push4a, set_push4b, set_push4c, set_push4d, List.getElem?_cons_zero, List.getElem?_cons_succ, Int.reduceBEq, Int.reduceBNe, bne_self_eq_false, beq_self_eq_true, Int.reduceLT, Int.reduceLE, Int.reduceNeg, Option.some.injEq, Bool.false_eq_true, decide_true, decide_false, reduceIte, Nat.reduceEqDiff, Nat.reduceAdd, Nat.reduceLT, Nat.reduceLeDiff, Nat.reduceMul, Nat.reduceSub, reduceCtorEq, List.map_cons, List.map_nil, Option.map_some, Option.map_none, Nat.add_zero, Nat.zero_add, Nat.zero_le, List.length_cons, List.length_nil, List.drop_zero, List.drop_succ_cons, List.drop_nil, List.take_succ_cons, List.take_zero, List.take_nil, List.set_cons_zero, List.set_cons_succ, List.nil_append, List.append_nil, List.cons_append, and_true, true_and, and_self, if_true, if_false, Bool.and_true, Bool.true_and, Bool.and_self, Bool.not_true, Bool.not_false, Nat.zero_lt_succ, Nat.lt_irrefl, Nat.le_refl, it_206, it_5, f3, f7, d1, c1', hw, aBin_shr (show (0 : Int) ≤ 1 by decide)]
   have e : entF (IntKind.u32.wrap c) (i + 1) = bXor .u32 ((entF (IntKind.u32.wrap c) i).fdiv (2 ^ (min (Int.toNat 1) IntKind.u32.bits))) 2197175160 := by rw [entF, entS, if_neg c1]
   exact hid_mk ⟨i + 1, ⟨rfl, by rw [e]; rfl, rfl, hlast⟩, by omega⟩
 ·have d1 : decide ((i : Int) < 8) = false := by simp; omega
  have e : i = 8 := by omega
  subst e
  simp only [wpA_skip, wpA_region, wpA_seq, wpA_cond, wpA_block, wpA_exit, wpA_goto, wpA_label, wpA_ret, wpA_loop, wpA_scope, wpA_draw, condI_true, condI_false, pt_mk, seqQ_normal, seqQ_exit, seqQ_goto, seqQ_ret, seqQ_panic, blkQ_normal, blkQ_exit, blkQ_goto, blkQ_ret, blkQ_panic, endI_mk, goE, excE_out, excE_ops, andThen_normal, andThen_exit, andThen_goto, andThen_ret, andThen_panic, goI_out, goI_ops, goI_mk, opsA_nil, opsA_cons, opsA_guardS, gvI_same, gvI_tf, gvI_ft, gvI_u, slotAt_zero, slotAt_succ, stepA_move, stepA_assign, stepA_pick, stepA_alloc, stepA_box, stepA_build, stepA_buildSlice, stepA_load, stepA_store, stepA_nilCheck, stepA_binOp, stepA_unOp, stepA_convert, stepA_makeMap, stepA_makeSlice, stepA_slice, stepA_fieldAddr, stepA_field, stepA_indexAddr, stepA_index, stepA_lookup, stepA_mapUpdate, stepA_mapEntry, stepA_entryStore, stepA_insert, stepA_range, stepA_next, stepA_entry, stepA_typeAssert, stepA_extract, stepA_makeInterface, stepA_makeFunc, stepA_panic, stepA_bpanic, stepA_len, stepA_append, stepA_copy, stepA_cap, stepA_delete, stepA_clear, stepA_min, stepA_max, stepA_call, stepA_callv, stepA_inv, callvI_func, panI_iface, ifcV_false, thenV_some, thenC_some, thenC_mark, thenH_some, thenS_some, thenV_none, thenH_none, thenS_none, pickV_true, pickV_false, nilV_ptr, nilV_at, nilV_func, extV_zero, extV_succ, eval_tmp, eval_const, eval_func, put_some, put_none, enterF_zero, enterF_succ, aBin_add, aBin_sub, aBin_mul, aBin_eql, aBin_neq, aBin_lss, aBin_leq, aBin_gtr, aBin_geq, aBin_and, aBin_or, aBin_xor, aBin_andNot, aUn_not, aUn_neg, aBin_bool_eql, aBin_bool_neq, aBin_str_eql, aBin_str_neq, aConv_int, mmV_min, mmV_max, ptr_nil_eql, ptr_nil_neq, at_nil_eql, at_nil_neq, nil_nil_eql, nil_nil_neq, absV_int, absV_bool, absV_str, absV_pnil, absV_snil, absV_mnil, absV_nilFunc, absV_nilIface, absV_agg, absV_tuple, absF_int, absF_bool, absF_str, absF_pnil, absF_snil, absF_mnil, absF_nilFunc, absF_nilIface, cells_int, cells_bool, cells_string, cells_pnil, cells_snil, cells_mnil, cells_z0, cells_nilFunc, cells_nilIface, cells_ptr, cells_sl, cells_imm, cells_atp, cells_map, cells_func, cells_iface, cells_agg, one_int, one_bool, one_string, one_pnil, one_snil, one_mnil, one_z0, one_nilFunc, one_nilIface, one_ptr, one_sl, one_imm, one_at, one_map, one_func, one_iface, all_nil, all_cons, aField_eq, fieldGo_ptr, fieldGo_at, aLoad_eq, loadGo_one, loadGo_row, aPlace_ptr, aPlace_at, dropC_cells, aStore_eq, storeGo_ptr, setC_one, setC_row, setAll_nil, setAll_cons, aAlloc_eq, aBox_eq, aIndexAddr_eq, ixGo_sl, ixGo_imm, ixGo_ptr, ixGo_at, aLen_sl, aLen_imm, aLen_snil, aLen_z0, aLen_mnil, aLen_str, makeMap_nil, aBuild_go, aFill_nil, aFill_cons, fillGo_some, aFieldOf_eq, partGo_row, partGo_one, buildGo_struct, buildGo_array, push_n, set_n, push_glob, set_glob, get_push_new, get_set_same, set_set, set_push, get_push2, get_push2', set_push2, set_push2', get_push3a, get_push3b, get_push3c, get_push4a, get_push4b, get_push4c, get_push4d, set_push3a, set_push3b, set_push3c, set_push4a, set_push4b, set_push4c, set_push4d, List.getElem?_cons_zero, List.getElem?_cons_succ, Int.reduceBEq, Int.reduceBNe, bne_self_eq_false, beq_self_eq_true, Int.reduceLT, Int.reduceLE, Int.reduceNeg, Option.some.injEq, Bool.false_eq_true, decide_true, decide_false, reduceIte, Nat.reduceEqDiff, Nat.reduceAdd, Nat.reduceLT, Nat.reduceLeDiff, Nat.reduceMul, Nat.reduceSub, reduceCtorEq, List.map_cons, List.map_nil, Option.map_some, Option.map_none, Nat.add_zero, Nat.zero_add, Nat.zero_le, List.length_cons, List.length_nil, List.drop_zero, List.drop_succ_cons, List.drop_nil, List.take_succ_cons, List.take_zero, List.take_nil, List.set_cons_zero, List.set_cons_succ, List.nil_append, List.append_nil, List.cons_append, and_true, true_and, and_self, if_true, if_false, Bool.and_true, Bool.true_and, Bool.and_self, Bool.not_true, Bool.not_false, Nat.zero_lt_succ, Nat.lt_irrefl, Nat.le_refl, it_206, it_5, f3, f7, d1, retA_ret, retA_normal, Tryz.results283, resultsA_1]
  exact hid_mk ⟨rfl, rfl⟩
end Go.Proofs.YtfcjehlhoebmnaaGreatDoor.Pk
namespace Go.Proofs.YtfcjehlhoebmnaaGreatDoor.Pk
open Go Go.Proofs Go.Proofs.YtfcjehlhoebmnaaGreatDoor.Ab
set_option linter.unusedVariables false
set_option linter.unusedSimpArgs false
set_option maxRecDepth 10000 in
theorem pCountR : ∀ (s : Nat) (e : Ex) (h : AHeap), szE e = s → OkE e → Pure Tryz.prog 30 [.agg (encE e)] h (.int .i64 (IntKind.i64.wrap (szE e : Nat))) := by
 intro s
 induction s using Nat.strongRecOn with
 | _ s ih =>
 intro e h hs hok
 obtain ⟨o, n, ks⟩ := e
 refine Pure.val (Clo.int _ _) ?_
 have hlen := hok.len
 simp only [Ex.ks] at hlen
 refine SCalls.enterI (c := _) Tryz.func30 rfl (by kernel_rfl) (by simp) ?_
 have hc : (V.agg (encE (.mk o n ks))).cells = some (encE (.mk o n ks)) := rfl
 have hd2 : dropC (AObj.cells (encE (.mk o n ks)) 88 none) 2 = some [.imm ks.length (ks.flatMap encE)] := by rw [encE_eq]; rfl
 simp only [wpA_region, wpA_seq, wpA_block, wpA_loop, seqQ_normal, goI_out, goI_ops, opsA_nil, opsA_cons, stepA_assign, stepA_box, thenH_some, eval_tmp, eval_const, enterF_zero, absV_int, aBox_eq, Option.map_some, hc]
 refine SWp.loopG (α := Nat) (fun i f h' => f 1 = .ptr h.n 0 ∧ f 4 = .int .i64 (i : Nat) ∧ f 3 = .int .i64 (IntKind.i64.wrap ((szL (ks.take i) + 1 : Nat) : Int)) ∧ i ≤ ks.length ∧ h' = h.push (.cells (encE (.mk o n ks)) 88 none)) (fun i => ks.length - i) 0 ⟨rfl, rfl, rfl, Nat.zero_le _, rfl⟩ ?_
 rintro i f h' ⟨f1, f4, f3, hi, rfl⟩
 refine wpI_sound (by kernel_rfl) ?_
 by_cases hlt : i < ks.length
 rotate_left
 ·have c3 : decide ((i : Int) < ((ks.length : Nat) : Int)) = false := by simp only [decide_eq_false_iff_not]; omega
  rw [List.take_of_length_le (by omega)] at f3
  simp only [wpA_region, wpA_seq, wpA_cond, wpA_exit, wpA_ret, condI_false, seqQ_normal, seqQ_exit, blkQ_exit, endI_mk, goE, andThen_exit, goI_out, goI_ops, opsA_nil, opsA_cons, stepA_move, stepA_assign, stepA_load, stepA_binOp, stepA_fieldAddr, stepA_len, thenV_some, eval_tmp, put_some, aBin_lss, aField_eq, fieldGo_ptr, aLoad_eq, loadGo_one, aPlace_ptr, aLen_imm, get_push_new, Nat.reduceEqDiff, Nat.zero_add, if_true, if_false, ft_88_2, kt_86, lt_86, f1, f4, f3, hd2, c3, retA_ret, Tryz.results30, resultsA_1]
  exact hid_mk ⟨by simp [szE], Keep.push _ _ _⟩
 ·have c3 : decide ((i : Int) < ((ks.length : Nat) : Int)) = true := by simp only [decide_eq_true_eq]; omega
  have x0 := ex_ix (kk := .i64) hlt
  have hsz := szL_drop hlt
  have hkid : ks[i] ∈ (Ex.mk o n ks).ks := List.getElem_mem hlt
  have hlt2 := szE_kid _ hkid
  have hok2 := hok.kid _ hkid
  generalize ks[i] = A at *
  have lr : ∀ (q : List V), loadGo (some (some 3)) (some (encE A ++ q)) = some (.agg (encE A)) := fun q => load_row (encE_len A)
  have w2 : IntKind.i64.wrap (((i : Nat) : Int) + 1) = ((i + 1 : Nat) : Int) := by rw [Go.IntWalk.i64_in _ (by omega)]; omega
  have w3 : IntKind.i64.wrap (IntKind.i64.wrap ((szL (ks.take i) + 1 : Nat) : Int) + IntKind.i64.wrap ((szE A : Nat) : Int)) = IntKind.i64.wrap ((szL (ks.take (i + 1)) + 1 : Nat) : Int) := by rw [wrap_add, hsz]; congr 1; omega
  simp only [wpA_skip, wpA_region, wpA_seq, wpA_cond, wpA_block, condI_true, seqQ_normal, goI_out, goI_ops, opsA_nil, opsA_cons, stepA_move, stepA_load, stepA_binOp, stepA_fieldAddr, stepA_indexAddr, stepA_len, stepA_call, thenV_some, eval_tmp, put_some, aBin_lss, aField_eq, fieldGo_ptr, aLoad_eq, loadGo_one, aPlace_ptr, aPlace_at, aLen_imm, get_push_new, Nat.reduceEqDiff, List.map_cons, List.map_nil, Nat.zero_add, if_true, if_false, ft_88_2, kt_86, lt_86, lt_88, f1, f4, f3, hd2, c3, x0, lr]
  refine callI_pure cal30 (ih (szE A) (by omega) A _ rfl hok2) ?_
  simp only [wpA_region, seqQ_normal, blkQ_normal, endI_mk, andThen_normal, goI_out, goI_ops, opsA_nil, opsA_cons, stepA_move, stepA_assign, stepA_binOp, thenV_some, eval_tmp, eval_const, put_some, aBin_add, absV_int, Nat.reduceEqDiff, if_true, if_false, f4, w2, w3]
  exact hid_mk ⟨i + 1, ⟨f1, rfl, rfl, by omega, rfl⟩, by omega⟩
end Go.Proofs.YtfcjehlhoebmnaaGreatDoor.Pk
namespace Go.Proofs.YtfcjehlhoebmnaaGreatDoor.Pk
open Go Go.Proofs Go.Proofs.YtfcjehlhoebmnaaGreatDoor.Ab
set_option linter.unusedVariables false
set_option linter.unusedSimpArgs false
theorem bytes_nat : ∀ {es : List (List V)}, (∀ x ∈ es, Sh.fitsB (.int .u8) x) → ∃ bs : List Nat, es = (bs.map fun n : Nat => [V.int .u8 (n : Int)]) ∧ ∀ b ∈ bs, b < 256
 | [], _ => ⟨[], rfl, by simp⟩
 | e :: es, h => by
  obtain ⟨l, rfl, hl⟩ := bytes_nat (es := es) fun x hx => h x (by simp [hx])
  obtain ⟨n, rfl, hw⟩ := h e (by simp)
  simp only [Lit.wf, Bool.and_eq_true, decide_eq_true_eq] at hw
  have h1 : IntKind.u8.min = 0 := rfl
  have h2 : IntKind.u8.max = 255 := rfl
  refine ⟨n.toNat :: l, ?_, fun b hb => ?_⟩
  ·rw [List.map_cons, Int.toNat_of_nonneg (by omega)]
  ·rcases List.mem_cons.1 hb with rfl | hb
   ·omega
   ·exact hl b hb
theorem flat_nat (bs : List Nat) : (bs.map fun n : Nat => [V.int .u8 (n : Int)]).flatten = bytesV bs := by
 induction bs with
 | nil => rfl
 | cons n ns ih => simp [ih, bytesV]
end Go.Proofs.YtfcjehlhoebmnaaGreatDoor.Pk
namespace Go.Proofs.YtfcjehlhoebmnaaGreatDoor.Pk
open Go Go.Proofs Go.Proofs.YtfcjehlhoebmnaaGreatDoor.Ab Go.Sort
set_option linter.unusedVariables false
set_option linter.unusedSimpArgs false
set_option maxRecDepth 20000 in
theorem then_eq {K : Kt} {x : Option V} {v : V} {d : Option Tmp} {f : AFrame} {h : AHeap} (e : x = some v) (g : @thenV (some v) d K f h) : @thenV x d K f h := e ▸ g
set_option maxRecDepth 20000 in
theorem len64 (h : AHeap) (n : Int) (hn : n = 0 ∨ n = 1) : Pure Tryz.prog 178 [.int .u64 n] h (.int .i64 n) := by
 refine Pure.val (Clo.int _ _) ?_
 refine SCalls.enterI (c := _) Tryz.func178 rfl (by kernel_rfl) (by simp) ?_
 have w00 : IntKind.u8.wrap 0 = 0 := by decide
 have w01 : IntKind.u8.wrap 1 = 1 := by decide
 have w1 : IntKind.i64.wrap 1 = 1 := by decide
 have w0 : IntKind.i64.wrap 0 = 0 := by decide
 have w2 : IntKind.i64.wrap (0 + 0) = 0 := by decide
 have w3 : IntKind.i64.wrap (0 + 1) = 1 := by decide
 rcases hn with rfl | rfl
 ·simp only [wpA_skip, wpA_region, wpA_seq, wpA_cond, condI_false, seqQ_normal, goI_out, goI_ops, opsA_nil, opsA_cons, stepA_move, stepA_assign, stepA_binOp, stepA_convert, stepA_index, thenV_some, thenC_some, eval_tmp, eval_const, put_some, enterF_zero, enterF_succ, aBin_geq, aConv_int, absV_int, absV_str, Int.reduceLE, Option.some.injEq, decide_false, Nat.reduceEqDiff, reduceCtorEq, if_true, if_false, it_108, it_5, w00]
  refine then_eq (v := .int .u8 0) (by kernel_rfl) ?_
  simp only [wpA_ret, seqQ_normal, endI_mk, goI_out, goI_ops, opsA_nil, opsA_cons, stepA_assign, stepA_binOp, stepA_convert, thenV_some, thenC_some, eval_tmp, put_some, enterF_succ, aBin_add, aConv_int, Option.some.injEq, Nat.reduceEqDiff, if_true, if_false, it_3, it_5, w0, w2, retA_ret, Tryz.results178, resultsA_1]
  exact hid_mk ⟨rfl, Keep.refl _ _⟩
 ·simp only [wpA_skip, wpA_region, wpA_seq, wpA_cond, condI_false, seqQ_normal, goI_out, goI_ops, opsA_nil, opsA_cons, stepA_move, stepA_assign, stepA_binOp, stepA_convert, stepA_index, thenV_some, thenC_some, eval_tmp, eval_const, put_some, enterF_zero, enterF_succ, aBin_geq, aConv_int, absV_int, absV_str, Int.reduceLE, Option.some.injEq, decide_false, Nat.reduceEqDiff, reduceCtorEq, if_true, if_false, it_108, it_5, w01]
  refine then_eq (v := .int .u8 1) (by kernel_rfl) ?_
  simp only [wpA_ret, seqQ_normal, endI_mk, goI_out, goI_ops, opsA_nil, opsA_cons, stepA_assign, stepA_binOp, stepA_convert, thenV_some, thenC_some, eval_tmp, put_some, enterF_succ, aBin_add, aConv_int, Option.some.injEq, Nat.reduceEqDiff, if_true, if_false, it_3, it_5, w1, w3, retA_ret, Tryz.results178, resultsA_1]
  exact hid_mk ⟨rfl, Keep.refl _ _⟩
set_option maxRecDepth 20000 in
theorem len1 (h : AHeap) (n : Int) (hn : n = 0 ∨ n = 1) : Pure Tryz.prog 132 [.int .u64 n] h (.int .i64 n) := by
 refine Pure.val (Clo.int _ _) ?_
 refine SCalls.enterI (c := _) Tryz.func132 rfl (by kernel_rfl) (by simp) ?_
 have hw : IntKind.u64.wrap n = n := by rcases hn with rfl | rfl <;> decide
 simp only [wpA_skip, wpA_region, wpA_seq, wpA_cond, condI_false, seqQ_normal, goI_out, goI_ops, opsA_nil, opsA_cons, stepA_move, stepA_assign, stepA_call, eval_tmp, eval_const, put_some, enterF_zero, enterF_succ, absV_int, absV_bool, Nat.reduceEqDiff, reduceCtorEq, List.map_cons, List.map_nil, if_true, if_false]
 refine callI_pure cal178 (len64 h n hn) ?_
 simp only [wpA_ret, seqQ_normal, endI_mk, goI_out, goI_ops, opsA_nil, opsA_cons, stepA_assign, eval_tmp, put_some, enterF_succ, Nat.reduceEqDiff, if_true, if_false, retA_ret, Tryz.results132, resultsA_1]
 exact hid_mk ⟨rfl, Keep.refl _ _⟩
end Go.Proofs.YtfcjehlhoebmnaaGreatDoor.Pk
namespace Go.Proofs.YtfcjehlhoebmnaaGreatDoor.Pk
open Go Go.Proofs Go.Proofs.YtfcjehlhoebmnaaGreatDoor.Ab
set_option linter.unusedVariables false
set_option linter.unusedSimpArgs false
structure Rcd where
 k : Int
 v : Int
 t : Int
 deriving DecidableEq
structure EntV where
 kind : Int
 task : Int
 epoch : Int
 txn : Int
 log : Int
 r : Rcd
 del : Bool
 offs : List Int
 order : List Int
 deriving DecidableEq
def rcdE (r : Rcd) : List V := [.int .i64 r.k, .int .i64 r.v, .int .i64 r.t]
def entE (x : EntV) : List V := [.int .i64 x.kind, .int .i64 x.task, .int .i64 x.epoch, .int .i64 x.txn, .int .i64 x.log, .int .i64 x.r.k, .int .i64 x.r.v, .int .i64 x.r.t, .bool x.del, .imm x.offs.length (i64V x.offs), .imm x.order.length (i64V x.order)]
theorem rcdE_len (r : Rcd) : (rcdE r).length = 3 := rfl
theorem entE_len (r : EntV) : (entE r).length = 11 := rfl
theorem rcdE_clo (r : Rcd) : CloL (rcdE r) := CloL.cons (Clo.int _ _) (CloL.cons (Clo.int _ _) (CloL.cons (Clo.int _ _) CloL.nil))
def zR : Rcd := ⟨0, 0, 0⟩
def fit (n : Int) : Bool := decide (0 ≤ n) && decide (n ≤ 1048576)
def timeOk (t : Int) : Bool := decide (0 ≤ t) && decide (t ≤ 1099511627776)
def useB (x : EntV) : Bool :=
 (decide (2 ≤ x.kind ∧ x.kind ≤ 5) || (x.task == 0 && x.epoch == 0)) && (decide (2 ≤ x.kind ∧ x.kind ≤ 4) || x.txn == 0) && (decide (x.kind ≤ 2) || (x.log == 0 && decide (x.r = zR))) &&
  (decide (x.kind = 2) || !x.del) && (decide (x.kind = 3) || (x.offs.length == 0 && x.order.length == 0))
def mayB (x : EntV) : Bool :=
 decide (1 ≤ x.kind) && decide (x.kind ≤ 6) && fit x.task && fit x.epoch && fit x.txn && fit x.log && timeOk x.r.t && decide (x.offs.length ≤ 8) && x.offs.all fit && decide (x.order.length ≤ 256) && x.order.all fit && useB x
theorem may_iff (x : EntV) : mayB x = true ↔ (1 ≤ x.kind ∧ x.kind ≤ 6) ∧ fit x.task = true ∧ fit x.epoch = true ∧ fit x.txn = true ∧ fit x.log = true ∧ timeOk x.r.t = true ∧ x.offs.length ≤ 8 ∧ (∀ n ∈ x.offs, fit n = true) ∧ x.order.length ≤ 256 ∧ (∀ n ∈ x.order, fit n = true) ∧ useB x = true := by
 simp only [mayB, Bool.and_eq_true, decide_eq_true_eq, List.all_eq_true, and_assoc]
theorem fit_iff (n : Int) : fit n = true ↔ 0 ≤ n ∧ n ≤ 1048576 := by simp [fit]
theorem time_iff (n : Int) : timeOk n = true ↔ 0 ≤ n ∧ n ≤ 1099511627776 := by simp [timeOk]
end Go.Proofs.YtfcjehlhoebmnaaGreatDoor.Pk
namespace Go.Proofs.YtfcjehlhoebmnaaGreatDoor.Pk
open Go Go.Proofs Go.Proofs.YtfcjehlhoebmnaaGreatDoor.Ab
set_option linter.unusedVariables false
set_option linter.unusedSimpArgs false
abbrev LR := Rcd × Bool
abbrev PM := List (Nat × Int × Nat)
def pmE (m : PM) : List (Nat × V × V) := mapK (V.int .i64) (fun b : Nat => V.ptr b 0) m
set_option maxRecDepth 10000 in
theorem mp_log : ∃ et, mapT Tryz.prog 112 = some (3, et, .int .i64) ∧ zeroT Tryz.prog et = some (.pointer none) := by
 have h : (mapT Tryz.prog 112).map (fun q => (q.1, q.2.1)) = some (3, 173) := by kernel_rfl
 have hu : Tryz.prog.underlying 3 = some (.int .i64) := Tryz.underlying3
 cases hm : mapT Tryz.prog 112 with
 | none => rw [hm] at h; cases h
 | some q =>
  rw [hm] at h
  obtain ⟨a, b, d⟩ := q
  simp only [Option.map_some, Option.some.injEq, Prod.mk.injEq] at h
  obtain ⟨rfl, rfl⟩ := h
  have := (mapT_eq hm).2
  rw [hu] at this
  cases this
  exact ⟨_, rfl, by kernel_rfl⟩
end Go.Proofs.YtfcjehlhoebmnaaGreatDoor.Pk
namespace Go.Proofs.YtfcjehlhoebmnaaGreatDoor.Pk
open Go Go.Proofs Go.Proofs.YtfcjehlhoebmnaaGreatDoor.Ab
set_option linter.unusedVariables false
set_option linter.unusedSimpArgs false
theorem rcdE_one (r : Rcd) : (rcdE r).all (·.one) = true := rfl
def recL (rs : List LR) : List V := rs.flatMap fun p => rcdE p.1
theorem recL_len (rs : List LR) : (recL rs).length = rs.length * 3 := rows_len (enc := fun p : LR => rcdE p.1) (sz := 3) (fun _ => rfl) rs
def delL (rs : List LR) : List V := rs.map fun p => V.bool p.2
end Go.Proofs.YtfcjehlhoebmnaaGreatDoor.Pk
namespace Go.Proofs.YtfcjehlhoebmnaaGreatDoor.Pk
open Go Go.Proofs Go.Proofs.YtfcjehlhoebmnaaGreatDoor.Ab
set_option linter.unusedVariables false
set_option linter.unusedSimpArgs false
def logC (p : Int × List LR) : List V := [.int .i64 p.1, .imm p.2.length (recL p.2), .imm p.2.length (delL p.2)]
theorem logC_len (p : Int × List LR) : (logC p).length = 3 := rfl
theorem delL_len (rs : List LR) : (delL rs).length = rs.length * 1 := by simp [delL]
theorem CL1 {v v2 : V} {h h2 : AHeap} (a : Cast v h v2 h2) : CastL [v] h [v2] h2 := CastL.cons a (CastL.refl [] h2)
end Go.Proofs.YtfcjehlhoebmnaaGreatDoor.Pk
namespace Go.Proofs.YtfcjehlhoebmnaaGreatDoor.Pk
open Go Go.Proofs Go.Proofs.YtfcjehlhoebmnaaGreatDoor.Ab
set_option linter.unusedVariables false
set_option linter.unusedSimpArgs false
theorem recL_clo (rs : List LR) : CloL (recL rs) := rows_clo (enc := fun p : LR => rcdE p.1) (fun p => rcdE_clo p.1) rs
theorem delL_clo : ∀ rs : List LR, CloL (delL rs)
 | [] => CloL.nil
 | p :: rs => CloL.cons (Clo.bool _) (delL_clo rs)
theorem logC_clo (p : Int × List LR) : CloL (logC p) := CloL.cons (Clo.int _ _) (CloL.cons (Clo.imm (recL_clo _)) (CloL.cons (Clo.imm (delL_clo _)) CloL.nil))
end Go.Proofs.YtfcjehlhoebmnaaGreatDoor.Pk
namespace Go.Proofs.YtfcjehlhoebmnaaGreatDoor.Pk
open Go.Shelf
def sfL_ren : Go.Shelf.Ren := ⟨fun | 6 => 90 | 15 => 132 | 14 => 131 | 28 => 177 | 29 => 178 | 20 => 169 | 21 => 170 | 22 => 171 | 23 => 172 | 24 => 173 | 25 => 174 | 26 => 175 | 27 => 176 | 46 => 215 | 47 => 216 | 48 => 217 | 49 => 218 | 50 => 219 | 57 => 250 | n => n, fun | 22 => 36 | 24 => 57 | 25 => 176 | 3 => 3 | 39 => 143 | 0 => 0 | 53 => 206 | 55 => 108 | 4 => 4 | 46 => 299 | 45 => 298 | 50 => 132 | 5 => 5 | 9 => 9 | 66 => 358 | 70 => 362 | 76 => 399 | 77 => 277 | n => n, fun | n => n⟩
theorem sfL : Go.Proofs.SlLaysF0.n6 Tryz.prog sfL_ren := {
 mixed := by kernel_rfl
 f6 := ⟨Tryz.f90.name, by decide, Tryz.func90.trans (congrArg some (by kernel_rfl))⟩
 f14 := ⟨Tryz.f131.name, by decide, Tryz.func131.trans (congrArg some (by kernel_rfl))⟩
 f15 := Tryz.func132.trans (congrArg some (by kernel_rfl))
 f20 := ⟨Tryz.f169.name, by decide, Tryz.func169.trans (congrArg some (by kernel_rfl))⟩
 f21 := ⟨Tryz.f170.name, by decide, Tryz.func170.trans (congrArg some (by kernel_rfl))⟩
 f22 := ⟨Tryz.f171.name, by decide, Tryz.func171.trans (congrArg some (by kernel_rfl))⟩
 f23 := ⟨Tryz.f172.name, by decide, Tryz.func172.trans (congrArg some (by kernel_rfl))⟩
 f24 := ⟨Tryz.f173.name, by decide, Tryz.func173.trans (congrArg some (by kernel_rfl))⟩
 f25 := ⟨Tryz.f174.name, by decide, Tryz.func174.trans (congrArg some (by kernel_rfl))⟩
 f26 := ⟨Tryz.f175.name, by decide, Tryz.func175.trans (congrArg some (by kernel_rfl))⟩
 f27 := ⟨Tryz.f176.name, by decide, Tryz.func176.trans (congrArg some (by kernel_rfl))⟩
 f28 := Tryz.func177.trans (congrArg some (by kernel_rfl))
 f29 := Tryz.func178.trans (congrArg some (by kernel_rfl))
 f46 := ⟨Tryz.f215.name, by decide, Tryz.func215.trans (congrArg some (by kernel_rfl))⟩
 f47 := Tryz.func216.trans (congrArg some (by kernel_rfl))
 f48 := Tryz.func217.trans (congrArg some (by kernel_rfl))
 f49 := ⟨Tryz.f218.name, by decide, Tryz.func218.trans (congrArg some (by kernel_rfl))⟩
 f50 := ⟨Tryz.f219.name, by decide, Tryz.func219.trans (congrArg some (by kernel_rfl))⟩
 f57 := ⟨Tryz.f250.name, by decide, Tryz.func250.trans (congrArg some (by kernel_rfl))⟩
 t0 := Tryz.underlying0
 a0 := Tryz.isAgg0
 z0 := Tryz.sizeOf0
 v0 := Tryz.zeroValue0
 t3 := Tryz.underlying3
 a3 := Tryz.isAgg3
 z3 := Tryz.sizeOf3
 v3 := Tryz.zeroValue3
 t4 := Tryz.underlying4
 a4 := Tryz.isAgg4
 z4 := Tryz.sizeOf4
 v4 := Tryz.zeroValue4
 t5 := Tryz.underlying5
 a5 := Tryz.isAgg5
 z5 := Tryz.sizeOf5
 v5 := Tryz.zeroValue5
 t9 := Tryz.underlying9
 a9 := Tryz.isAgg9
 z9 := Tryz.sizeOf9
 v9 := Tryz.zeroValue9
 t22 := Tryz.underlying36
 a22 := Tryz.isAgg36
 z22 := Tryz.sizeOf36
 v22 := Tryz.zeroValue36
 t25 := Tryz.underlying176
 a25 := Tryz.isAgg176
 z25 := Tryz.sizeOf176
 v25 := Tryz.zeroValue176
 t39 := Tryz.underlying143
 a39 := Tryz.isAgg143
 z39 := Tryz.sizeOf143
 v39 := Tryz.zeroValue143
 t45 := Tryz.underlying298
 a45 := Tryz.isAgg298
 z45 := Tryz.sizeOf298
 v45 := Tryz.zeroValue298
 t46 := Tryz.underlying299
 a46 := Tryz.isAgg299
 z46 := Tryz.sizeOf299
 v46 := Tryz.zeroValue299
 t50 := Tryz.underlying132
 a50 := Tryz.isAgg132
 z50 := Tryz.sizeOf132
 v50 := Tryz.zeroValue132
 t53 := Tryz.underlying206
 a53 := Tryz.isAgg206
 z53 := Tryz.sizeOf206
 v53 := Tryz.zeroValue206
 t55 := Tryz.underlying108
 a55 := Tryz.isAgg108
 z55 := Tryz.sizeOf108
 v55 := Tryz.zeroValue108
 t66 := Tryz.underlying358
 a66 := Tryz.isAgg358
 z66 := Tryz.sizeOf358
 v66 := Tryz.zeroValue358
 t70 := Tryz.underlying362
 a70 := Tryz.isAgg362
 z70 := Tryz.sizeOf362
 v70 := Tryz.zeroValue362
 t76 := Tryz.underlying399
 a76 := Tryz.isAgg399
 z76 := Tryz.sizeOf399
 v76 := Tryz.zeroValue399
 t77 := Tryz.underlying277
 a77 := Tryz.isAgg277
 z77 := Tryz.sizeOf277
 v77 := Tryz.zeroValue277 }
end Go.Proofs.YtfcjehlhoebmnaaGreatDoor.Pk
namespace Go.Proofs.YtfcjehlhoebmnaaGreatDoor.Pk
open Go Go.Proofs Go.Proofs.YtfcjehlhoebmnaaGreatDoor.Ab Go.Sort
set_option linter.unusedVariables false
set_option linter.unusedSimpArgs false
set_option maxRecDepth 20000 in
theorem ins1L (h : AHeap) (x c : V) (n lim : Int) (hn : n ≤ 1) (h0 : 0 ≤ n) : Pure Tryz.prog 169 [x, .int .i64 0, .int .i64 n, c] h (.tuple []) := by
 refine Pure.val (Clo.tuple CloL.nil) ?_
 refine SCalls.enterI (c := _) Tryz.func169 rfl (by kernel_rfl) (by simp) ?_
 have hz : IntKind.i64.wrap (0 + 1) = 1 := by decide
 simp only [wpA_region, wpA_seq, wpA_block, wpA_loop, seqQ_normal, goI_out, goI_ops, opsA_nil, opsA_cons, stepA_move, stepA_assign, stepA_binOp, thenV_some, eval_tmp, eval_const, put_some, enterF_zero, enterF_succ, aBin_add, absV_int, Nat.reduceEqDiff, if_true, if_false, hz]
 refine SWp.loopG (α := Unit) (fun _ f h' => f 8 = .int .i64 1 ∧ f 2 = .int .i64 n ∧ h' = h) (fun _ => 0) () ⟨rfl, rfl, rfl⟩ ?_
 rintro _ f h' ⟨f8, f2, rfl⟩
 refine wpI_sound (by kernel_rfl) ?_
 have d1 : decide (1 < n) = false := decide_eq_false (by omega)
 simp only [wpA_region, wpA_seq, wpA_cond, wpA_exit, condI_false, seqQ_normal, seqQ_exit, blkQ_exit, endI_mk, goE, andThen_exit, goI_out, goI_ops, opsA_nil, opsA_cons, stepA_move, stepA_binOp, thenV_some, eval_tmp, put_some, aBin_lss, Nat.reduceEqDiff, if_true, if_false, f8, f2, d1, retA_normal, Tryz.results169, resultsA_0]
 exact hid_mk ⟨rfl, Keep.refl _ _⟩
set_option maxRecDepth 20000 in
theorem pdq1L (h : AHeap) (x c : V) (n l : Int) (hn : n ≤ 1) (h0 : 0 ≤ n) : Pure Tryz.prog 131 [x, .int .i64 0, .int .i64 n, .int .i64 l, c] h (.tuple []) := by
 refine Pure.val (Clo.tuple CloL.nil) ?_
 refine SCalls.enterI (c := _) Tryz.func131 rfl (by kernel_rfl) (by simp) ?_
 simp only [wpA_region, wpA_seq, wpA_block, wpA_loop, seqQ_normal, goI_out, goI_ops, opsA_nil, opsA_cons, stepA_assign, eval_const, absV_bool]
 refine SWp.loopG (α := Unit) (fun _ f h' => f 0 = x ∧ f 1 = .int .i64 0 ∧ f 2 = .int .i64 n ∧ f 4 = c ∧ h' = h) (fun _ => 0) () ⟨rfl, rfl, rfl, rfl, rfl⟩ ?_
 rintro _ f h' ⟨f0, f1, f2, f4, rfl⟩
 refine wpI_sound (by kernel_rfl) ?_
 have hw : IntKind.i64.wrap (n - 0) = n := by rw [Go.IntWalk.i64_in _ (by omega)]; omega
 have d1 : decide (n ≤ 12) = true := decide_eq_true (by omega)
 simp only [wpA_region, wpA_seq, wpA_cond, wpA_block, condI_true, seqQ_normal, goI_out, goI_ops, opsA_nil, opsA_cons, stepA_move, stepA_assign, stepA_binOp, stepA_call, thenV_some, eval_tmp, eval_const, put_some, aBin_sub, aBin_leq, absV_int, Nat.reduceEqDiff, reduceCtorEq, List.map_cons, List.map_nil, if_true, if_false, f0, f1, f2, f4, hw, d1]
 refine callI_pure cal169 (ins1L _ x c n 0 hn h0) ?_
 simp only [wpA_ret, seqQ_normal, seqQ_ret, blkQ_ret, endI_mk, goE, andThen_ret, goI_out, goI_ops, opsA_nil, retA_ret, Tryz.results131, resultsA_0]
 exact hid_mk ⟨rfl, Keep.refl _ _⟩
set_option maxRecDepth 20000 in
theorem sort1L (h : AHeap) (x c : V) (n : Int) (hn : n = 0 ∨ n = 1) (hl : aLen Tryz.prog 36 x h = some (.int .i64 n)) : Pure Tryz.prog 90 [x, c] h (.tuple []) := by
 refine Pure.val (Clo.tuple CloL.nil) ?_
 refine SCalls.enterI (c := _) Tryz.func90 rfl (by kernel_rfl) (by simp) ?_
 have hw : IntKind.u64.wrap n = n := by rcases hn with rfl | rfl <;> decide
 simp only [wpA_region, wpA_seq, seqQ_normal, goI_out, goI_ops, opsA_nil, opsA_cons, stepA_move, stepA_assign, stepA_convert, stepA_len, stepA_call, thenV_some, thenC_some, eval_tmp, put_some, enterF_zero, enterF_succ, aConv_int, Option.some.injEq, Nat.reduceEqDiff, reduceCtorEq, List.map_cons, List.map_nil, if_true, if_false, it_143, it_3, hl, hw]
 refine callI_pure cal132 (len1 h n hn) ?_
 simp only [goI_ops, opsA_cons, stepA_move, stepA_call, eval_tmp, eval_const, put_some, enterF_zero, enterF_succ, absV_int, Nat.reduceEqDiff, List.map_cons, List.map_nil, if_true, if_false]
 refine callI_pure cal131 (pdq1L h x c n n (by omega) (by omega)) ?_
 simp only [endI_mk, goI_out, goI_ops, opsA_nil, retA_normal, Tryz.results90, resultsA_0]
 exact hid_mk ⟨rfl, Keep.refl _ _⟩
theorem sortOfL {g : FuncId} {cf : (Int × List LR) → (Int × List LR) → Int} (hO : SWO (ltOf cf)) (hcmp : ∀ a b, SCalls Tryz.prog g [.agg (logC a), .agg (logC b)] noHeap fun r _ => r = .int .i64 (cf a b))
  (eg : ∀ args w, (callFunc g args).run Tryz.prog w = .ok (.enter g args) w) (h : AHeap) (x : V) (l : List (Int × List LR)) (ho : Own h 57 3 x (l.flatMap logC)) (hl : l.length ≤ 2 ^ 40) :
  SCalls Tryz.prog 90 [x, .func (.func g) [] []] h fun r h' => r = .tuple [] ∧ Keep h h' (isId x) ∧ ∃ l' : List (Int × List LR), l'.Perm l ∧ (l'.Pairwise fun a b => ltOf cf b a = false) ∧ Own h' 57 3 x (l'.flatMap logC) := by
 refine sortF_own (by decide) logC_len (fun x => rfl) logC_clo hO hcmp
  (fun n enc hk h1 cf hO blk cap d w hc hH hb hs => AnyQ.slices_SortFunc sfL 3 Tryz.isAgg57 Tryz.sizeOf57 enc hk h1 cf hO g #[] blk 0 cap d w eg hc hH hb hs) (fun hn => ?_) ho (by omega)
 subst hn
 have hlen : aLen Tryz.prog 36 x h = some (.int .i64 0) := by
  rcases ho with ⟨rfl | rfl, _⟩ | ⟨i, len, cap, c, ex, rfl, _, _, hl, _⟩
  ·exact aLen_snil kt_36
  ·exact aLen_z0 kt_36
  ·have : len = 0 := by simp at hl; omega
   subst this
   exact aLen_sl kt_36
 exact sort1L h x _ 0 (.inl rfl) hlen
end Go.Proofs.YtfcjehlhoebmnaaGreatDoor.Pk
namespace Go.Proofs.YtfcjehlhoebmnaaGreatDoor.Pk
open Go Go.Proofs Go.Proofs.YtfcjehlhoebmnaaGreatDoor.Ab Go.Sort
set_option linter.unusedVariables false
set_option linter.unusedSimpArgs false
def cmpIV (x y : Int) : Int := if x < y then -1 else if y < x then 1 else 0
set_option maxRecDepth 10000 in
theorem nan64V (h : AHeap) (x : Int) : Pure Tryz.prog 133 [.int .i64 x] h (.bool false) := by
 refine Pure.val (Clo.bool _) ?_
 refine SCalls.enterI (c := _) Tryz.func133 rfl (by kernel_rfl) (by simp) ?_
 have e : (x != x) = false := by simp
 simp only [wpA_region, wpA_seq, wpA_ret, seqQ_normal, endI_mk, goI_out, goI_ops, opsA_nil, opsA_cons, stepA_move, stepA_assign, stepA_binOp, thenV_some, eval_tmp, eval_const, put_some, enterF_zero, enterF_succ, aBin_neq, absV_bool, bne_self_eq_false, Nat.reduceEqDiff, reduceCtorEq, if_true, if_false, retA_ret, Tryz.results133, resultsA_1]
 exact hid_mk ⟨rfl, Keep.refl _ _⟩
set_option maxRecDepth 10000 in
theorem cmp64V (h : AHeap) (x y : Int) : Pure Tryz.prog 92 [.int .i64 x, .int .i64 y] h (.int .i64 (cmpIV x y)) := by
 refine Pure.val (Clo.int _ _) ?_
 refine SCalls.enterI (c := _) Tryz.func92 rfl (by kernel_rfl) (by simp) ?_
 simp only [wpA_region, wpA_seq, seqQ_normal, goI_out, goI_ops, opsA_nil, opsA_cons, stepA_move, stepA_assign, stepA_call, eval_tmp, eval_const, put_some, enterF_zero, enterF_succ, absV_int, Int.reduceNeg, Nat.reduceEqDiff, reduceCtorEq, List.map_cons, List.map_nil, if_true, if_false]
 refine callI_pure cal133 (nan64V h x) ?_
 simp only [wpA_region, wpA_seq, seqQ_normal, goI_out, goI_ops, opsA_nil, opsA_cons, stepA_move, stepA_assign, stepA_call, eval_tmp, put_some, enterF_zero, enterF_succ, Int.reduceNeg, Nat.reduceEqDiff, List.map_cons, List.map_nil, if_true, if_false]
 refine callI_pure cal133 (nan64V h y) ?_
 by_cases h1 : x < y
 ·have d1 : decide (x < y) = true := decide_eq_true h1
  simp only [wpA_skip, wpA_region, wpA_seq, wpA_cond, wpA_ret, condI_true, condI_false, seqQ_normal, seqQ_ret, endI_mk, goI_out, goI_ops, opsA_nil, opsA_cons, stepA_move, stepA_assign, stepA_binOp, thenV_some, eval_tmp, eval_const, put_some, enterF_zero, enterF_succ, aBin_lss, absV_int, Int.reduceNeg, Nat.reduceEqDiff, reduceCtorEq, if_true, if_false, d1, retA_ret, Tryz.results92, resultsA_1]
  exact hid_mk ⟨by rw [cmpIV, if_pos h1], Keep.refl _ _⟩
 ·have d1 : decide (x < y) = false := decide_eq_false h1
  by_cases h2 : y < x
  ·have d2 : decide (y < x) = true := decide_eq_true h2
   simp only [wpA_skip, wpA_region, wpA_seq, wpA_cond, wpA_ret, condI_true, condI_false, seqQ_normal, seqQ_ret, endI_mk, goI_out, goI_ops, opsA_nil, opsA_cons, stepA_move, stepA_assign, stepA_binOp, thenV_some, eval_tmp, eval_const, put_some, enterF_zero, enterF_succ, aBin_lss, aBin_gtr, absV_int, Int.reduceNeg, Nat.reduceEqDiff, reduceCtorEq, if_true, if_false, d1, d2, retA_ret, Tryz.results92, resultsA_1]
   exact hid_mk ⟨by rw [cmpIV, if_neg h1, if_pos h2], Keep.refl _ _⟩
  ·have d2 : decide (y < x) = false := decide_eq_false h2
   simp only [wpA_skip, wpA_region, wpA_seq, wpA_cond, wpA_ret, condI_false, seqQ_normal, endI_mk, goI_out, goI_ops, opsA_nil, opsA_cons, stepA_move, stepA_assign, stepA_binOp, thenV_some, eval_tmp, eval_const, put_some, enterF_zero, enterF_succ, aBin_lss, aBin_gtr, absV_int, Int.reduceNeg, Nat.reduceEqDiff, reduceCtorEq, if_true, if_false, d1, d2, retA_ret, Tryz.results92, resultsA_1]
   exact hid_mk ⟨by rw [cmpIV, if_neg h1, if_neg h2], Keep.refl _ _⟩
set_option maxRecDepth 20000 in
theorem byLog (a b : (Int × List LR)) (h : AHeap) : Pure Tryz.prog 91 [.agg (logC a), .agg (logC b)] h (.int .i64 (cmpIV a.1 b.1)) := by
 refine Pure.val (Clo.int _ _) ?_
 refine SCalls.enterI (c := _) Tryz.func91 rfl (by kernel_rfl) (by simp) ?_
 have ca : (V.agg (logC a)).cells = some (logC a) := rfl
 have cb : (V.agg (logC b)).cells = some (logC b) := rfl
 have da : dropC (AObj.cells (logC a) 57 none) 0 = some (logC a) := rfl
 have db : dropC (AObj.cells (logC b) 57 none) 0 = some (logC b) := rfl
 have la : loadGo (some none) (some (logC a)) = some (.int .i64 a.1) := rfl
 have lb : loadGo (some none) (some (logC b)) = some (.int .i64 b.1) := rfl
 have k2 : Keep h ((h.push (.cells (logC a) 57 none)).push (.cells (logC b) 57 none)) none_ := (Keep.push _ _ _).trans' (Keep.push _ _ _)
 simp only [wpA_region, wpA_seq, seqQ_normal, goI_out, goI_ops, opsA_nil, opsA_cons, stepA_assign, stepA_box, stepA_load, stepA_fieldAddr, stepA_call, thenV_some, thenH_some, eval_tmp, eval_const, put_some, enterF_zero, enterF_succ, absV_int, aField_eq, fieldGo_ptr, aLoad_eq, aPlace_ptr, aBox_eq, push_n, get_push2, get_push2', Nat.reduceEqDiff, List.map_cons, List.map_nil, Option.map_some, Nat.add_zero, if_true, if_false, ft_57_0, lt_3, ca, cb, da, db, la, lb]
 refine callI_pure cal92 (cmp64V _ a.1 b.1) ?_
 simp only [wpA_ret, seqQ_normal, endI_mk, goI_out, goI_ops, opsA_nil, opsA_cons, stepA_assign, eval_tmp, put_some, enterF_succ, Nat.reduceEqDiff, if_true, if_false, retA_ret, Tryz.results91, resultsA_1]
 exact hid_mk ⟨rfl, k2⟩
theorem sortbyLog (h : AHeap) (x : V) (l : List (Int × List LR)) (ho : Own h 57 3 x (l.flatMap logC)) (hl : l.length ≤ 2 ^ 40) :
  SCalls Tryz.prog 90 [x, .func (.func 91) [] []] h fun r h' => r = .tuple [] ∧ Keep h h' (isId x) ∧ ∃ l' : List (Int × List LR), l'.Perm l ∧ (l'.Pairwise fun a b => ¬ b.1 < a.1) ∧ Own h' 57 3 x (l'.flatMap logC) := by
 have e : ∀ a b : (Int × List LR), ltOf (fun a b : (Int × List LR) => cmpIV a.1 b.1) a b = decide (a.1 < b.1) := fun a b => by
  unfold ltOf cmpIV
  rw [Bool.eq_iff_iff]
  simp only [decide_eq_true_eq]
  split <;> (try split) <;> omega
 refine (sortOfL (cf := fun a b => cmpIV a.1 b.1) ⟨fun a => by rw [e]; simp, fun a b c h1 h2 => by rw [e] at *; simp at *; omega, fun a b c h1 h2 => by rw [e] at *; simp at *; omega⟩
  (fun a b => (byLog a b noHeap).mono fun r h' hh => hh.1) (enters_of Tryz.func91 (by kernel_rfl) rfl) h x l ho hl).mono fun r h' ⟨h1, h2, l', hp, hs, ho⟩ => ⟨h1, h2, l', hp, hs.imp fun {a b} hab => by rw [e] at hab; simpa using hab, ho⟩
end Go.Proofs.YtfcjehlhoebmnaaGreatDoor.Pk
