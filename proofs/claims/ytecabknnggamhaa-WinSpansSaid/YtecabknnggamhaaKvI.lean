/-
  What functions of the program do, told of abstract states. Conditions: as each theorem says.
-/
import Derived.Test.YtecabknnggamhaaKvH
namespace Go.Proofs.Ytecabknnggamhaa.Pk
open Go Go.Proofs Go.Proofs.Ytecabknnggamhaa.Ab
set_option linter.unusedVariables false
set_option linter.unusedSimpArgs false

structure Deed where
  kind : Int
  key : Int
  val : Int
  c : Chg
def dE (d : Deed) : List V := [.int .i64 d.kind, .int .i64 d.key, .int .i64 d.val, .int .i64 d.c.key, .int .i64 d.c.fr, .int .i64 d.c.to, .int .i64 d.c.val, .bool d.c.del]
theorem dE_len (d : Deed) : (dE d).length = 8 := rfl
theorem ldE0 (d : Deed) (r : List V) : loadGo (some none) (some (dE d ++ r)) = some (.int .i64 d.kind) := rfl
theorem fdE1 (d : Deed) (r : List V) : (if 1 ≤ (dE d ++ r).length then some (V.at (List.drop 1 (dE d ++ r))) else none) = some (.at (.int .i64 d.key :: .int .i64 d.val :: (chgE d.c ++ r))) := by rw [if_pos (by rw [List.length_append, dE_len]; omega)]; rfl
theorem fdE2 (d : Deed) (r : List V) : (if 2 ≤ (dE d ++ r).length then some (V.at (List.drop 2 (dE d ++ r))) else none) = some (.at (.int .i64 d.val :: (chgE d.c ++ r))) := by rw [if_pos (by rw [List.length_append, dE_len]; omega)]; rfl
theorem ldC0 (c : Chg) (r : List V) : loadGo (some none) (some (chgE c ++ r)) = some (.int .i64 c.key) := rfl
theorem ldC (c : Chg) (r : List V) : (if 5 ≤ (chgE c ++ r).length then some (V.agg (List.take 5 (chgE c ++ r))) else none) = some (.agg (chgE c)) := by rw [if_pos (by rw [List.length_append, chgE_len]; omega)]; rfl
theorem deed_ix {l : List Deed} {k : Nat} (hk : k < l.length) : ∃ r, aIndexAddr Try.prog 37 (.imm l.length (l.flatMap dE)) (.int .i64 (k : Int)) = some (.at (dE l[k] ++ r)) := ⟨_, rows_ix dE_len hk ss_37⟩
theorem putL_room {room : Int} {l : List Pr} {k : Int} (h : (l.length : Int) < room) (v : Int) : full room l k = false ∧ putL room l k v = put l k v ∧ putE room l k = 0 ∧ putX room l k v = ⟨k, 0, 0, v, false⟩ := by
  have hf : full room l k = false := by
    unfold full
    rw [decide_eq_false (by omega), Bool.and_false]
  refine ⟨hf, ?_, ?_, ?_⟩ <;> simp [putL, putE, putX, hf]
theorem len_put_le {l : List Pr} (hs : Srt l) (k v : Int) : (put l k v).length ≤ l.length + 1 := by rw [len_put hs]; split <;> omega
set_option maxHeartbeats 4000000 in
set_option maxRecDepth 10000 in
theorem kvLast (ds : List Deed) (key val other : Int) (hd : ds.length < 2 ^ 47) (h : AHeap) : SCalls Try.prog 6 [.imm ds.length (ds.flatMap dE), .int .i64 key, .int .i64 val, .int .i64 other] h (fun r h' => r = .bool true) := by
  refine SCalls.enterI (c := _) Try.func6 rfl (by kernel_rfl) (by simp) ?_
  simp only [wpA_region, wpA_seq, seqQ_normal, goI_out, goI_ops, opsA_nil, opsA_cons, stepA_assign, stepA_call, eval_const, absV_bool, List.map_nil]
  refine callI_pure cal15 (pShown12 h) ?_
  simp only [wpA_region, wpA_seq, seqQ_normal, goI_out, goI_ops, opsA_nil, opsA_cons, stepA_assign, stepA_call, eval_tmp, eval_const, put_some, enterF_succ, absV_int, Nat.reduceEqDiff, List.map_cons, List.map_nil, if_true, if_false]
  refine callI_of cal16 (kvNew h 1024 (by decide) (by decide)) fun r h1 ⟨e1, k1, _⟩ => ?_
  subst e1
  generalize h.n = i at k1
  have cc := chg_cells
  have st := chg_store
  simp only [wpA_skip, wpA_region, wpA_seq, wpA_cond, wpA_block, wpA_loop, condI_false, seqQ_normal, goI_out, goI_ops, opsA_nil, opsA_cons, opsA_guardS, gvI_same, slotAt_zero, slotAt_succ, stepA_move, stepA_assign, stepA_pick, stepA_binOp, stepA_extract, thenV_some, pickV_false, extV_zero, extV_succ, eval_tmp, eval_const, put_some, enterF_succ, aBin_neq, ptr_nil_eql, absV_int, absV_bool, absV_pnil, bne_self_eq_false, Nat.reduceEqDiff, if_true, if_false, kt_24]
  refine SWp.loopG (α := Nat × V × List Pr) (fun x f h' => f 0 = .imm ds.length (ds.flatMap dE) ∧ f 1 = .int .i64 key ∧ f 2 = .int .i64 val ∧ f 3 = .int .i64 other ∧ f 9 = .bool true ∧ f 10 = .ptr i 0 ∧ f 12 = .int .i64 (x.1 : Nat) ∧ x.1 ≤ 300 ∧
      IsKv h' i x.2.1 1024 x.2.2 ∧ x.2.2.length ≤ x.1) (fun x => 300 - x.1) (0, .snil, [])
    ⟨rfl, rfl, rfl, rfl, rfl, rfl, rfl, Nat.zero_le _, k1, Nat.zero_le _⟩ ?_
  rintro ⟨t, v, l⟩ f h' ⟨f0, f1, f2, f3, f9, f10, f12, ht, kk, hl⟩
  simp only at f12 ht kk hl
  refine wpI_sound (by kernel_rfl) ?_
  by_cases hlt : t < ds.length ∧ t < 300
  · have d1 : decide ((t : Int) < ((ds.length : Nat) : Int)) = true := decide_eq_true (by omega)
    have d2 : decide ((t : Int) < 300) = true := decide_eq_true (by omega)
    have hw := inc64 hlt.2 (by omega)
    obtain ⟨rr, x1⟩ := deed_ix hlt.1
    generalize ds[t] = d at x1
    simp only [wpA_skip, wpA_region, wpA_seq, wpA_cond, wpA_block, wpA_draw, condI_true, seqQ_normal, goI_out, goI_ops, opsA_nil, opsA_cons, opsA_guardS, gvI_same, slotAt_zero, slotAt_succ, stepA_move, stepA_pick, stepA_binOp, stepA_len, thenV_some, pickV_true, eval_tmp, eval_const, put_some, aBin_lss, absV_int, absV_bool, aLen_imm, Nat.reduceEqDiff, reduceCtorEq, if_true, if_false, kt_37, f0, f12, d1, d2]
    refine SWp.drawnS none_ [11] (.q 0 (.q 1 (.q 2 (.q 3 (.q 4 (.q 5 (.q 6 (.q 7 (.q 8 (.q 9 (.q 10 (.a 11 .done)))))))))))) (by kernel_rfl) (by kernel_rfl) (by kernel_rfl) ?_
    simp only [siI_q, siI_a, sqI_some, saI_some, mOk_none', implies_true, qI_nil, qI_cons, thenQ_some, q_move, q_load, q_fieldAddr, q_indexAddr, goI_mk, opsA_cons, stepA_call, eval_tmp, put_some, aField_eq, fieldGo_at, aLoad_eq, loadGo_one, aPlace_at, List.getElem?_cons_zero, List.getElem?_cons_succ, Nat.reduceEqDiff, reduceCtorEq, List.map_cons, List.map_nil, true_and, if_true, if_false, ft_39_1, ft_39_2, lt_2, f0, f10, f12, x1, fdE1, fdE2]
    refine callI_of cal17 (kvPut h' i v _ d.key d.val l kk) fun r h2 ⟨v2, e2, k2, _, _⟩ => ?_
    subst e2
    obtain ⟨_, p2, _, _⟩ := putL_room (k := d.key) (show (l.length : Int) < 1024 by omega) d.val
    rw [p2] at k2
    have := len_put_le kk.srt d.key d.val
    simp only [siI_done, wpA_region, seqQ_normal, blkQ_normal, endI_mk, andThen_normal, goI_out, goI_ops, goI_mk, opsA_nil, opsA_cons, stepA_move, stepA_assign, stepA_binOp, thenV_some, eval_tmp, eval_const, put_some, aBin_add, absV_int, Nat.reduceEqDiff, if_true, if_false, f12, hw]
    exact hid_mk ⟨(t + 1, v2, put l d.key d.val), ⟨f0, f1, f2, f3, f9, f10, rfl, by simp only; omega, k2, by simp only; omega⟩, by simp only; omega⟩
  have hend : ∀ b1 b2 : Bool, decide ((t : Int) < ((ds.length : Nat) : Int)) = b1 → decide ((t : Int) < 300) = b2 → (b1 && b2) = false := fun b1 b2 h1 h2 => by
    rw [← h1, ← h2, Bool.and_eq_false_iff]
    simp only [decide_eq_false_iff_not]
    omega
  have hroom : (l.length : Int) < 1024 := by omega
  obtain ⟨_, p2, p3, _⟩ := putL_room (k := key) hroom val
  generalize hb1 : decide ((t : Int) < ((ds.length : Nat) : Int)) = b1 at hend
  generalize hb2 : decide ((t : Int) < 300) = b2 at hend
  have hbb := hend b1 b2 rfl rfl
  have hor : b1 = false ∨ (b1 = true ∧ b2 = false) := by
    cases b1
    · exact .inl rfl
    · exact .inr ⟨rfl, by simpa using hbb⟩
  clear hend hbb
  rcases hor with rfl | ⟨rfl, rfl⟩
  all_goals
    simp only [wpA_region, wpA_seq, wpA_cond, wpA_exit, condI_false, seqQ_normal, seqQ_exit, blkQ_exit, endI_mk, goE, andThen_exit, goI_out, goI_ops, opsA_nil, opsA_cons, opsA_guardS, gvI_same, gvI_ft, slotAt_zero, slotAt_succ, stepA_move, stepA_pick, stepA_binOp, stepA_len, stepA_call, thenV_some, pickV_true, pickV_false, eval_tmp, eval_const, put_some, aBin_lss, absV_int, absV_bool, aLen_imm, Nat.reduceEqDiff, reduceCtorEq, List.map_cons, List.map_nil, if_true, if_false, kt_37, f0, f3, f10, f12, hb1, hb2]
    refine callI_pureG (fun f => f 1 = .int .i64 key ∧ f 2 = .int .i64 val ∧ f 3 = .int .i64 other ∧ f 9 = .bool true ∧ f 10 = .ptr i 0 ∧ f 65 = .tuple [.int .i64 ((look l other).getD 0), .bool (has l other)]) cal23 (kvGet h' i v _ other l kk) ⟨f1, f2, f3, f9, f10, rfl⟩ ?_
    clear f0 f1 f2 f3 f9 f10 f12
    rintro f ⟨f1, f2, f3, f9, f10, f65⟩
    simp only [wpA_region, wpA_seq, seqQ_normal, goI_out, goI_ops, opsA_nil, opsA_cons, stepA_move, stepA_assign, stepA_extract, stepA_call, thenV_some, extV_zero, extV_succ, eval_tmp, put_some, Nat.reduceEqDiff, List.map_cons, List.map_nil, if_true, if_false, f1, f2, f10, f65]
    refine callI_of cal17 (kvPut h' i v _ key val l kk) fun r h2 ⟨v2, e2, k2, _, _⟩ => ?_
    subst e2
    rw [p2] at k2
    rw [p3]
    simp only [wpA_region, wpA_seq, seqQ_normal, goI_out, goI_ops, opsA_nil, opsA_cons, stepA_move, stepA_assign, stepA_alloc, stepA_store, stepA_extract, stepA_call, thenV_some, thenH_some, thenS_some, extV_zero, extV_succ, eval_tmp, put_some, put_none, aStore_eq, storeGo_ptr, aAlloc_eq, get_push_new, set_push, Nat.reduceEqDiff, List.map_cons, List.map_nil, Option.map_some, if_true, if_false, zc_30, zt_30, f1, f10, cc, st]
    have k2' := k2.keepN (Keep.push h2 (.cells (chgE (putX 1024 l key val)) 30 none) none_)
    have lk : look (put l key val) key = some val := by rw [look_put l key val key kk.srt, if_pos rfl]
    have hk : has (put l key val) key = true := by rw [has, lk]; rfl
    have len2 := len_put_le kk.srt key val
    refine callI_pure cal23 (kvGet _ i v2 _ key _ k2') ?_
    rw [lk, hk]
    simp only [wpA_region, wpA_seq, seqQ_normal, goI_out, goI_ops, opsA_nil, opsA_cons, stepA_move, stepA_assign, stepA_extract, stepA_call, thenV_some, extV_zero, extV_succ, eval_tmp, put_some, put_none, Nat.reduceEqDiff, List.map_cons, List.map_nil, if_true, if_false, f3, f10, Option.getD_some]
    refine callI_pureG (fun f => f 1 = .int .i64 key ∧ f 2 = .int .i64 val ∧ f 3 = .int .i64 other ∧ f 9 = .bool true ∧ f 10 = .ptr i 0 ∧ f 13 = .int .i64 ((look l other).getD 0) ∧ f 14 = .bool (has l other) ∧ f 16 = .int .i64 0 ∧ f 17 = .int .i64 val ∧ f 18 = .bool true ∧
      f 84 = .tuple [.int .i64 ((look (put l key val) other).getD 0), .bool (has (put l key val) other)]) cal23 (kvGet _ i v2 _ other _ k2') ⟨f1, f2, f3, f9, f10, rfl, rfl, rfl, rfl, rfl, rfl⟩ ?_
    clear f1 f2 f3 f9 f10 f65
    rintro f ⟨f1, f2, f3, f9, f10, f13, f14, f16, f17, f18, f84⟩
    have dv : (val != val) = false := by simp
    have hcond : ∀ b : Bool, (key != other) = b → (b = true → ((look l other).getD 0 != (look (put l key val) other).getD 0) = false ∧ aBin Try.prog .neq 4 (.tmp 107) (.tmp 108) (.bool (has l other)) (.bool (has (put l key val) other)) = some (.bool false)) := fun b hb h => by
      subst h
      have hne : other ≠ key := fun hh => by subst hh; simp at hb
      have : look (put l key val) other = look l other := by rw [look_put l key val other kk.srt, if_neg hne]
      rw [has, has, this, aBin_bool_neq (by kernel_rfl)]
      simp
    generalize hkb : (key != other) = kb at hcond
    cases kb
    all_goals
      first
      | (obtain ⟨q1, q2⟩ := hcond true rfl rfl
         simp only [wpA_skip, wpA_region, wpA_seq, wpA_cond, condI_false, seqQ_normal, goI_out, goI_ops, opsA_nil, opsA_cons, opsA_guardS, gvI_same, slotAt_zero, slotAt_succ, stepA_move, stepA_assign, stepA_pick, stepA_binOp, stepA_unOp, stepA_extract, stepA_call, thenV_some, pickV_true, pickV_false, extV_zero, extV_succ, eval_tmp, eval_const, put_some, aBin_neq, aUn_not, absV_int, absV_bool, bne_self_eq_false, Nat.reduceEqDiff, List.map_cons, List.map_nil, if_true, if_false, Bool.not_true, f1, f2, f3, f10, f13, f14, f16, f17, f18, f84, hkb, q1, q2])
      | simp only [wpA_skip, wpA_region, wpA_seq, wpA_cond, condI_false, seqQ_normal, goI_out, goI_ops, opsA_nil, opsA_cons, opsA_guardS, gvI_same, gvI_ft, gvI_u, slotAt_zero, slotAt_succ, stepA_move, stepA_assign, stepA_pick, stepA_binOp, stepA_unOp, stepA_extract, stepA_call, thenV_some, pickV_false, extV_zero, extV_succ, eval_tmp, eval_const, put_some, aBin_neq, aUn_not, absV_int, absV_bool, bne_self_eq_false, Nat.reduceEqDiff, List.map_cons, List.map_nil, if_true, if_false, Bool.not_true, f1, f2, f3, f10, f16, f17, f18, f84, hkb]
      refine callI_pureG (fun f => f 1 = .int .i64 key ∧ f 9 = .bool true ∧ f 10 = .ptr i 0 ∧ f 114 = .imm (listC (put l key val)).length ((listC (put l key val)).flatMap chgE)) cal19 (kvList _ i v2 _ _ k2') ⟨f1, f9, f10, rfl⟩ ?_
      clear f1 f2 f3 f9 f10 f13 f14 f16 f17 f18 f84
      rintro f ⟨f1, f9, f10, f114⟩
      generalize hL : put l key val = L at k2' hk len2 f114
      generalize h2.push (.cells (chgE (putX 1024 l key val)) 30 none) = H at k2'
      have hll : (listC L).length = L.length := by simp [listC]
      simp only [wpA_region, wpA_seq, wpA_block, wpA_loop, seqQ_normal, goI_out, goI_ops, opsA_nil, opsA_cons, stepA_assign, eval_tmp, eval_const, absV_int, f114]
      refine SWp.loopG (α := Nat) (fun x f h' => h' = H ∧ f 1 = .int .i64 key ∧ f 9 = .bool true ∧ f 10 = .ptr i 0 ∧ f 21 = .imm (listC L).length ((listC L).flatMap chgE) ∧ f 22 = .int .i64 (x : Nat) ∧ 1 ≤ x) (fun x => 1024 - x) 1
        ⟨rfl, f1, f9, f10, rfl, rfl, Nat.le_refl _⟩ ?_
      clear f1 f9 f10 f114
      rintro t2 f h5 ⟨rfl, f1, f9, f10, f21, f22, ht1⟩
      refine wpI_sound (by kernel_rfl) ?_
      by_cases hlt2 : t2 < (listC L).length
      · have d3 : decide ((t2 : Int) < (((listC L).length : Nat) : Int)) = true := decide_eq_true (by omega)
        have hw := inc64 hlt2 (by omega)
        have wm : IntKind.i64.wrap ((t2 : Int) - 1) = ((t2 - 1 : Nat) : Int) := by rw [Go.IntWalk.i64_in _ (by omega)]; omega
        have x1 := chg_ix (kk := .i64) hlt2
        have x2 := chg_ix (kk := .i64) (l := listC L) (k := t2 - 1) (by omega)
        have hlt3 : ((listC L)[t2].key ≤ (listC L)[t2 - 1].key) = False := eq_false (by
          have e1 : (listC L)[t2].key = (L[t2]'(by omega)).1 := by simp [listC, chgOf]
          have e2 : (listC L)[t2 - 1].key = (L[t2 - 1]'(by omega)).1 := by simp [listC, chgOf]
          have := List.pairwise_iff_getElem.1 k2'.srt (t2 - 1) t2 (by omega) (by omega) (by omega)
          omega)
        generalize (listC L)[t2] = A at x1 hlt3
        generalize (listC L)[t2 - 1] = B at x2 hlt3
        simp only [wpA_skip, wpA_region, wpA_seq, wpA_cond, wpA_block, wpA_draw, condI_true, seqQ_normal, goI_out, goI_ops, opsA_nil, opsA_cons, stepA_move, stepA_binOp, stepA_len, thenV_some, eval_tmp, put_some, aBin_lss, aLen_imm, Nat.reduceEqDiff, if_true, if_false, kt_34, f21, f22, d3]
        refine SWp.drawnS none_ [] (.q 0 (.q 1 (.q 2 (.q 3 (.q 4 (.q 5 (.q 6 (.q 7 (.q 8 (.q 9 (.q 10 (.q 11 .done)))))))))))) (by kernel_rfl) (by kernel_rfl) (by kernel_rfl) ?_
        simp only [siI_done, siI_q, sqI_some, mOk_none', implies_true, qI_nil, qI_cons, thenQ_some, q_move, q_load, q_binOp, q_fieldAddr, q_indexAddr, wpA_skip, wpA_region, wpA_cond, condI_false, seqQ_normal, blkQ_normal, endI_mk, andThen_normal, goI_out, goI_ops, goI_mk, opsA_nil, opsA_cons, stepA_move, stepA_assign, stepA_binOp, thenV_some, eval_tmp, eval_const, put_some, aBin_add, aBin_sub, aBin_leq, absV_int, aField_eq, fieldGo_at, aLoad_eq, aPlace_at, List.getElem?_cons_zero, List.getElem?_cons_succ, decide_false, Nat.reduceEqDiff, Nat.zero_le, List.drop_zero, true_and, if_true, if_false, ft_30_0, lt_2, f21, f22, x1, x2, wm, ldC0, hlt3, hw]
        exact hid_mk ⟨t2 + 1, ⟨rfl, f1, f9, f10, f21, rfl, by omega⟩, by omega⟩
      · have d3 : decide ((t2 : Int) < (((listC L).length : Nat) : Int)) = false := decide_eq_false (by omega)
        simp only [wpA_region, wpA_seq, wpA_cond, wpA_exit, condI_false, seqQ_normal, seqQ_exit, blkQ_exit, endI_mk, goE, andThen_exit, goI_out, goI_ops, opsA_nil, opsA_cons, stepA_move, stepA_binOp, stepA_len, stepA_call, thenV_some, eval_tmp, put_some, aBin_lss, aLen_imm, Nat.reduceEqDiff, List.map_cons, List.map_nil, if_true, if_false, kt_34, f1, f10, f21, f22, d3]
        refine callI_of cal20 (kvDel _ i v2 _ key L k2') fun r h6 ⟨v6, e6, k6, _, _⟩ => ?_
        subst e6
        have k6' := k6.keepN (Keep.push h6 (.cells (chgE (delX L key)) 30 none) none_)
        have z1 : delE L key = 0 := by simp [delE, hk]
        have z2 : look (rm L key) key = none := by rw [look_rm L key key k2'.srt, if_pos rfl]
        have z3 : has (rm L key) key = false := by rw [has, z2]; rfl
        have z4 : delE (rm L key) key = 6 := by simp [delE, z3]
        simp only [wpA_region, wpA_seq, seqQ_normal, goI_out, goI_ops, opsA_nil, opsA_cons, stepA_move, stepA_assign, stepA_alloc, stepA_store, stepA_extract, stepA_call, thenV_some, thenH_some, thenS_some, extV_zero, extV_succ, eval_tmp, put_some, put_none, aStore_eq, storeGo_ptr, aAlloc_eq, get_push_new, set_push, Nat.reduceEqDiff, List.map_cons, List.map_nil, Option.map_some, if_true, if_false, zc_30, zt_30, f1, f10, cc, st]
        refine callI_pure cal23 (kvGet _ i v6 _ key _ k6') ?_
        rw [z2, z3, z1]
        simp only [wpA_region, wpA_seq, seqQ_normal, goI_out, goI_ops, opsA_nil, opsA_cons, stepA_move, stepA_assign, stepA_extract, stepA_call, thenV_some, extV_zero, extV_succ, eval_tmp, put_some, put_none, Nat.reduceEqDiff, List.map_cons, List.map_nil, if_true, if_false, f1, f10]
        refine callI_of cal20 (kvDel _ i v6 _ key _ k6') fun r h7 ⟨v7, e7, k7, _, _⟩ => ?_
        subst e7
        rw [rm_no k6'.srt key z3] at k7
        have k7' := k7.keepN (Keep.push h7 (.cells (chgE (delX (rm L key) key)) 30 none) none_)
        simp only [wpA_region, wpA_seq, seqQ_normal, goI_out, goI_ops, opsA_nil, opsA_cons, opsA_guardS, gvI_same, slotAt_zero, slotAt_succ, stepA_move, stepA_assign, stepA_pick, stepA_alloc, stepA_store, stepA_binOp, stepA_unOp, stepA_extract, stepA_call, thenV_some, thenH_some, thenS_some, pickV_true, extV_zero, extV_succ, eval_tmp, eval_const, put_some, put_none, aBin_eql, aUn_not, absV_int, absV_bool, aStore_eq, storeGo_ptr, aAlloc_eq, get_push_new, set_push, beq_self_eq_true, Nat.reduceEqDiff, List.map_cons, List.map_nil, Option.map_some, if_true, if_false, Bool.not_false, zc_30, zt_30, f9, f10, cc, st, z4]
        refine callI_pure cal22 (kvLen _ i v7 _ _ k7') ?_
        have hlen := len_rm k2'.srt key hk
        have hq : (((rm L key).length : Nat) : Int) = (((listC L).length : Nat) : Int) - 1 := by rw [hll]; omega
        have hq2 : IntKind.i64.wrap ((((listC L).length : Nat) : Int) - 1) = (((rm L key).length : Nat) : Int) := by rw [hq, Go.IntWalk.i64_in _ (by omega)]
        have hq3 : ((((rm L key).length : Nat) : Int) == (((rm L key).length : Nat) : Int)) = true := by simp
        simp only [wpA_ret, seqQ_normal, endI_mk, goI_out, goI_ops, opsA_nil, opsA_cons, opsA_guardS, gvI_same, slotAt_zero, slotAt_succ, stepA_move, stepA_assign, stepA_pick, stepA_binOp, stepA_len, thenV_some, pickV_true, eval_tmp, eval_const, put_some, put_none, aBin_sub, aBin_eql, absV_int, absV_bool, aLen_imm, beq_self_eq_true, Nat.reduceEqDiff, if_true, if_false, kt_34, f21, hq2, retA_ret, Try.results6, resultsA_1]
        exact hid_mk rfl
end Go.Proofs.Ytecabknnggamhaa.Pk
