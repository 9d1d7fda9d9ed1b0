/-
  What functions of the program do, told of abstract states. Conditions: as each theorem says.
-/
import Derived.Test.YtlbekgogjlchjaaSlS
namespace Go.Proofs.Ytlbekgogjlchjaa.Pk
open Go Go.Proofs Go.Proofs.Ytlbekgogjlchjaa.Ab
set_option linter.unusedVariables false
set_option linter.unusedSimpArgs false
def u16V (l : List Nat) : List V := l.map fun (n : Nat) => V.int .u16 (n : Int)
theorem u16V_len (l : List Nat) : (u16V l).length = l.length := by simp [u16V]
theorem u16_ix {l : List Nat} {i : Nat} (hi : i < l.length) : aIndexAddr Try.prog 48 (.imm l.length (u16V l)) (.int .i64 (i : Int)) = some (.at (.int .u16 (l[i] : Nat) :: u16V (l.drop (i + 1)))) := by
  have h := index_imm (P := Try.prog) (t := 48) (k := .i64) (i := (i : Int)) (n := l.length) (cs := u16V l) ss_48 (by omega) (by omega) (by rw [u16V_len]; omega)
  rw [h, Int.toNat_natCast, Nat.mul_one]
  unfold u16V
  rw [← List.map_drop, List.drop_eq_getElem_cons hi]
  rfl
/-- What has been written. -/
def keysOf (l : List Nat) : List Int := l.map fun n => ((n % 4096 : Nat) : Int)
/-- A node where the slots in a list were written in epoch 0, each with one byte. -/
structure Tl (s : NSt) (l : List Nat) : Prop where
  ep : s.1 = 0
  has : ∀ n ∈ l, ∃ c, kget s.2.1 ((n % 4096 : Nat) : Int) = some c
  only : ∀ k c, kget s.2.1 k = some c → c.epoch = 0 ∧ c.bytes = [1]
  top : topI (s.2.1.map (·.2.1)) = topI (keysOf l)
theorem topI_le : ∀ (l : List Int) (t : Int), t ≤ l.foldl (fun t k => max t (k + 1)) t
  | [], t => Int.le_refl _
  | k :: l, t => Int.le_trans (by omega) (topI_le l (max t (k + 1)))
theorem topI_mem {l : List Int} {k : Int} (hk : k ∈ l) : k + 1 ≤ topI l := by
  obtain ⟨a, b, rfl⟩ := List.append_of_mem hk
  unfold topI
  rw [List.foldl_append, List.foldl_cons]
  exact Int.le_trans (by omega) (topI_le b _)
theorem keysOf_snoc (l : List Nat) (n : Nat) : keysOf (l ++ [n]) = keysOf l ++ [((n % 4096 : Nat) : Int)] := by simp [keysOf]
theorem Tl.nil : Tl (0, [], 0) [] := ⟨rfl, by simp, fun k c h => (by cases h), rfl⟩
theorem Tl.same {s : NSt} {l : List Nat} (t : Tl s l) {n : Nat} {c : Cel} (hg : kget s.2.1 ((n % 4096 : Nat) : Int) = some c) : Tl s (l ++ [n]) := by
  refine ⟨t.ep, fun x hx => ?_, t.only, ?_⟩
  · rcases List.mem_append.1 hx with hx | hx
    · exact t.has x hx
    · simp at hx; subst hx; exact ⟨c, hg⟩
  · obtain ⟨e, he, h2⟩ := kget_mem hg
    have hm : ((n % 4096 : Nat) : Int) ∈ s.2.1.map (·.2.1) := List.mem_map.2 ⟨e, he, by rw [h2]⟩
    have := topI_mem hm
    rw [keysOf_snoc, topI_snoc, ← t.top]
    omega
theorem Tl.more {s : NSt} {l : List Nat} (t : Tl s l) {n : Nat} (hg : kget s.2.1 ((n % 4096 : Nat) : Int) = none) : Tl (appS s ⟨1, 0, ((n % 4096 : Nat) : Int), [1]⟩) (l ++ [n]) := by
  have hs : (appS s ⟨1, 0, ((n % 4096 : Nat) : Int), [1]⟩).2.1 = kset s.2.2 s.2.1 ((n % 4096 : Nat) : Int) ⟨((n % 4096 : Nat) : Int), 0, [1]⟩ := rfl
  refine ⟨t.ep, fun x hx => ?_, fun k c hk => ?_, ?_⟩
  · rw [hs, kget_kset]
    split
    · exact ⟨_, rfl⟩
    · rename_i hne
      rcases List.mem_append.1 hx with hx | hx
      · exact t.has x hx
      · simp at hx; subst hx; exact absurd rfl hne
  · rw [hs, kget_kset] at hk
    split at hk
    · cases hk; exact ⟨rfl, rfl⟩
    · exact t.only k c hk
  · rw [hs, kset_new hg, List.map_append, List.map_cons, List.map_nil, topI_snoc, t.top, keysOf_snoc, topI_snoc]
end Go.Proofs.Ytlbekgogjlchjaa.Pk
namespace Go.Proofs.Ytlbekgogjlchjaa.Pk
open Go Go.Proofs Go.Proofs.Ytlbekgogjlchjaa.Ab
set_option linter.unusedVariables false
set_option linter.unusedSimpArgs false
theorem own_row_ix {h : AHeap} {e t : TypeId} {v : V} {α : Type} {enc : α → List V} {sz : Nat} {l : List α} (hen : ∀ a, (enc a).length = sz) (hp : 0 < sz) (hs : slSz Try.prog t = some sz) (o : Own h e sz v (l.flatMap enc)) {k : Nat} (hk : k < l.length) {kk : IntKind} :
    ∃ i q, aIndexAddr Try.prog t v (.int kk (k : Int)) = some (.ptr i (0 + k * sz)) ∧ idOf v = some i ∧ dropC (h.get i) (0 + k * sz) = some (enc l[k] ++ q) := by
  have h0 : (l.flatMap enc).length = l.length * sz := rows_len hen l
  rcases o with ⟨_, hc⟩ | ⟨i, len, cap, c, ex, rfl, hi, hg, hlen, htake, hcap⟩
  · rw [hc] at h0
    have : 0 < l.length * sz := Nat.mul_pos (by omega) hp
    simp at h0
    omega
  · have hll : l.length = len := Nat.eq_of_mul_eq_mul_right hp (by rw [← h0, hlen])
    have hcc : c = l.flatMap enc ++ c.drop (len * sz) := by rw [← htake, List.take_append_drop]
    have hle : k * sz ≤ l.length * sz := Nat.mul_le_mul_right _ (by omega)
    have hcl : l.length * sz ≤ c.length := by rw [hcc, List.length_append, h0]; omega
    refine ⟨i, (l.drop (k + 1)).flatMap enc ++ c.drop (len * sz), ?_, rfl, ?_⟩
    · rw [aIndexAddr_eq, hs, ixGo_sl, if_pos ⟨by omega, by omega⟩, Int.toNat_natCast]
    · rw [hg, dropC_cells, if_pos (by omega), Nat.zero_add]
      conv => lhs; rw [hcc]
      rw [List.drop_append_of_le_length (by rw [h0]; exact hle), rows_drop hen, List.drop_eq_getElem_cons hk, List.flatMap_cons, List.append_assoc]
theorem topI_bnd : ∀ (l : List Int) (t B : Int), (∀ k ∈ l, k + 1 ≤ B) → t ≤ B → l.foldl (fun t k => max t (k + 1)) t ≤ B
  | [], t, B, _, ht => ht
  | k :: l, t, B, hl, ht => topI_bnd l (max t (k + 1)) B (fun q hq => hl q (by simp [hq])) (by have := hl k (by simp); omega)
theorem kv_mem {s : NSt} {l : List Nat} (t : Tl s l) : s.2.1 = [] → l = [] := fun h => by
  cases l with
  | nil => rfl
  | cons n l => obtain ⟨c, hc⟩ := t.has n (by simp); rw [h] at hc; cases hc
set_option maxHeartbeats 2000000 in
set_option maxRecDepth 20000 in
theorem slotTails (l : List Nat) (hl : l.length ≤ 2 ^ 47) (hb : ∀ n ∈ l, n < 65536) (h : AHeap) :
    SCalls Try.prog 7 [.imm l.length (u16V l)] h (fun r h' => r = .bool true) := by
  refine SCalls.enterI (c := _) Try.func7 rfl (by kernel_rfl) (by simp) ?_
  simp only [wpA_region, wpA_seq, seqQ_normal, goI_out, goI_ops, opsA_nil, opsA_cons, stepA_assign, stepA_call, eval_const, absV_bool, List.map_nil]
  refine callI_pure cal13 (shown8 h) ?_
  simp only [wpA_region, wpA_seq, seqQ_normal, goI_out, goI_ops, opsA_nil, opsA_cons, stepA_assign, stepA_call, eval_tmp, eval_const, put_some, enterF_succ, absV_int, Nat.reduceEqDiff, List.map_cons, List.map_nil, if_true, if_false]
  refine callI_of cal14 (dNew h 1048576 (by decide) (by decide)) fun r1 h1 ⟨e1, d1, k1⟩ => ?_
  subst e1
  simp only [wpA_skip, wpA_region, wpA_seq, wpA_cond, condI_false, seqQ_normal, goI_out, goI_ops, opsA_nil, opsA_cons, opsA_guardS, gvI_same, slotAt_zero, slotAt_succ, stepA_move, stepA_assign, stepA_pick, stepA_binOp, stepA_extract, stepA_call, thenV_some, pickV_false, extV_zero, extV_succ, eval_tmp, eval_const, put_some, enterF_succ, aBin_neq, ptr_nil_eql, absV_int, absV_bool, absV_pnil, bne_self_eq_false, Nat.reduceEqDiff, List.map_cons, List.map_nil, if_true, if_false, kt_24]
  refine callI_of cal15 (ndOpen d1 k1 (Nat.le_refl _)) fun r2 h2 ⟨a, m, k, j, v2, pv2, e2, d2⟩ => ?_
  subst e2
  simp only [wpA_region, wpA_seq, wpA_block, wpA_loop, seqQ_normal, goI_out, goI_ops, opsA_nil, opsA_cons, stepA_assign, eval_tmp, eval_const, put_some, enterF_succ, absV_int, Nat.reduceEqDiff, if_true, if_false]
  refine SWp.loopG (α := Nat × List (List Nat) × V × V) (fun x f h' => f 0 = .imm l.length (u16V l) ∧ f 3 = .bool true ∧ f 6 = .ptr a 0 ∧ f 7 = .int .i64 (topI (keysOf (l.take x.1))) ∧ f 8 = .int .i64 (x.1 : Nat) ∧ x.1 ≤ l.length ∧ x.1 ≤ 100 ∧
      Nd h h' a m k j h.n 1048576 x.2.2.1 x.2.2.2 x.2.1 0 ∧ Tl (redoL x.2.1) (l.take x.1) ∧ (x.2.1.flatMap frame).length ≤ 60 * x.1) (fun x => l.length - x.1) (0, [], v2, pv2)
    ⟨rfl, rfl, rfl, rfl, rfl, Nat.zero_le _, Nat.zero_le _, d2, Tl.nil, Nat.le_refl _⟩ ?_
  rintro ⟨i, L, v, pv⟩ f h' ⟨f0, f3, f6, f7, f8, hi, hi2, d, t, hL⟩
  simp only at f7 f8 hi hi2 d t hL
  refine wpI_sound (by kernel_rfl) ?_
  by_cases hlt : i < l.length ∧ i < 100
  · obtain ⟨hlt, hlt2⟩ := hlt
    have c1 : decide ((i : Int) < ((l.length : Nat) : Int)) = true := by rw [decide_eq_true_iff]; omega
    have c2 : decide ((i : Int) < 100) = true := by rw [decide_eq_true_iff]; omega
    have hx := u16_ix hlt
    have hT := List.take_succ_eq_append_getElem hlt
    generalize l[i] = n at hx hT
    have hr : (n : Int).tmod 4096 = ((n % 4096 : Nat) : Int) := by rw [Int.tmod_eq_emod_of_nonneg (by omega)]; omega
    have hK2 : n % 4096 < 4096 := by omega
    have wK : IntKind.i64.wrap ((n % 4096 : Nat) : Int) = ((n % 4096 : Nat) : Int) := wrap_nat (by omega)
    have wK1 : IntKind.i64.wrap (((n % 4096 : Nat) : Int) + 1) = ((n % 4096 : Nat) : Int) + 1 := Go.IntWalk.i64_in _ (by omega)
    have wi : IntKind.i64.wrap ((i : Int) + 1) = ((i + 1 : Nat) : Int) := by rw [Go.IntWalk.i64_in _ (by omega)]; rfl
    simp only [wpA_skip, wpA_region, wpA_seq, wpA_cond, wpA_block, condI_true, seqQ_normal, goI_out, goI_ops, opsA_nil, opsA_cons, opsA_guardS, gvI_same, slotAt_zero, slotAt_succ, stepA_move, stepA_assign, stepA_pick, stepA_buildSlice, stepA_load, stepA_binOp, stepA_convert, stepA_indexAddr, stepA_len, stepA_call, thenV_some, thenC_some, thenH_some, pickV_true, eval_tmp, eval_const, put_some, aBin_lss, absV_int, absV_bool, aLoad_eq, loadGo_one, aPlace_at, aLen_imm, Nat.reduceEqDiff, reduceCtorEq, List.map_cons, List.map_nil, if_true, if_false, kt_48, lt_44, f0, f6, f8, c1, c2, hx, aBin_rem (show (4096 : Int) ≠ 0 by decide), hr, aConv_int it_44 it_3, wK, lit1b]
    refine callI_of cal17 (ndWrite1 d 0 ((n % 4096 : Nat) : Int) 1 (by decide)) fun r3 h3 hp => ?_
    have hm : mayWr ⟨1, 0, ((n % 4096 : Nat) : Int), [1]⟩ = true := by
      unfold mayWr mayEp
      simp only [Bool.and_eq_true, decide_eq_true_eq]
      exact ⟨⟨⟨by omega, by omega⟩, by omega, by omega⟩, by simp⟩
    have post : r3 = .int .i64 0 ∧ ∃ L2 v2 pv2, Nd h h3 a m k j h.n 1048576 v2 pv2 L2 0 ∧ Tl (redoL L2) (l.take (i + 1)) ∧ (L2.flatMap frame).length ≤ 60 * (i + 1) := by
      rw [hT]
      cases hg : kget (redoL L).2.1 ((n % 4096 : Nat) : Int) with
      | some c =>
        obtain ⟨ce, cb⟩ := t.only _ _ hg
        have hw : wrI (redoL L) 0 ((n % 4096 : Nat) : Int) [1] = some 0 := by
          unfold wrI; rw [if_neg (by rw [hm]; decide), if_neg (by rw [t.ep]; decide)]; simp only [hg, ce, cb]; simp
        rw [hw] at hp
        exact ⟨hp.1, L, v, pv, hp.2, t.same hg, by omega⟩
      | none =>
        have hw : wrI (redoL L) 0 ((n % 4096 : Nat) : Int) [1] = none := by
          unfold wrI; rw [if_neg (by rw [hm]; decide), if_neg (by rw [t.ep]; decide)]; simp only [hg]
        have ho : okAct ⟨1, 0, ((n % 4096 : Nat) : Int), [1]⟩ := ⟨by simp only; omega, by simp only; omega, by simp only; omega, by simp⟩
        have hP : putBad 1048576 (L.flatMap frame) (payN ⟨1, 0, ((n % 4096 : Nat) : Int), [1]⟩) = 0 := pb0 ho (by simp only [List.length_cons, List.length_nil]; omega)
        have hF := fr_len _ ho
        simp only [List.length_cons, List.length_nil] at hF
        rw [hw] at hp
        obtain ⟨e, hp⟩ := hp
        rw [if_pos hP] at hp
        rw [hP] at e
        obtain ⟨v', pv', d'⟩ := hp
        refine ⟨e, L ++ [payN ⟨1, 0, ((n % 4096 : Nat) : Int), [1]⟩], v', pv', d', ?_, ?_⟩
        · rw [redoL_snoc, show ((0 : Int)) = ((0 : Nat) : Int) from rfl, redo_write (redoL L) 0 (n % 4096) [1] hw]
          exact t.more hg
        · rw [List.flatMap_append, List.length_append]
          simp only [List.flatMap_cons, List.flatMap_nil, List.append_nil]
          omega
    obtain ⟨e3, L2, v3, pv3, d3, t3, hL3⟩ := post
    subst e3
    have hmem : n ∈ l.take (i + 1) := by rw [hT]; simp
    obtain ⟨c, hc⟩ := t3.has n hmem
    have hRI : readI (redoL L2) ((n % 4096 : Nat) : Int) = (c, 0) := by unfold readI; simp only [hc]
    have hRd := ndRead d3 ((n % 4096 : Nat) : Int)
    rw [hRI] at hRd
    have htop : max (topI (keysOf (l.take i))) (((n % 4096 : Nat) : Int) + 1) = topI (keysOf (l.take (i + 1))) := by rw [hT, keysOf_snoc, topI_snoc]
    simp only [wpA_skip, wpA_region, wpA_seq, wpA_cond, condI_false, seqQ_normal, goI_out, goI_ops, opsA_nil, opsA_cons, stepA_move, stepA_assign, stepA_binOp, stepA_max, stepA_call, thenV_some, eval_tmp, eval_const, put_some, aBin_add, aBin_neq, mmV_max, absV_int, bne_self_eq_false, Nat.reduceEqDiff, List.map_cons, List.map_nil, if_true, if_false, f6, f7, wK1, htop]
    refine callI_pure cal20 hRd ?_
    have hst : setC (some 3) (AObj.cells [.int .i64 0, .int .i64 0, .snil] 39 none) 0 (celE c) = some (.cells (celE c) 39 none) := by
      rw [setC_row (n := 3) rfl rfl, if_pos (by decide)]; rfl
    have hcc : (V.agg (celE c)).cells = some (celE c) := rfl
    have k6 : Keep h3 (h3.push (.cells (celE c) 39 none)) none_ := Keep.push _ _ _
    have d6 := d3.on k6
    have hTl := ndTail d6
    rw [t3.top] at hTl
    have n0 : ((0 : Int) != 0) = false := rfl
    have sz : (topI (keysOf (l.take (i + 1))) != topI (keysOf (l.take (i + 1)))) = false := by simp
    simp only [wpA_region, wpA_seq, seqQ_normal, goI_out, goI_ops, opsA_nil, opsA_cons, opsA_guardS, gvI_same, slotAt_zero, slotAt_succ, stepA_move, stepA_assign, stepA_alloc, stepA_store, stepA_binOp, stepA_extract, stepA_call, thenV_some, thenH_some, thenS_some, extV_zero, extV_succ, eval_tmp, eval_const, put_some, put_none, aBin_neq, absV_int, aStore_eq, storeGo_ptr, aAlloc_eq, get_push_new, set_push, bne_self_eq_false, Nat.reduceEqDiff, List.map_cons, List.map_nil, Option.map_some, if_true, if_false, zc_39, zt_39, f6, hst, hcc]
    generalize h3.push (.cells (celE c) 39 none) = h6 at d6 hTl ⊢
    refine callI_pure cal19 hTl ?_
    simp only [wpA_skip, wpA_region, wpA_cond, condI_false, seqQ_normal, blkQ_normal, endI_mk, andThen_normal, goI_out, goI_ops, opsA_nil, opsA_cons, opsA_guardS, gvI_same, slotAt_zero, slotAt_succ, stepA_move, stepA_assign, stepA_pick, stepA_binOp, thenV_some, pickV_false, eval_tmp, eval_const, put_some, put_none, aBin_add, aBin_neq, absV_int, absV_bool, bne_self_eq_false, Nat.reduceEqDiff, if_true, if_false, f8, wi]
    exact hid_mk ⟨(i + 1, L2, v3, pv3), ⟨f0, f3, f6, rfl, rfl, hlt, hlt2, d6, t3, hL3⟩, by simp only; omega⟩
  have hend : decide ((i : Int) < ((l.length : Nat) : Int)) = false ∨ (decide ((i : Int) < ((l.length : Nat) : Int)) = true ∧ decide ((i : Int) < 100) = false) := by
    simp only [decide_eq_false_iff_not, decide_eq_true_eq]
    omega
  have hS : selI (redoL L) 1 = none := by unfold selI; rw [if_neg (by decide), if_neg (by rw [t.ep]; decide)]
  have ho : okAct (selA 1) := ⟨by decide, by decide, by decide, by decide⟩
  have hP : putBad 1048576 (L.flatMap frame) (payN (selA 1)) = 0 := pb0 ho (by simp only [selA, List.length_nil]; omega)
  rcases hend with c1 | ⟨c1, c2⟩
  all_goals first | simp only [wpA_region, wpA_seq, wpA_cond, wpA_exit, condI_false, seqQ_normal, seqQ_exit, blkQ_exit, endI_mk, goE, andThen_exit, goI_out, goI_ops, opsA_nil, opsA_cons, opsA_guardS, gvI_same, slotAt_zero, slotAt_succ, stepA_move, stepA_pick, stepA_binOp, stepA_len, stepA_call, thenV_some, pickV_true, eval_tmp, eval_const, put_some, aBin_lss, absV_int, absV_bool, aLen_imm, Nat.reduceEqDiff, reduceCtorEq, List.map_cons, List.map_nil, if_true, if_false, kt_48, f0, f6, f8, c1, c2] | simp only [wpA_region, wpA_seq, wpA_cond, wpA_exit, condI_false, seqQ_normal, seqQ_exit, blkQ_exit, endI_mk, goE, andThen_exit, goI_out, goI_ops, opsA_nil, opsA_cons, opsA_guardS, gvI_ft, slotAt_zero, slotAt_succ, stepA_move, stepA_pick, stepA_binOp, stepA_len, stepA_call, thenV_some, pickV_false, eval_tmp, eval_const, put_some, aBin_lss, absV_int, absV_bool, aLen_imm, Nat.reduceEqDiff, reduceCtorEq, List.map_cons, List.map_nil, if_true, if_false, kt_48, f0, f6, f8, c1]
  all_goals
    refine callI_of cal16 (ndSeal d 1) fun r5 h5 hp => ?_
    rw [hS] at hp
    simp only at hp
    rw [if_pos hP] at hp
    obtain ⟨v5, pv5, rv, out, e5, d5, pl, sl, ow, nw⟩ := hp
    subst e5
    have hlen : ∀ hh : AHeap, aLen Try.prog 33 rv hh = some (.int .i64 (out.length : Nat)) := fun hh => by
      have h3 : (out.flatMap celE).length = out.length * 3 := rows_len celE_len _
      rcases ow with ⟨e | e, hc⟩ | ⟨i2, len, cap, c, ex, e, _, _, hl3, _⟩
      · rw [hc] at h3; rw [e]
        have : out.length = 0 := by simp at h3; omega
        rw [this]; exact aLen_snil kt_33
      · rw [hc] at h3; rw [e]
        have : out.length = 0 := by simp at h3; omega
        rw [this]; exact aLen_z0 kt_33
      · have hl1 : len = out.length := by omega
        rw [e, ← hl1]
        exact aLen_sl kt_33
    have hwf := d.ok
    have hnd : (out.map (·.at_)).Nodup := by
      have h1 : (out.map (·.at_)).Perm ((redoL L).2.1.map (·.2.1)) := by
        have h2 := pl.map (·.at_)
        rw [List.map_map] at h2
        have h3 : (redoL L).2.1.map ((·.at_) ∘ (·.2.2)) = (redoL L).2.1.map (·.2.1) := List.map_congr_left fun e he => (hwf.sm e he).2.2.2.2
        rwa [h3] at h2
      exact h1.nodup_iff.2 hwf.nd
    have olen : out.length ≤ 1048576 := by
      have h1 := pl.length_eq
      rw [List.length_map] at h1
      have h2 := redoL_len L (0, [], 0)
      have h3 := d.len
      unfold redoL at h1
      simp only [List.length_nil] at h2
      omega
    have htop : topI (keysOf (l.take i)) = topI (out.map (·.at_)) := by
      have h2 := pl.map (·.at_)
      rw [List.map_map] at h2
      have h3 : (redoL L).2.1.map ((·.at_) ∘ (·.2.2)) = (redoL L).2.1.map (·.2.1) := List.map_congr_left fun e he => (hwf.sm e he).2.2.2.2
      rw [h3] at h2
      rw [← t.top, topI_perm h2]
    have hpos : ∀ c ∈ out, 0 ≤ c.at_ ∧ c.at_ < 4096 := fun c hc => by
      obtain ⟨e, he, rfl⟩ := List.mem_map.1 (pl.mem_iff.1 hc)
      obtain ⟨_, _, y0, y1, y2⟩ := hwf.sm e he
      rw [y2]; exact ⟨y0, y1⟩
    have hlast : ∀ (hn : 0 < out.length), topI (out.map (·.at_)) = (out[out.length - 1]).at_ + 1 := fun hn => by
      have hmem : (out[out.length - 1]).at_ ∈ out.map (·.at_) := List.mem_map.2 ⟨_, List.getElem_mem _, rfl⟩
      have h1 := topI_mem hmem
      have h2 := topI_bnd (out.map (·.at_)) 0 ((out[out.length - 1]).at_ + 1) (fun k hk => by
        obtain ⟨c, hc, rfl⟩ := List.mem_map.1 hk
        obtain ⟨y, hy, rfl⟩ := List.getElem_of_mem hc
        by_cases he : y = out.length - 1
        · subst he; omega
        · have := (List.pairwise_iff_getElem.1 sl) y (out.length - 1) hy (by omega) (by omega)
          omega) (by have := (hpos _ (List.getElem_mem (h := show out.length - 1 < out.length by omega))).1; omega)
      have h3 : topI (out.map (·.at_)) ≤ (out[out.length - 1]).at_ + 1 := h2
      omega
    have ld : ∀ (c : Cel) (r : List V), loadGo (some none) (some (celE c ++ r)) = some (.int .i64 c.at_) := fun _ _ => rfl
    simp only [wpA_region, wpA_seq, wpA_block, wpA_loop, seqQ_normal, goI_out, goI_ops, opsA_nil, opsA_cons, stepA_move, stepA_assign, stepA_extract, thenV_some, extV_zero, extV_succ, eval_tmp, eval_const, put_some, absV_int, Nat.reduceEqDiff, if_true, if_false]
    refine SWp.loopG (α := Nat) (fun q f' hh => hh = h5 ∧ f' 3 = .bool true ∧ f' 7 = .int .i64 (topI (keysOf (l.take i))) ∧ f' 12 = rv ∧ f' 13 = .int .i64 0 ∧ f' 14 = .int .i64 (q : Nat) ∧ 1 ≤ q ∧ (q ≤ out.length ∨ q = 1)) (fun q => out.length - q) 1
      ⟨rfl, f3, f7, rfl, rfl, rfl, Nat.le_refl _, .inr rfl⟩ ?_
    rintro q f' hh ⟨rfl, g3, g7, g12, g13, g14, q1, q2⟩
    refine wpI_sound (by kernel_rfl) ?_
    by_cases hq : q < out.length
    · have b1 : decide ((q : Int) < ((out.length : Nat) : Int)) = true := by rw [decide_eq_true_iff]; omega
      obtain ⟨i1, r1, x1, y1, z1⟩ := own_row_ix (t := 33) (kk := .i64) celE_len (by decide) ss_33 ow (k := q) hq
      obtain ⟨i2, r2, x2, y2, z2⟩ := own_row_ix (t := 33) (kk := .i64) celE_len (by decide) ss_33 ow (k := q - 1) (by omega)
      have w1 : IntKind.i64.wrap ((q : Int) - 1) = ((q - 1 : Nat) : Int) := by rw [Go.IntWalk.i64_in _ (by omega)]; omega
      have w2 : IntKind.i64.wrap ((q : Int) + 1) = ((q + 1 : Nat) : Int) := by rw [Go.IntWalk.i64_in _ (by omega)]; rfl
      simp only [wpA_skip, wpA_region, wpA_seq, wpA_cond, wpA_block, wpA_draw, condI_true, seqQ_normal, goI_out, goI_ops, opsA_nil, opsA_cons, stepA_move, stepA_binOp, stepA_len, thenV_some, eval_tmp, put_some, aBin_lss, Nat.reduceEqDiff, if_true, if_false, g12, g14, hlen, b1]
      refine SWp.drawnS none_ [] (.q 0 (.q 1 (.q 2 (.q 3 (.q 4 (.q 5 (.q 6 (.q 7 (.q 8 (.q 9 (.q 10 (.q 11 .done)))))))))))) (by kernel_rfl) (by kernel_rfl) (by kernel_rfl) ?_
      simp only [Nat.zero_add] at z1 z2
      have hst : decide ((out[q]).at_ ≤ (out[q - 1]).at_) = false := by
        rw [decide_eq_false_iff_not]
        have h1 := (List.pairwise_iff_getElem.1 sl) (q - 1) q (by omega) hq (by omega)
        have h2 : (out[q - 1]).at_ ≠ (out[q]).at_ := fun e => by
          have h3 := (List.pairwise_iff_getElem.1 hnd) (q - 1) q (by rw [List.length_map]; omega) (by rw [List.length_map]; exact hq) (by omega)
          exact h3 (by rw [List.getElem_map, List.getElem_map]; exact e)
        omega
      simp only [siI_done, siI_q, sqI_some, mOk_none', implies_true, qI_nil, qI_cons, thenQ_some, q_move, q_load, q_binOp, q_fieldAddr, q_indexAddr, wpA_skip, wpA_region, wpA_cond, condI_false, seqQ_normal, blkQ_normal, endI_mk, andThen_normal, goI_out, goI_ops, goI_mk, opsA_nil, opsA_cons, stepA_move, stepA_assign, stepA_binOp, thenV_some, eval_tmp, eval_const, put_some, aBin_add, aBin_sub, aBin_leq, absV_int, aField_eq, fieldGo_ptr, aLoad_eq, aPlace_ptr, List.getElem?_cons_zero, List.getElem?_cons_succ, Nat.reduceEqDiff, Nat.add_zero, Nat.zero_add, true_and, if_true, if_false, ft_39_0, lt_3, g12, g14, w1, x1, x2, z1, z2, ld, hst, w2]
      exact hid_mk ⟨q + 1, ⟨rfl, g3, g7, g12, g13, rfl, by omega, .inl hq⟩, by omega⟩
    · have b1 : decide ((q : Int) < ((out.length : Nat) : Int)) = false := by rw [decide_eq_false_iff_not]; omega
      by_cases hz : out.length = 0
      · have ht0 : topI (keysOf (l.take i)) = 0 := by
          rw [htop, List.length_eq_zero_iff.1 hz]; rfl
        have hB : (((out.length : Nat) : Int) == 0) = true := by rw [hz]; rfl
        have hA : ((((out.length : Nat) : Int) == 0) == (topI (keysOf (l.take i)) == 0)) = true := by rw [hB, ht0]; rfl
        have tt : ((0 : Int) == 0) = true := rfl
        simp only [wpA_region, wpA_seq, wpA_cond, wpA_exit, wpA_ret, condI_false, seqQ_normal, seqQ_exit, blkQ_exit, endI_mk, goE, andThen_exit, goI_out, goI_ops, opsA_nil, opsA_cons, opsA_guardS, gvI_same, gvI_tf, slotAt_zero, slotAt_succ, stepA_move, stepA_assign, stepA_pick, stepA_binOp, stepA_len, thenV_some, pickV_true, eval_tmp, eval_const, put_some, aBin_eql, aBin_lss, aBin_bool_eql, absV_int, absV_bool, beq_self_eq_true, Nat.reduceEqDiff, if_true, if_false, bt_4, g3, g7, g12, g13, g14, hlen, b1, hB, ht0, beq_self_eq_true, retA_ret, Try.results7, resultsA_1]
        exact hid_mk rfl
      · have hl1 := hlast (by omega)
        obtain ⟨p0, p1⟩ := hpos _ (List.getElem_mem (h := show out.length - 1 < out.length by omega))
        obtain ⟨i1, r1, x1, y1, z1⟩ := own_row_ix (t := 33) (kk := .i64) celE_len (by decide) ss_33 ow (k := out.length - 1) (by omega)
        simp only [Nat.zero_add] at z1
        have hB : (((out.length : Nat) : Int) == 0) = false := by rw [beq_eq_false_iff_ne]; omega
        have hC : (topI (keysOf (l.take i)) == 0) = false := by rw [beq_eq_false_iff_ne, htop, hl1]; omega
        have tt : ((0 : Int) == 0) = true := rfl
        have w1 : IntKind.i64.wrap (((out.length : Nat) : Int) - 1) = ((out.length - 1 : Nat) : Int) := by rw [Go.IntWalk.i64_in _ (by omega)]; omega
        have w2 : IntKind.i64.wrap (topI (keysOf (l.take i)) - 1) = (out[out.length - 1]).at_ := by rw [htop, hl1, Go.IntWalk.i64_in _ (by omega)]; omega
        have ff : (false == false) = true := rfl
        have se : ((out[out.length - 1]).at_ == (out[out.length - 1]).at_) = true := by simp
        simp only [wpA_region, wpA_seq, wpA_cond, wpA_exit, wpA_ret, condI_false, seqQ_normal, seqQ_exit, blkQ_exit, endI_mk, goE, andThen_exit, goI_out, goI_ops, opsA_nil, opsA_cons, opsA_guardS, gvI_same, slotAt_zero, slotAt_succ, stepA_move, stepA_assign, stepA_pick, stepA_load, stepA_binOp, stepA_fieldAddr, stepA_indexAddr, stepA_len, thenV_some, pickV_true, pickV_false, eval_tmp, eval_const, put_some, aBin_sub, aBin_eql, aBin_lss, aBin_bool_eql, absV_int, absV_bool, aField_eq, fieldGo_ptr, aLoad_eq, aPlace_ptr, beq_self_eq_true, Nat.reduceEqDiff, Nat.add_zero, Nat.zero_add, if_true, if_false, bt_4, ft_39_0, lt_3, g3, g7, g12, g13, g14, hlen, b1, hB, hC, w1, x1, z1, ld, w2, retA_ret, Try.results7, resultsA_1]
        exact hid_mk rfl
end Go.Proofs.Ytlbekgogjlchjaa.Pk
