/-
  What functions of the program do, told of abstract states. Conditions: as each theorem says.
-/
import Derived.Test.YtcdpepdjeneelaaDoorVtA
namespace Go.Proofs.YtcdpepdjeneelaaDoor.Pk
open Go Go.Proofs Go.Proofs.YtcdpepdjeneelaaDoor.Ab Go.Proofs.Vw
set_option linter.unusedVariables false
set_option linter.unusedSimpArgs false
/-! ### Stable -/
/-- The least of a number and the places of some open records. -/
def MinAt (len v : Nat) (O : Ent × Nat → Prop) : Prop := v ≤ len ∧ (∀ p, O p → v ≤ p.2) ∧ (v = len ∨ ∃ p, O p ∧ v = p.2)
theorem MinAt.unique {len v w : Nat} {O : Ent × Nat → Prop} (a : MinAt len v O) (b : MinAt len w O) : v = w := by
  obtain ⟨a1, a2, a3⟩ := a
  obtain ⟨b1, b2, b3⟩ := b
  rcases a3 with a3 | ⟨p, hp, a3⟩
  · rcases b3 with b3 | ⟨q, hq, b3⟩
    · omega
    · have := a2 q hq; omega
  · rcases b3 with b3 | ⟨q, hq, b3⟩
    · have := b2 p hp; omega
    · have := a2 q hq; have := b2 p hp; omega
theorem MinAt.conv {len v : Nat} {O O' : Ent × Nat → Prop} (a : MinAt len v O) (h : ∀ p, O p ↔ O' p) : MinAt len v O' :=
  ⟨a.1, fun p hp => a.2.1 p ((h p).2 hp), a.2.2.imp id fun ⟨p, hp, e⟩ => ⟨p, (h p).1 hp, e⟩⟩
theorem MinAt.more {len v : Nat} {O : Ent × Nat → Prop} (a : MinAt len v O) (q : Ent × Nat) : MinAt len (min v q.2) (fun p => O p ∨ p = q) := by
  obtain ⟨a1, a2, a3⟩ := a
  refine ⟨by omega, fun p hp => ?_, ?_⟩
  · rcases hp with hp | rfl
    · have := a2 p hp; omega
    · omega
  · by_cases hq : q.2 ≤ v
    · exact .inr ⟨q, .inr rfl, by omega⟩
    · rcases a3 with a3 | ⟨p, hp, a3⟩
      · exact .inl (by omega)
      · exact .inr ⟨p, .inl hp, by omega⟩
/-- An open record of a state. -/
def IsOpen (s : VM) (p : Ent × Nat) : Prop := ∃ t j, s.tasks t = some j ∧ p ∈ j.opn
theorem pnd_ix {l : List (Ent × Nat)} {k : Nat} (hk : k < l.length) {kk : IntKind} : aIndexAddr Tryd.prog 69 (.imm l.length (pndL l)) (.int kk (k : Int)) = some (.at (pndE l[k] ++ pndL (l.drop (k + 1)))) := rows_ix (enc := pndE) (sz := 12) pndE_len hk ss_69
theorem pnd_ld (x : Ent × Nat) (r : List V) : loadGo (some (some 12)) (some (pndE x ++ r)) = some (.agg (pndE x)) := load_row (pndE_len x)
set_option maxHeartbeats 4000000 in
set_option maxRecDepth 20000 in
theorem pStable (l : List Ent) (hl : l.length ≤ 2 ^ 14) (he : ∀ x ∈ l, eLen x) (h : AHeap) (hu : KU h) : SCalls Tryd.prog 14 [.imm l.length (l.flatMap entE)] h (fun r h' => (∃ v : Nat, r = .int .i64 (v : Nat) ∧ MinAt l.length v (IsOpen (readV l))) ∧ Keep h h' none_) := by
  obtain ⟨q, hq⟩ : ∃ q, mapT Tryd.prog 56 = some q := by
    obtain ⟨et, hm, _⟩ := mp_job
    exact ⟨_, hm⟩
  refine SCalls.enterI (c := _) Tryd.func14 rfl (by kernel_rfl) (by simp) ?_
  simp only [wpA_region, wpA_seq, seqQ_normal, goI_out, goI_ops, opsA_nil, opsA_cons, stepA_move, stepA_assign, stepA_len, stepA_call, thenV_some, eval_tmp, eval_const, put_some, enterF_zero, enterF_succ, absV_int, aLen_imm, Nat.reduceEqDiff, reduceCtorEq, List.map_cons, List.map_nil, if_true, if_false, kt_22]
  refine callI_of cal21 (pProcess l hl he h hu) fun r h1 ⟨lm, tm, L, lc, T, tc, er, w⟩ => ?_
  subst er
  have hrg := range_map hq w.gt
  have hsn : (T.map (·.1)).Nodup := by
    have := w.stt.2
    rwa [show (pmE T).map (·.1) = T.map (·.1) from mapK_stamps T] at this
  have hlt := w.tml
  simp only [wpA_block, wpA_loop, seqQ_normal, goI_out, goI_ops, opsA_nil, opsA_cons, stepA_field, stepA_range, thenV_some, thenH_some, eval_tmp, put_some, enterF_succ, aFieldOf_eq, partGo_one, List.getElem?_cons_zero, List.getElem?_cons_succ, Nat.reduceEqDiff, if_true, if_false, pt_58_1, hrg]
  refine SWp.loopG (α := PM × Nat) (fun y f h' => f 13 = .ptr h1.n 0 ∧ f 3 = .int .i64 (y.2 : Nat) ∧ h1.n < h'.n ∧ h'.get h1.n = .iter tm tc (y.1.map (·.1)) tc ∧ Keep h1 h' none_ ∧
    (∀ e ∈ y.1, e ∈ T) ∧ (y.1.map (·.1)).Nodup ∧ MinAt l.length y.2 (fun p => ∃ e ∈ y.1, p ∈ (jbOf (readV l) e.2.1).opn)) (fun y => (remOf (pmE T) (y.1.map (·.1))).length) ([], l.length)
    ⟨rfl, rfl, by simp only [push_n]; omega, get_push_new, Keep.push _ _ _, by simp, by simp, Nat.le_refl _, (fun p ⟨e, he, _⟩ => by cases he), .inl rfl⟩ ?_
  rintro ⟨vis, v⟩ f h2 ⟨f13, f3, n2, gi, k2, hvl, hvn, hv⟩
  simp only at f3 gi hvl hvn hv
  have gm : h2.get tm = .map (pmE T) tc := (k2.get tm hlt (by simp [none_])).trans w.gt
  refine wpI_sound (by kernel_rfl) ?_
  simp only [wpA_region, wpA_seq, opsA_cons, stepA_next, eval_tmp, f13]
  refine alts_ro gi gm w.stt (fun hleft => ?_) fun e he => ?_
  · have hall := kvis_all hleft
    have hp := kvis_perm hsn hvn hvl hall
    simp only [wpA_region, wpA_seq, wpA_cond, wpA_exit, wpA_ret, condI_false, seqQ_normal, seqQ_exit, blkQ_exit, endI_mk, goE, andThen_exit, goI_out, goI_ops, opsA_nil, opsA_cons, stepA_move, stepA_assign, stepA_extract, thenV_some, extV_zero, eval_tmp, put_some, Nat.reduceEqDiff, if_true, if_false, f3, retA_ret, Tryd.results14, resultsA_1]
    refine hid_mk ⟨⟨v, rfl, hv.conv fun p => ⟨fun ⟨e, he, h3⟩ => ?_, fun ⟨t, j, h3, h4⟩ => ?_⟩⟩, w.keep.trans' k2⟩
    · obtain ⟨j, h4, _⟩ := w.job _ _ (kmem w.ndt (hvl e he))
      unfold jbOf at h3
      rw [h4] at h3
      exact ⟨_, j, h4, h3⟩
    · cases hk : kget T t with
      | none => rw [w.jobn _ hk] at h3; cases h3
      | some b =>
        obtain ⟨e, he, e2⟩ := kget_mem hk
        refine ⟨e, hp.mem_iff.2 he, ?_⟩
        rw [e2]
        unfold jbOf
        rw [h3]
        exact h4
  · obtain ⟨x, hx, rfl, hxn⟩ := kvis_next he
    have less := remOf_snoc he
    obtain ⟨n3, hvl2, hvlen⟩ := kvis_snoc hvn hvl hx hxn
    obtain ⟨j, hx1, hx2, hx3⟩ := w.job x.2.1 x.2.2 (kmem w.ndt hx)
    obtain ⟨xs, xk, xb⟩ := x
    simp only at less he hxn hx1 hx2 hx3
    have hjb : jbOf (readV l) xk = j := by unfold jbOf; rw [hx1]; rfl
    have bj := (vbd_read _ l rfl).op _ _ hx1
    generalize hH : h2.set h1.n (.iter tm tc (vis.map (·.1) ++ [xs]) tc) = H
    have kS : Keep h1 H none_ := by rw [← hH]; exact k2.trans (Keep.set _ _ _) fun q hq hh => by omega
    have nH : H.n = h2.n := by rw [← hH]; rfl
    have gr : H.get h1.n = .iter tm tc (vis.map (·.1) ++ [xs]) tc := by rw [← hH]; exact get_set_same
    have gmH : H.get tm = .map (pmE T) tc := (kS.get tm hlt (by simp [none_])).trans w.gt
    have hen := entry_ro gr gmH w.stt (List.mem_filter.1 he).1
    simp only at hen
    have gx : H.get xb = .cells (jobC xk j) 71 none := (kS.get xb hx3 (by simp [none_])).trans hx2
    simp only [wpA_skip, wpA_region, wpA_seq, wpA_cond, wpA_block, wpA_loop, condI_true, seqQ_normal, goI_out, goI_ops, opsA_nil, opsA_cons, stepA_move, stepA_assign, stepA_load, stepA_nilCheck, stepA_fieldAddr, stepA_entry, stepA_extract, stepA_len, thenV_some, nilV_ptr, extV_zero, extV_succ, eval_tmp, eval_const, put_some, absV_int, aField_eq, fieldGo_ptr, aLoad_eq, loadGo_one, aPlace_ptr, dropC_cells, aLen_imm, Nat.reduceEqDiff, Nat.reduceAdd, Nat.reduceLeDiff, Nat.zero_add, List.length_cons, List.length_nil, List.drop_zero, List.drop_succ_cons, if_true, if_false, ft_71_1, kt_69, lt_69, f13, hen, gx, jobC]
    refine SWp.loopG (α := Nat × Nat) (fun y f h' => f 13 = .ptr h1.n 0 ∧ f 3 = .int .i64 (y.2 : Nat) ∧ f 21 = .imm j.opn.length (pndL j.opn) ∧ f 22 = .int .i64 (j.opn.length : Nat) ∧ f 23 = .int .i64 (y.1 : Nat) ∧ y.1 ≤ j.opn.length ∧ Keep H h' none_ ∧
      MinAt l.length y.2 (fun p => (∃ e ∈ vis, p ∈ (jbOf (readV l) e.2.1).opn) ∨ p ∈ j.opn.take y.1)) (fun y => j.opn.length - y.1) (0, v)
      ⟨f13, f3, rfl, rfl, rfl, Nat.zero_le _, Keep.refl _ _, hv.conv fun p => by simp⟩ ?_
    clear f13 f3
    rintro ⟨i, u⟩ f h3 ⟨f13, f3, f21, f22, f23, hi, k3, hm⟩
    simp only at f3 f23 hi hm
    refine wpI_sound (by kernel_rfl) ?_
    by_cases hlt2 : i < j.opn.length
    · have d1 : decide ((i : Int) < ((j.opn.length : Nat) : Int)) = true := decide_eq_true (by omega)
      have wi : IntKind.i64.wrap (((i : Nat) : Int) + 1) = ((i + 1 : Nat) : Int) := by rw [Go.IntWalk.i64_in _ (by omega)]; omega
      have x1 := pnd_ix (l := j.opn) (kk := .i64) hlt2
      have hsn2 : j.opn.take (i + 1) = j.opn.take i ++ [j.opn[i]] := List.take_succ_eq_append_getElem hlt2
      generalize j.opn[i] = P at x1 hsn2
      have ld := pnd_ld
      have hcP : (V.agg (pndE P)).cells = some (pndE P) := rfl
      have hsP : setC (some 12) (AObj.cells [V.int .i64 0, .int .i64 0, .int .i64 0, .int .i64 0, .int .i64 0, .int .i64 0, .int .i64 0, .int .i64 0, .bool false, .snil, .snil, .int .i64 0] 73 none) 0 (pndE P) = some (.cells (pndE P) 73 none) := rfl
      have dP : dropC (AObj.cells (pndE P) 73 none) 11 = some [.int .i64 (P.2 : Nat)] := rfl
      have hmin : min (u : Int) (P.2 : Int) = ((min u P.2 : Nat) : Int) := by omega
      simp only [wpA_skip, wpA_region, wpA_seq, wpA_cond, wpA_block, condI_true, seqQ_normal, blkQ_normal, endI_mk, andThen_normal, goI_out, goI_ops, opsA_nil, opsA_cons, stepA_move, stepA_assign, stepA_alloc, stepA_load, stepA_store, stepA_binOp, stepA_fieldAddr, stepA_indexAddr, stepA_min, thenV_some, thenH_some, thenS_some, eval_tmp, eval_const, put_some, put_none, aBin_add, aBin_lss, mmV_min, absV_int, aField_eq, fieldGo_ptr, aLoad_eq, loadGo_one, aPlace_ptr, aPlace_at, aStore_eq, storeGo_ptr, aAlloc_eq, get_push_new, set_push, Nat.reduceEqDiff, Option.map_some, Nat.zero_add, if_true, if_false, ft_73_1, lt_3, lt_73, zc_73, zt_73, f3, f21, f22, f23, d1, x1, ld, hcP, hsP, dP, hmin, wi]
      refine hid_mk ⟨(i + 1, min u P.2), ⟨f13, rfl, f21, f22, rfl, hlt2, k3.then_push _, (hm.more P).conv fun p => ?_⟩, by simp only; omega⟩
      rw [hsn2, List.mem_append, List.mem_singleton, or_assoc]
    · obtain rfl : i = j.opn.length := by omega
      have d1 : decide (((j.opn.length : Nat) : Int) < ((j.opn.length : Nat) : Int)) = false := decide_eq_false (by omega)
      simp only [wpA_region, wpA_seq, wpA_cond, wpA_exit, wpA_ret, condI_false, seqQ_normal, seqQ_exit, blkQ_normal, blkQ_exit, endI_mk, goE, andThen_normal, andThen_exit, goI_out, goI_ops, opsA_nil, opsA_cons, stepA_move, stepA_assign, stepA_binOp, thenV_some, eval_tmp, put_some, aBin_lss, Nat.reduceEqDiff, reduceCtorEq, if_true, if_false, f3, f22, f23, d1]
      rw [List.take_length] at hm
      refine hid_mk ⟨(vis ++ [(xs, xk, xb)], u), ⟨f13, f3, by have := k3.n; omega, ?_, kS.trans' k3, hvl2, n3, hm.conv fun p => ?_⟩, ?_⟩
      · rw [k3.get h1.n (by omega) (by simp [none_]), gr]; simp
      · constructor
        · rintro (⟨e, he, hp⟩ | hp)
          · exact ⟨e, List.mem_append_left _ he, hp⟩
          · exact ⟨_, List.mem_append_right _ List.mem_cons_self, by rw [hjb]; exact hp⟩
        · rintro ⟨e, he, hp⟩
          rcases List.mem_append.1 he with he | he
          · exact .inl ⟨e, he, hp⟩
          · rw [List.mem_singleton.1 he, hjb] at hp; exact .inr hp
      · rw [List.map_append]; exact less
end Go.Proofs.YtcdpepdjeneelaaDoor.Pk
