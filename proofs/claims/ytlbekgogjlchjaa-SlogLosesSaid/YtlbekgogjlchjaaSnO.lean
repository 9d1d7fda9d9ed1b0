/-
  What functions of the program do, told of abstract states. Conditions: as each theorem says.
-/
import Derived.Test.YtlbekgogjlchjaaMbE
namespace Go.Proofs.Ytlbekgogjlchjaa.Pk
open Go Go.Proofs Go.Proofs.Ytlbekgogjlchjaa.Ab
set_option linter.unusedVariables false
set_option linter.unusedSimpArgs false
structure DeedG where
  kind : Int
  node : Int
  keep : Int
  turn : Int
  b : List Nat
  reach : List Bool
def dgE (d : DeedG) : List V := [.int .i64 d.kind, .int .i64 d.node, .int .i64 d.keep, .int .i64 d.turn, .imm d.b.length (bytesV d.b), .imm d.reach.length (bV d.reach)]
theorem dgE_len (d : DeedG) : (dgE d).length = 6 := rfl
theorem dg_ix {l : List DeedG} {k : Nat} (hk : k < l.length) : aIndexAddr Try.prog 50 (.imm l.length (l.flatMap dgE)) (.int .i64 (k : Int)) = some (.at (dgE l[k] ++ (l.drop (k + 1)).flatMap dgE)) := rows_ix dgE_len hk ss_50
theorem dg_ld (c : DeedG) (r : List V) : (if 6 ≤ (dgE c ++ r).length then some (V.agg (List.take 6 (dgE c ++ r))) else none) = some (.agg (dgE c)) := by rw [if_pos (by rw [List.length_append, dgE_len]; omega)]; rfl
theorem dg_cells (c : DeedG) : (V.agg (dgE c)).cells = some (dgE c) := rfl
theorem dg_store (c : DeedG) : setC (some 6) (AObj.cells [V.int .i64 0, V.int .i64 0, V.int .i64 0, V.int .i64 0, V.snil, V.snil] 57 none) 0 (dgE c) = some (.cells (dgE c) 57 none) := rfl
theorem dg_d0 (c : DeedG) : dropC (AObj.cells (dgE c) 57 none) 0 = some [.int .i64 c.kind, .int .i64 c.node, .int .i64 c.keep, .int .i64 c.turn, .imm c.b.length (bytesV c.b), .imm c.reach.length (bV c.reach)] := rfl
theorem dg_d1 (c : DeedG) : dropC (AObj.cells (dgE c) 57 none) 1 = some [.int .i64 c.node, .int .i64 c.keep, .int .i64 c.turn, .imm c.b.length (bytesV c.b), .imm c.reach.length (bV c.reach)] := rfl
theorem dg_d2 (c : DeedG) : dropC (AObj.cells (dgE c) 57 none) 2 = some [.int .i64 c.keep, .int .i64 c.turn, .imm c.b.length (bytesV c.b), .imm c.reach.length (bV c.reach)] := rfl
theorem dg_d3 (c : DeedG) : dropC (AObj.cells (dgE c) 57 none) 3 = some [.int .i64 c.turn, .imm c.b.length (bytesV c.b), .imm c.reach.length (bV c.reach)] := rfl
theorem dg_d4 (c : DeedG) : dropC (AObj.cells (dgE c) 57 none) 4 = some [.imm c.b.length (bytesV c.b), .imm c.reach.length (bV c.reach)] := rfl
theorem dg_d5 (c : DeedG) : dropC (AObj.cells (dgE c) 57 none) 5 = some [.imm c.reach.length (bV c.reach)] := rfl
/-- A row that belongs to no log. -/
structure KV (h : AHeap) (ow : Nat → Nat) (v : V) (row : List (List Nat)) : Prop where
  own : Own h 30 1 v (rowV row)
  z : ∀ x, idOf v = some x → ow x = 0
theorem KV.fr {h h' : AHeap} {ow ow' : Nat → Nat} {v : V} {row : List (List Nat)} (k : KV h ow v row) (f : LFr h h' ow ow') : KV h' ow' v row :=
  ⟨k.own.keep f.keep fun x hx hh => hh (k.z x hx), fun x hx => f.z x (k.own.lt x hx) (k.z x hx)⟩
theorem KV.append {h0 h : AHeap} {L : Nat} {room : Int} {n : Nat} {rs : Nat → NR} {dv nv pv : V} {ow : Nat → Nat} {s : LS} (w : LogS h0 h L room n rs dv nv pv ow s) {v : V} {row : List (List Nat)} (k : KV h ow v row) (hl : row.length ≤ 2 ^ 30) (hv : ∀ x, idOf v = some x → h0.n ≤ x) (b : List Nat) :
    ∃ v' h', aAppend Try.prog 54 54 v (.sl h.n 0 1 1) (h.push (.cells [.imm b.length (bytesV b)] 30 none)) = some (v', h') ∧ KV h' ow v' (row ++ [b]) ∧ Keep h h' (isId v) ∧ (∀ x, idOf v' = some x → h0.n ≤ x) ∧ LogS h0 h' L room n rs dv nv pv ow s := by
  obtain ⟨v', h2, ea, o2, k2, nw2⟩ := append_elemM (P := Try.prog) sl_54 (by decide) k.own (xs := [.imm b.length (bytesV b)]) rfl rfl (fun m hm => by
    change m * 1 = (rowV row).length + 1 at hm
    rw [rowV_len] at hm
    exact ⟨by simp only [lim]; omega, by simp only [lim]; omega⟩)
  have kn := w.keep.n
  refine ⟨v', h2, ea, ⟨by rw [rowV_snoc]; exact o2, fun x hx => ?_⟩, k2, fun x hx => ?_, ?_⟩
  · rcases nw2 with e | e
    · exact k.z x (by rw [← e]; exact hx)
    · exact w.ns.zero (e x hx)
  · rcases nw2 with e | e
    · exact hv x (by rw [← e]; exact hx)
    · have := e x hx; omega
  · have ne : ∀ x, isId v x → ow x = 0 := fun x hx => k.z x hx
    exact ⟨w.keep.trans k2 fun x hx hh => by have := hv x hh; omega, w.new, w.owL, (k2.get L w.lt (fun hh => by have := ne L hh; rw [w.owL] at this; cases this)).trans w.get,
      w.dk.keep k2 fun x hx hh => by have := ne x hh; have := w.owd x hx; omega, w.nk.keep k2 fun x hx hh => by have := ne x hh; have := w.own_ x hx; omega, w.pk.keep k2 fun x hx hh => by have := ne x hh; have := w.owp x hx; omega, w.owd, w.own_, w.owp, w.ns.on k2 fun x hx => by rw [ne x hx]; decide, w.rok, w.rl⟩
theorem appL_ep {room : Int} {n : Nat} {rc : Nat → Bool} {b : List Nat} {s : LS} : (appL room n rc b s).1.ep = s.ep := by
  unfold appL
  split
  · rfl
  split
  · rfl
  split
  · rfl
  split <;> rfl
set_option maxHeartbeats 4000000 in
set_option maxRecDepth 20000 in
theorem slogStays (n : Nat) (hn : n < 256) (ds : List DeedG) (hd : ds.length ≤ 2 ^ 47) (hb : ∀ d ∈ ds, (∀ x ∈ d.b, x < 256) ∧ d.reach.length ≤ 2 ^ 47) (h : AHeap) : SCalls Try.prog 8 [.int .u8 (n : Int), .imm ds.length (ds.flatMap dgE)] h (fun r h' => r = .bool true) := by
  have hm1 : (n : Int).tmod 4 = ((n % 4 : Nat) : Int) := by rw [Int.tmod_eq_emod_of_nonneg (by omega)]; omega
  have wu : IntKind.u8.wrap ((n % 4 : Nat) : Int) = ((n % 4 : Nat) : Int) := by rw [IntKind.wrap_u8]; omega
  have wi : IntKind.i64.wrap ((n % 4 : Nat) : Int) = ((n % 4 : Nat) : Int) := Go.IntWalk.i64_in _ (by omega)
  have wm : IntKind.i64.wrap (2 * ((n % 4 : Nat) : Int)) = ((2 * (n % 4) : Nat) : Int) := by rw [Go.IntWalk.i64_in _ (by omega)]; omega
  have wa : IntKind.i64.wrap (1 + ((2 * (n % 4) : Nat) : Int)) = ((1 + 2 * (n % 4) : Nat) : Int) := by rw [Go.IntWalk.i64_in _ (by omega)]; omega
  have hN : 1 + 2 * (n % 4) = 1 ∨ 1 + 2 * (n % 4) = 3 ∨ 1 + 2 * (n % 4) = 5 ∨ 1 + 2 * (n % 4) = 7 := by omega
  refine SCalls.enterI (c := _) Try.func8 rfl (by kernel_rfl) (by simp) ?_
  simp only [wpA_region, wpA_seq, seqQ_normal, goI_out, goI_ops, opsA_nil, opsA_cons, stepA_assign, stepA_call, eval_const, absV_bool, List.map_nil]
  refine callI_pure cal23 (shown10 h) ?_
  simp only [wpA_region, wpA_seq, seqQ_normal, goI_out, goI_ops, opsA_nil, opsA_cons, stepA_move, stepA_assign, stepA_binOp, stepA_convert, stepA_call, thenV_some, thenC_some, eval_tmp, eval_const, put_some, enterF_zero, enterF_succ, aBin_add, aBin_mul, absV_int, Nat.reduceEqDiff, reduceCtorEq, List.map_cons, List.map_nil, if_true, if_false, aBin_rem (show (4 : Int) ≠ 0 by decide), hm1, aConv_int it_5 it_3, wi, wm, wa]
  generalize 1 + 2 * (n % 4) = N at hN ⊢
  refine callI_of cal24 (logNew h N hN 1048576 (by decide)) fun r1 h1 ⟨L, rs, dv, nv, ow, e1, w1⟩ => ?_
  subst e1
  have n0 : ((0 : Int) != 0) = false := rfl
  have hN10 : N ≤ 2 ^ 10 := by omega
  simp only [wpA_skip, wpA_region, wpA_seq, wpA_cond, wpA_block, wpA_loop, condI_false, seqQ_normal, goI_out, goI_ops, opsA_nil, opsA_cons, opsA_guardS, gvI_same, slotAt_zero, slotAt_succ, stepA_move, stepA_assign, stepA_pick, stepA_binOp, stepA_extract, thenV_some, pickV_false, extV_zero, extV_succ, eval_tmp, eval_const, put_some, enterF_succ, aBin_neq, ptr_nil_eql, absV_int, absV_bool, absV_pnil, absV_snil, bne_self_eq_false, Nat.reduceEqDiff, if_true, if_false, kt_51]
  refine SWp.loopG (α := Nat × (Nat → NR) × V × (Nat → Nat) × LS × V) (fun x f h' => f 1 = .imm ds.length (ds.flatMap dgE) ∧ f 5 = .bool true ∧ f 6 = .ptr L 0 ∧ f 8 = x.2.2.2.2.2 ∧ f 9 = .int .i64 (x.1 : Nat) ∧ x.1 ≤ 40 ∧ LogS h h' L 1048576 N x.2.1 dv nv x.2.2.1 x.2.2.2.1 x.2.2.2.2.1 ∧ KV h' x.2.2.2.1 x.2.2.2.2.2 x.2.2.2.2.1.row ∧ (∀ y, idOf x.2.2.2.2.2 = some y → h.n ≤ y) ∧ Safe N x.2.2.2.2.1 ∧ 0 ≤ x.2.2.2.2.1.ep ∧ x.2.2.2.2.1.ep ≤ x.1) (fun x => 40 - x.1) (0, rs, .snil, ow, newLS, .snil)
    ⟨rfl, rfl, rfl, rfl, rfl, Nat.zero_le _, w1, ⟨Own.snil _ _ _, fun x hx => (by cases hx)⟩, fun x hx => (by cases hx), Safe.start N _ (fun q hq k => rfl), Int.le_refl _, Int.le_refl _⟩ ?_
  rintro ⟨i, rs2, pv, ow2, s, kv⟩ f h2 ⟨f1, f5, f6, f8, f9, hi, w, kV, hkv, sf, he0, he1⟩
  simp only at f8 f9 hi w kV hkv sf he0 he1
  refine wpI_sound (by kernel_rfl) ?_
  by_cases hlt : i < ds.length ∧ i < 40
  · obtain ⟨hlt, hlt2⟩ := hlt
    have c1 : decide ((i : Int) < ((ds.length : Nat) : Int)) = true := decide_eq_true (by omega)
    have c2 : decide ((i : Int) < 40) = true := decide_eq_true (by omega)
    have hw : IntKind.i64.wrap ((i : Int) + 1) = ((i + 1 : Nat) : Int) := by rw [Go.IntWalk.i64_in _ (by omega)]; rfl
    have x1 := dg_ix hlt
    obtain ⟨hbd, hrd⟩ := hb _ (List.getElem_mem hlt)
    have ld := dg_ld
    have cc := dg_cells
    have st := dg_store
    have d0 := dg_d0
    have d1 := dg_d1
    have d2 := dg_d2
    have d3 := dg_d3
    have d4 := dg_d4
    have d5 := dg_d5
    generalize ds[i] = d at x1 hbd hrd
    have kP : Keep h2 (h2.push (.cells (dgE d) 57 none)) none_ := Keep.push _ _ _
    have w3 := w.on kP
    have kV3 := kV.fr (LFr.none ow2 kP)
    have gz : (h2.push (.cells (dgE d) 57 none)).get h2.n = .cells (dgE d) 57 none := get_push_new
    have oz : ow2 h2.n = 0 := w.ns.zero (Nat.le_refl _)
    have nz : h2.n < (h2.push (.cells (dgE d) 57 none)).n := Nat.lt_succ_self _
    have hrow40 := w.rl
    -- the end of a turn: the row is asked, and compared
    simp only [wpA_skip, wpA_region, wpA_seq, wpA_cond, wpA_block, condI_true, seqQ_normal, goI_out, goI_ops, opsA_nil, opsA_cons, opsA_guardS, gvI_same, slotAt_zero, slotAt_succ, stepA_move, stepA_assign, stepA_pick, stepA_alloc, stepA_load, stepA_store, stepA_binOp, stepA_fieldAddr, stepA_indexAddr, stepA_len, thenV_some, thenH_some, thenS_some, pickV_true, eval_tmp, eval_const, put_some, put_none, aBin_eql, aBin_lss, absV_int, absV_bool, aField_eq, fieldGo_ptr, aLoad_eq, loadGo_one, loadGo_row, aPlace_ptr, aPlace_at, aStore_eq, storeGo_ptr, aAlloc_eq, aLen_imm, get_push_new, set_push, Nat.reduceEqDiff, Option.map_some, Nat.add_zero, if_true, if_false, ft_57_0, kt_50, lt_3, lt_57, zc_57, zt_57, f1, f9, c1, c2, x1, ld, cc, st, gz, d0]
    generalize h2.push (.cells (dgE d) 57 none) = h3 at kP w3 kV3 gz nz ⊢
    by_cases k0 : d.kind = 0
    · have b0 : (d.kind == 0) = true := by simp [k0]
      simp only [wpA_region, wpA_seq, condI_true, goI_ops, opsA_cons, stepA_move, stepA_load, stepA_fieldAddr, stepA_call, thenV_some, eval_tmp, put_some, put_none, aField_eq, fieldGo_ptr, aLoad_eq, loadGo_one, aPlace_ptr, Nat.reduceEqDiff, List.map_cons, List.map_nil, Nat.zero_add, if_true, if_false, ft_57_4, ft_57_5, lt_30, lt_55, f6, b0, gz, d4, d5]
      refine callI_of cal25 (logAppend w3 hN10 d.b hbd d.reach (RVal.imm _ _ _) hrd) fun x h4 ⟨ex, rs4, pv4, ow4, w4, fr4⟩ => ?_
      subst ex
      obtain ⟨sf4, ok4, no4⟩ := sf.app (room := 1048576) (rc := rch d.reach) (b := d.b)
      have ep4 := appL_ep (room := 1048576) (n := N) (rc := rch d.reach) (b := d.b) (s := s)
      have kV4 := kV3.fr fr4
      have gz4 : h4.get h2.n = .cells (dgE d) 57 none := (fr4.keep.get h2.n nz (by rw [oz]; decide)).trans gz
      have len4 := row_len kV4.own
      generalize hA : (appL 1048576 N (rch d.reach) d.b s) = R at w4 sf4 ok4 no4 ep4 ⊢
      obtain ⟨s4, at4, e4⟩ := R
      simp only at w4 sf4 ok4 no4 ep4 ⊢
      by_cases hz : e4 = 0
      · obtain ⟨ha, hrow⟩ := ok4 hz
        subst hz
        subst ha
        have z1 : ((0 : Int) == 0) = true := rfl
        have z2 : (((s.row.length : Nat) : Int) != ((s.row.length : Nat) : Int)) = false := by simp
        obtain ⟨v5, h5, ea, kV5, k5, hkv5, w5⟩ := KV.append w4 kV4 (by omega) hkv d.b
        rw [← hrow] at kV5
        have lit := litRow h4 (.imm d.b.length (bytesV d.b)) rfl rfl
        simp only [wpA_skip, wpA_region, wpA_seq, wpA_cond, condI_true, condI_false, seqQ_normal, blkQ_normal, goI_out, goI_ops, opsA_nil, opsA_cons, stepA_move, stepA_assign, stepA_buildSlice, stepA_load, stepA_binOp, stepA_fieldAddr, stepA_extract, stepA_len, stepA_append, stepA_call, thenV_some, thenH_some, extV_zero, extV_succ, eval_tmp, eval_const, put_some, put_none, aBin_eql, aBin_neq, absV_int, aField_eq, fieldGo_ptr, aLoad_eq, loadGo_one, aPlace_ptr, bne_self_eq_false, beq_self_eq_true, Nat.reduceEqDiff, List.map_cons, List.map_nil, Nat.zero_add, if_true, if_false, ft_57_4, lt_30, f6, f8, len4, gz4, d4, lit, ea]
        refine callI_of cal27 (pRow10 w5) fun rv1 hA1 accA1 => ?_
        have wA1 := w5.on accA1.keep
        have KA1 := kV5.fr (LFr.none ow4 accA1.keep)
        have hlA1 := pLists accA1.own KA1.own (by have := w5.rl; omega) (by have := w5.rl; omega) (fun x hx => (w5.rok x hx).2) (fun x hx => (w5.rok x hx).2)
        rw [decide_eq_true rfl] at hlA1
        simp only [goI_ops, opsA_cons, stepA_move, stepA_call, eval_tmp, put_some, put_none, Nat.reduceEqDiff, List.map_cons, List.map_nil, if_true, if_false, f8]
        refine callI_pure cal30 hlA1 ?_
        simp only [wpA_skip, wpA_region, wpA_cond, condI_false, seqQ_normal, blkQ_normal, endI_mk, andThen_normal, goI_out, goI_ops, opsA_nil, opsA_cons, stepA_move, stepA_assign, stepA_binOp, stepA_unOp, thenV_some, eval_tmp, eval_const, put_some, put_none, aBin_add, aUn_not, absV_int, Nat.reduceEqDiff, if_true, if_false, Bool.not_true, f9, hw]
        exact hid_mk ⟨(i + 1, rs4, pv4, ow4, s4, v5), ⟨f1, f5, f6, rfl, rfl, by simp only; omega, wA1, KA1, hkv5, sf4, by simp only; omega, by simp only; omega⟩, by simp only; omega⟩
      · have z1 : (e4 == 0) = false := by simp [hz]
        rw [← no4 hz] at kV4
        simp only [wpA_skip, wpA_region, wpA_seq, wpA_cond, condI_false, seqQ_normal, blkQ_normal, goI_out, goI_ops, opsA_nil, opsA_cons, stepA_move, stepA_assign, stepA_binOp, stepA_extract, stepA_call, thenV_some, extV_zero, extV_succ, eval_tmp, eval_const, put_some, put_none, aBin_eql, absV_int, Nat.reduceEqDiff, List.map_cons, List.map_nil, if_true, if_false, f6, z1]
        refine callI_of cal27 (pRow10 w4) fun rv2 hA2 accA2 => ?_
        have wA2 := w4.on accA2.keep
        have KA2 := kV4.fr (LFr.none ow4 accA2.keep)
        have hlA2 := pLists accA2.own KA2.own (by have := w4.rl; omega) (by have := w4.rl; omega) (fun x hx => (w4.rok x hx).2) (fun x hx => (w4.rok x hx).2)
        rw [decide_eq_true rfl] at hlA2
        simp only [goI_ops, opsA_cons, stepA_move, stepA_call, eval_tmp, put_some, put_none, Nat.reduceEqDiff, List.map_cons, List.map_nil, if_true, if_false, f8]
        refine callI_pure cal30 hlA2 ?_
        simp only [wpA_skip, wpA_region, wpA_cond, condI_false, seqQ_normal, blkQ_normal, endI_mk, andThen_normal, goI_out, goI_ops, opsA_nil, opsA_cons, stepA_move, stepA_assign, stepA_binOp, stepA_unOp, thenV_some, eval_tmp, eval_const, put_some, put_none, aBin_add, aUn_not, absV_int, Nat.reduceEqDiff, if_true, if_false, Bool.not_true, f9, hw]
        exact hid_mk ⟨(i + 1, rs4, pv4, ow4, s4, kv), ⟨f1, f5, f6, f8, rfl, by simp only; omega, wA2, KA2, hkv, sf4, by simp only; omega, by simp only; omega⟩, by simp only; omega⟩
    have b0 : (d.kind == 0) = false := by simp [k0]
    by_cases k1 : d.kind = 1
    · have b1 : (d.kind == 1) = true := by simp [k1]
      simp only [wpA_region, wpA_seq, wpA_cond, condI_true, condI_false, seqQ_normal, goI_out, goI_ops, opsA_nil, opsA_cons, stepA_move, stepA_assign, stepA_load, stepA_binOp, stepA_fieldAddr, stepA_call, thenV_some, eval_tmp, eval_const, put_some, put_none, aBin_eql, absV_int, aField_eq, fieldGo_ptr, aLoad_eq, loadGo_one, aPlace_ptr, Nat.reduceEqDiff, List.map_cons, List.map_nil, Nat.zero_add, if_true, if_false, ft_57_5, lt_55, f6, b0, b1, gz, d5]
      refine callI_of cal26 (logOpen w3 ⟨he0, by omega⟩ hN10 d.reach (RVal.imm _ _ _) hrd) fun x h4 ⟨s4, e4, rs4, pv4, ow4, O4, ex, w4, ep4, fr4⟩ => ?_
      subst ex
      obtain ⟨sf4, ok4, no4⟩ := sf.open_ O4
      have kV4 := kV3.fr fr4
      have hrow4 := w4.rl
      have kn4 := w4.keep.n
      by_cases hz : e4 = 0
      · have hpre := ok4 hz
        subst hz
        have z1 : ((0 : Int) == 0) = true := rfl
        simp only [wpA_region, wpA_seq, wpA_cond, condI_true, seqQ_normal, goI_out, goI_ops, opsA_nil, opsA_cons, stepA_move, stepA_binOp, stepA_call, thenV_some, eval_tmp, eval_const, put_some, put_none, aBin_eql, absV_int, beq_self_eq_true, Nat.reduceEqDiff, List.map_cons, List.map_nil, if_true, if_false, f6]
        refine callI_of cal27 (pRow10 w4) fun rB h5 accB => ?_
        have w5 := w4.on accB.keep
        have kV5 := kV4.fr (LFr.none ow4 accB.keep)
        have hbg := pBegins accB.own kV5.own (by omega) (by omega) (fun x hx => (w4.rok x hx).2) (fun x hx => (w.rok x hx).2) hpre
        simp only [wpA_region, wpA_seq, seqQ_normal, goI_out, goI_ops, opsA_nil, opsA_cons, stepA_move, stepA_assign, stepA_call, eval_tmp, put_some, put_none, Nat.reduceEqDiff, List.map_cons, List.map_nil, if_true, if_false, f8]
        refine callI_pure cal28 hbg ?_
        have kV6 : KV h5 ow4 rB s4.row := ⟨accB.own, fun x hx => w4.ns.zero (accB.new x hx)⟩
        have hkv6 : ∀ y, idOf rB = some y → h.n ≤ y := fun y hy => by have := accB.new y hy; omega
        simp only [wpA_skip, wpA_region, wpA_seq, wpA_cond, condI_false, seqQ_normal, blkQ_normal, goI_out, goI_ops, opsA_nil, opsA_cons, stepA_move, stepA_assign, stepA_unOp, stepA_call, thenV_some, eval_tmp, put_some, put_none, aUn_not, Nat.reduceEqDiff, List.map_cons, List.map_nil, if_true, if_false, Bool.not_true, f6]
        refine callI_of cal27 (pRow10 w5) fun rv3 hA3 accA3 => ?_
        have wA3 := w5.on accA3.keep
        have KA3 := kV6.fr (LFr.none ow4 accA3.keep)
        have hlA3 := pLists accA3.own KA3.own (by have := w5.rl; omega) (by have := w5.rl; omega) (fun x hx => (w5.rok x hx).2) (fun x hx => (w5.rok x hx).2)
        rw [decide_eq_true rfl] at hlA3
        simp only [goI_ops, opsA_cons, stepA_move, stepA_call, eval_tmp, put_some, put_none, Nat.reduceEqDiff, List.map_cons, List.map_nil, if_true, if_false, f8]
        refine callI_pure cal30 hlA3 ?_
        simp only [wpA_skip, wpA_region, wpA_cond, condI_false, seqQ_normal, blkQ_normal, endI_mk, andThen_normal, goI_out, goI_ops, opsA_nil, opsA_cons, stepA_move, stepA_assign, stepA_binOp, stepA_unOp, thenV_some, eval_tmp, eval_const, put_some, put_none, aBin_add, aUn_not, absV_int, Nat.reduceEqDiff, if_true, if_false, Bool.not_true, f9, hw]
        exact hid_mk ⟨(i + 1, rs4, pv4, ow4, s4, rB), ⟨f1, f5, f6, rfl, rfl, by simp only; omega, wA3, KA3, hkv6, sf4, by simp only; omega, by simp only; omega⟩, by simp only; omega⟩
      · have z1 : (e4 == 0) = false := by simp [hz]
        rw [← no4 hz] at kV4
        simp only [wpA_skip, wpA_region, wpA_seq, wpA_cond, condI_false, seqQ_normal, blkQ_normal, goI_out, goI_ops, opsA_nil, opsA_cons, stepA_move, stepA_binOp, stepA_call, thenV_some, eval_tmp, eval_const, put_some, put_none, aBin_eql, absV_int, Nat.reduceEqDiff, List.map_cons, List.map_nil, if_true, if_false, f6, z1]
        refine callI_of cal27 (pRow10 w4) fun rv4 hA4 accA4 => ?_
        have wA4 := w4.on accA4.keep
        have KA4 := kV4.fr (LFr.none ow4 accA4.keep)
        have hlA4 := pLists accA4.own KA4.own (by have := w4.rl; omega) (by have := w4.rl; omega) (fun x hx => (w4.rok x hx).2) (fun x hx => (w4.rok x hx).2)
        rw [decide_eq_true rfl] at hlA4
        simp only [goI_ops, opsA_cons, stepA_move, stepA_call, eval_tmp, put_some, put_none, Nat.reduceEqDiff, List.map_cons, List.map_nil, if_true, if_false, f8]
        refine callI_pure cal30 hlA4 ?_
        simp only [wpA_skip, wpA_region, wpA_cond, condI_false, seqQ_normal, blkQ_normal, endI_mk, andThen_normal, goI_out, goI_ops, opsA_nil, opsA_cons, stepA_move, stepA_assign, stepA_binOp, stepA_unOp, thenV_some, eval_tmp, eval_const, put_some, put_none, aBin_add, aUn_not, absV_int, Nat.reduceEqDiff, if_true, if_false, Bool.not_true, f9, hw]
        exact hid_mk ⟨(i + 1, rs4, pv4, ow4, s4, kv), ⟨f1, f5, f6, f8, rfl, by simp only; omega, wA4, KA4, hkv, sf4, by simp only; omega, by simp only; omega⟩, by simp only; omega⟩
    · have b1 : (d.kind == 1) = false := by simp [k1]
      simp only [wpA_region, wpA_seq, wpA_cond, condI_false, seqQ_normal, goI_out, goI_ops, opsA_nil, opsA_cons, stepA_move, stepA_assign, stepA_load, stepA_binOp, stepA_fieldAddr, stepA_call, thenV_some, eval_tmp, eval_const, put_some, put_none, aBin_eql, absV_int, aField_eq, fieldGo_ptr, aLoad_eq, loadGo_one, aPlace_ptr, Nat.reduceEqDiff, List.map_cons, List.map_nil, Nat.zero_add, if_true, if_false, ft_57_1, ft_57_2, ft_57_3, lt_3, f6, b0, b1, gz, d1, d2, d3]
      refine callI_of cal29 (logCrash w3 hN10 d.node d.keep d.turn) fun x h4 ⟨rs4, ow4, w4, fr4⟩ => ?_
      have kV4 := kV3.fr fr4
      simp only [wpA_region, wpA_seq, seqQ_normal, blkQ_normal, goI_out, goI_ops, opsA_nil, opsA_cons, stepA_move, stepA_call, eval_tmp, put_some, put_none, Nat.reduceEqDiff, List.map_cons, List.map_nil, if_true, if_false, f6]
      refine callI_of cal27 (pRow10 w4) fun rv5 hA5 accA5 => ?_
      have wA5 := w4.on accA5.keep
      have KA5 := kV4.fr (LFr.none ow4 accA5.keep)
      have hlA5 := pLists accA5.own KA5.own (by have := w4.rl; omega) (by have := w4.rl; omega) (fun x hx => (w4.rok x hx).2) (fun x hx => (w4.rok x hx).2)
      rw [decide_eq_true rfl] at hlA5
      simp only [goI_ops, opsA_cons, stepA_move, stepA_call, eval_tmp, put_some, put_none, Nat.reduceEqDiff, List.map_cons, List.map_nil, if_true, if_false, f8]
      refine callI_pure cal30 hlA5 ?_
      simp only [wpA_skip, wpA_region, wpA_cond, condI_false, seqQ_normal, blkQ_normal, endI_mk, andThen_normal, goI_out, goI_ops, opsA_nil, opsA_cons, stepA_move, stepA_assign, stepA_binOp, stepA_unOp, thenV_some, eval_tmp, eval_const, put_some, put_none, aBin_add, aUn_not, absV_int, Nat.reduceEqDiff, if_true, if_false, Bool.not_true, f9, hw]
      exact hid_mk ⟨(i + 1, rs4, pv, ow4, s, kv), ⟨f1, f5, f6, f8, rfl, by simp only; omega, wA5, KA5, hkv, sf, he0, by simp only; omega⟩, by simp only; omega⟩
  have hend : decide ((i : Int) < ((ds.length : Nat) : Int)) = false ∨ (decide ((i : Int) < ((ds.length : Nat) : Int)) = true ∧ decide ((i : Int) < 40) = false) := by
    simp only [decide_eq_false_iff_not, decide_eq_true_eq]
    omega
  rcases hend with c1 | ⟨c1, c2⟩
  · simp only [wpA_region, wpA_seq, wpA_cond, wpA_exit, wpA_ret, condI_false, seqQ_normal, seqQ_exit, blkQ_exit, endI_mk, goE, andThen_exit, goI_out, goI_ops, opsA_nil, opsA_cons, opsA_guardS, gvI_ft, slotAt_zero, slotAt_succ, stepA_move, stepA_assign, stepA_pick, stepA_binOp, stepA_len, thenV_some, pickV_false, eval_tmp, eval_const, put_some, aBin_lss, absV_bool, aLen_imm, Nat.reduceEqDiff, if_true, if_false, kt_50, f1, f5, f9, c1, retA_ret, Try.results8, resultsA_1]
    exact hid_mk rfl
  · simp only [wpA_region, wpA_seq, wpA_cond, wpA_exit, wpA_ret, condI_false, seqQ_normal, seqQ_exit, blkQ_exit, endI_mk, goE, andThen_exit, goI_out, goI_ops, opsA_nil, opsA_cons, opsA_guardS, gvI_same, slotAt_zero, slotAt_succ, stepA_move, stepA_assign, stepA_pick, stepA_binOp, stepA_len, thenV_some, pickV_true, eval_tmp, eval_const, put_some, aBin_lss, absV_int, absV_bool, aLen_imm, Nat.reduceEqDiff, if_true, if_false, kt_50, f1, f5, f9, c1, c2, retA_ret, Try.results8, resultsA_1]
    exact hid_mk rfl
end Go.Proofs.Ytlbekgogjlchjaa.Pk
