/-
  What functions of the program do, told of abstract states. Conditions: as each theorem says.
-/
import Derived.Test.YtlbekgogjlchjaaMbC
namespace Go.Proofs.Ytlbekgogjlchjaa.Pk
open Go Go.Proofs Go.Proofs.Ytlbekgogjlchjaa.Ab
set_option linter.unusedVariables false
set_option linter.unusedSimpArgs false
structure DeedS where
  kind : Int
  epoch : Int
  at_ : Int
  keep : Int
  turn : Int
  b : List Nat
def dsE (d : DeedS) : List V := [.int .i64 d.kind, .int .i64 d.epoch, .int .i64 d.at_, .int .i64 d.keep, .int .i64 d.turn, .imm d.b.length (bytesV d.b)]
theorem dsE_len (d : DeedS) : (dsE d).length = 6 := rfl
theorem ds_ix {l : List DeedS} {k : Nat} (hk : k < l.length) : aIndexAddr Try.prog 22 (.imm l.length (l.flatMap dsE)) (.int .i64 (k : Int)) = some (.at (dsE l[k] ++ (l.drop (k + 1)).flatMap dsE)) := rows_ix dsE_len hk ss_22
theorem ds_ld (c : DeedS) (r : List V) : (if 6 ≤ (dsE c ++ r).length then some (V.agg (List.take 6 (dsE c ++ r))) else none) = some (.agg (dsE c)) := by rw [if_pos (by rw [List.length_append, dsE_len]; omega)]; rfl
theorem ds_cells (c : DeedS) : (V.agg (dsE c)).cells = some (dsE c) := rfl
theorem ds_store (c : DeedS) : setC (some 6) (AObj.cells [V.int .i64 0, V.int .i64 0, V.int .i64 0, V.int .i64 0, V.int .i64 0, V.snil] 32 none) 0 (dsE c) = some (.cells (dsE c) 32 none) := rfl
theorem ds_d0 (c : DeedS) : dropC (AObj.cells (dsE c) 32 none) 0 = some [.int .i64 c.kind, .int .i64 c.epoch, .int .i64 c.at_, .int .i64 c.keep, .int .i64 c.turn, .imm c.b.length (bytesV c.b)] := rfl
theorem ds_d1 (c : DeedS) : dropC (AObj.cells (dsE c) 32 none) 1 = some [.int .i64 c.epoch, .int .i64 c.at_, .int .i64 c.keep, .int .i64 c.turn, .imm c.b.length (bytesV c.b)] := rfl
theorem ds_d2 (c : DeedS) : dropC (AObj.cells (dsE c) 32 none) 2 = some [.int .i64 c.at_, .int .i64 c.keep, .int .i64 c.turn, .imm c.b.length (bytesV c.b)] := rfl
theorem ds_d3 (c : DeedS) : dropC (AObj.cells (dsE c) 32 none) 3 = some [.int .i64 c.keep, .int .i64 c.turn, .imm c.b.length (bytesV c.b)] := rfl
theorem ds_d4 (c : DeedS) : dropC (AObj.cells (dsE c) 32 none) 4 = some [.int .i64 c.turn, .imm c.b.length (bytesV c.b)] := rfl
theorem ds_d5 (c : DeedS) : dropC (AObj.cells (dsE c) 32 none) 5 = some [.imm c.b.length (bytesV c.b)] := rfl
theorem cl_d1 (c : Cel) : dropC (AObj.cells (celE c) 39 none) 1 = some [.int .i64 c.epoch, .imm c.bytes.length (bytesV c.bytes)] := rfl
theorem cl_d2 (c : Cel) : dropC (AObj.cells (celE c) 39 none) 2 = some [.imm c.bytes.length (bytesV c.bytes)] := rfl
theorem cl_st (c : Cel) : setC (some 3) (AObj.cells [.int .i64 0, .int .i64 0, .snil] 39 none) 0 (celE c) = some (.cells (celE c) 39 none) := rfl
theorem cl_cc (c : Cel) : (V.agg (celE c)).cells = some (celE c) := rfl
/-- What stands by while a node takes a step. -/
theorem NStep.get {h h' : AHeap} {r r' : NR} (st : NStep h h' r r') {z : Nat} (hz : z < h.n) (nz : ¬ NP r z) : h'.get z = h.get z ∧ ¬ NP r' z ∧ z < h'.n :=
  ⟨st.2.2.1.get z hz nz, fun hh => by rcases st.2.2.2 z hh with h1 | h1; exact nz h1; omega, Nat.lt_of_lt_of_le hz st.2.2.1.n⟩
theorem readI_ok {s : NSt} (w : NOk s) (at_ : Int) : ∀ n ∈ (readI s at_).1.bytes, n < 256 := by
  unfold readI
  cases hg : kget s.2.1 at_ with
  | none => intro n hn; cases hn
  | some c => exact (kget_ok w hg).2.1
set_option maxHeartbeats 4000000 in
set_option maxRecDepth 20000 in
theorem slotStays (ds : List DeedS) (hd : ds.length ≤ 2 ^ 47) (hb : ∀ d ∈ ds, (∀ x ∈ d.b, x < 256) ∧ d.b.length ≤ 2 ^ 47) (h : AHeap) : SCalls Try.prog 3 [.imm ds.length (ds.flatMap dsE)] h (fun r h' => r = .bool true) := by
  refine SCalls.enterI (c := _) Try.func3 rfl (by kernel_rfl) (by simp) ?_
  simp only [wpA_region, wpA_seq, seqQ_normal, goI_out, goI_ops, opsA_nil, opsA_cons, stepA_assign, stepA_call, eval_const, absV_bool, List.map_nil]
  refine callI_pure cal13 (shown8 h) ?_
  simp only [wpA_region, wpA_seq, seqQ_normal, goI_out, goI_ops, opsA_nil, opsA_cons, stepA_assign, stepA_call, eval_tmp, eval_const, put_some, enterF_succ, absV_int, Nat.reduceEqDiff, List.map_cons, List.map_nil, if_true, if_false]
  refine callI_of cal14 (dNew h 1048576 (by decide) (by decide)) fun r1 h1 ⟨e1, d1, k1⟩ => ?_
  subst e1
  simp only [wpA_skip, wpA_region, wpA_seq, wpA_cond, condI_false, seqQ_normal, goI_out, goI_ops, opsA_nil, opsA_cons, opsA_guardS, gvI_same, slotAt_zero, slotAt_succ, stepA_move, stepA_assign, stepA_pick, stepA_binOp, stepA_extract, stepA_call, thenV_some, pickV_false, extV_zero, extV_succ, eval_tmp, eval_const, put_some, enterF_succ, aBin_neq, ptr_nil_eql, absV_int, absV_bool, absV_pnil, bne_self_eq_false, Nat.reduceEqDiff, List.map_cons, List.map_nil, if_true, if_false, kt_24]
  refine callI_of cal15 (nbOpen (l := []) d1 NOk.nil (by simp)) fun r2 h2 ⟨r0, e2, n0, i0, _, _⟩ => ?_
  subst e2
  simp only [wpA_region, wpA_seq, wpA_block, wpA_loop, seqQ_normal, goI_out, goI_ops, opsA_nil, opsA_cons, stepA_assign, eval_tmp, eval_const, put_some, enterF_succ, absV_int, Nat.reduceEqDiff, if_true, if_false]
  refine SWp.loopG (α := Nat × NR × Pays) (fun x f h' => f 0 = .imm ds.length (ds.flatMap dsE) ∧ f 3 = .bool true ∧ f 4 = .ptr x.2.1.i 0 ∧ f 6 = .ptr x.2.1.a 0 ∧ f 7 = .int .i64 (x.1 : Nat) ∧ x.1 ≤ 60 ∧ NdB h' 1048576 x.2.1 x.2.2) (fun x => 60 - x.1) (0, r0, [])
    ⟨rfl, rfl, by rw [i0]; rfl, rfl, rfl, Nat.zero_le _, n0⟩ ?_
  rintro ⟨i, r, l⟩ f h' ⟨f0, f3, f4, f6, f7, hi, d⟩
  simp only at f4 f6 f7 hi d
  refine wpI_sound (by kernel_rfl) ?_
  by_cases hlt : i < ds.length ∧ i < 60
  · obtain ⟨hlt, hlt2⟩ := hlt
    have c1 : decide ((i : Int) < ((ds.length : Nat) : Int)) = true := decide_eq_true (by omega)
    have c2 : decide ((i : Int) < 60) = true := decide_eq_true (by omega)
    have hw : IntKind.i64.wrap ((i : Int) + 1) = ((i + 1 : Nat) : Int) := by rw [Go.IntWalk.i64_in _ (by omega)]; rfl
    have x1 := ds_ix hlt
    obtain ⟨hbd, hbl⟩ := hb _ (List.getElem_mem hlt)
    have ld := ds_ld
    have cc := ds_cells
    have st := ds_store
    have D0 := ds_d0
    have D1 := ds_d1
    have D2 := ds_d2
    have D3 := ds_d3
    have D4 := ds_d4
    have D5 := ds_d5
    have C1 := cl_d1
    have C2 := cl_d2
    have CS := cl_st
    have CC := cl_cc
    generalize ds[i] = z at x1 hbd hbl
    have kP : Keep h' (h'.push (.cells (dsE z) 32 none)) none_ := Keep.push _ _ _
    have dP := d.keep kP (fun _ _ hh => hh)
    have gz : (h'.push (.cells (dsE z) 32 none)).get h'.n = .cells (dsE z) 32 none := get_push_new
    have nz : ¬ NP r h'.n := fun hh => by have := d.lt _ hh; omega
    have lz : h'.n < (h'.push (.cells (dsE z) 32 none)).n := Nat.lt_succ_self _
    simp only [wpA_skip, wpA_region, wpA_seq, wpA_cond, wpA_block, condI_true, seqQ_normal, goI_out, goI_ops, opsA_nil, opsA_cons, opsA_guardS, gvI_same, slotAt_zero, slotAt_succ, stepA_move, stepA_pick, stepA_alloc, stepA_load, stepA_store, stepA_binOp, stepA_fieldAddr, stepA_indexAddr, stepA_len, thenV_some, thenH_some, thenS_some, pickV_true, eval_tmp, eval_const, put_some, put_none, aBin_eql, aBin_lss, absV_int, absV_bool, aField_eq, fieldGo_ptr, aLoad_eq, loadGo_one, loadGo_row, aPlace_ptr, aPlace_at, aStore_eq, storeGo_ptr, aAlloc_eq, aLen_imm, get_push_new, set_push, Nat.reduceEqDiff, reduceCtorEq, Option.map_some, Nat.add_zero, if_true, if_false, ft_32_0, kt_22, lt_3, lt_32, zc_32, zt_32, f0, f7, c1, c2, x1, ld, cc, st, gz, D0]
    generalize h'.push (.cells (dsE z) 32 none) = hP at kP dP gz lz ⊢
    generalize h'.n = zb at gz nz lz ⊢
    by_cases k2 : z.kind = 2
    · have b1 : (z.kind == 2) = true := by simp [k2]
      simp only [wpA_region, condI_true, goI_ops, opsA_cons, stepA_move, stepA_load, stepA_fieldAddr, stepA_call, thenV_some, eval_tmp, put_some, put_none, aField_eq, fieldGo_ptr, aLoad_eq, loadGo_one, aPlace_ptr, Nat.reduceEqDiff, List.map_cons, List.map_nil, Nat.zero_add, if_true, if_false, ft_32_1, lt_3, f6, b1, gz, D1]
      refine callI_of cal16 (nbSealI dP z.epoch) fun x h1 ⟨out, ex, _, r1, d1, st1⟩ => ?_
      subst ex
      generalize (nseal 1048576 z.epoch l).1 = l1 at d1
      obtain ⟨gz1, nz1, lz1⟩ := st1.get lz nz
      rw [gz] at gz1
      obtain ⟨sa, si, _, _⟩ := st1
      rw [← sa] at f6
      rw [← si] at f4
      simp only [wpA_region, wpA_seq, seqQ_normal, goI_out, goI_ops, opsA_nil, opsA_cons, stepA_move, stepA_call, eval_tmp, put_some, put_none, Nat.reduceEqDiff, List.map_cons, List.map_nil, if_true, if_false, f6]
      refine callI_pure cal18 (ndEpoch d1.nd0) ?_
      simp only [wpA_region, wpA_seq, seqQ_normal, goI_out, goI_ops, opsA_nil, opsA_cons, stepA_move, stepA_assign, stepA_call, eval_tmp, put_some, put_none, Nat.reduceEqDiff, List.map_cons, List.map_nil, if_true, if_false, f6]
      refine callI_pure cal19 (ndTail d1.nd0) ?_
      simp only [wpA_region, wpA_seq, seqQ_normal, goI_out, goI_ops, opsA_nil, opsA_cons, stepA_move, stepA_assign, stepA_load, stepA_fieldAddr, stepA_call, thenV_some, eval_tmp, put_some, put_none, aField_eq, fieldGo_ptr, aLoad_eq, loadGo_one, aPlace_ptr, Nat.reduceEqDiff, List.map_cons, List.map_nil, Nat.zero_add, if_true, if_false, ft_32_2, lt_3, f6, gz1, D2]
      refine callI_pure cal20 (ndRead d1.nd0 z.at_) ?_
      have hcb := readI_ok d1.ok z.at_
      generalize hR : readI (redoL l1) z.at_ = R at hcb
      obtain ⟨c, e⟩ := R
      simp only at hcb
      have k2 : Keep h1 (h1.push (.cells (celE c) 39 none)) none_ := Keep.push _ _ _
      have d2 := d1.keep k2 (fun _ _ hh => hh)
      have gz2 : (h1.push (.cells (celE c) 39 none)).get zb = .cells (dsE z) 32 none := (get_push_lt lz1).trans gz1
      have ga2 : (h1.push (.cells (celE c) 39 none)).get h1.n = .cells (celE c) 39 none := get_push_new
      have na2 : ¬ NP r1 h1.n := fun hh => by have := d1.lt _ hh; omega
      have la2 : h1.n < (h1.push (.cells (celE c) 39 none)).n := Nat.lt_succ_self _
      have lz2 : zb < (h1.push (.cells (celE c) 39 none)).n := Nat.lt_trans lz1 la2
      simp only [wpA_region, wpA_seq, seqQ_normal, goI_out, goI_ops, opsA_nil, opsA_cons, stepA_move, stepA_assign, stepA_alloc, stepA_load, stepA_store, stepA_fieldAddr, stepA_extract, stepA_call, thenV_some, thenH_some, thenS_some, extV_zero, extV_succ, eval_tmp, put_some, put_none, aField_eq, fieldGo_ptr, aLoad_eq, loadGo_one, aPlace_ptr, aStore_eq, storeGo_ptr, aAlloc_eq, get_push_new, set_push, Nat.reduceEqDiff, List.map_cons, List.map_nil, Option.map_some, Nat.zero_add, if_true, if_false, ft_32_3, ft_32_4, lt_3, zc_39, zt_39, f4, CS, CC, gz2, D3, D4]
      generalize h1.push (.cells (celE c) 39 none) = h2 at k2 d2 gz2 ga2 la2 lz2 ⊢
      generalize h1.n = ab at ga2 na2 la2 ⊢
      refine callI_of cal21 (nbCrash d2 z.keep z.turn) fun x h3 ⟨v3, safe3, dk3, iv3, k3⟩ => ?_
      have gz3 := (k3.get zb lz2 nz1).trans gz2
      have ga3 := (k3.get ab la2 na2).trans ga2
      have hpn : ∀ x, Parts r1.i v3 x → NP r1 x := fun x hh => by
        rcases hh with hh | hh
        · exact Parts.np (.inl hh)
        · exact Parts.np (.inr (by rw [← iv3]; exact hh))
      simp only [wpA_region, wpA_seq, seqQ_normal, goI_out, goI_ops, opsA_nil, opsA_cons, stepA_move, stepA_call, eval_tmp, put_some, put_none, Nat.reduceEqDiff, List.map_cons, List.map_nil, if_true, if_false, f4]
      refine callI_of cal15 (nbOpen dk3 d1.ok d1.pl) fun x h4 ⟨r4, ex, d4, i4, k4, _⟩ => ?_
      subst ex
      have k3n := k3.n
      have gz4 := (k4.get zb (by omega) (fun hh => nz1 (hpn _ hh))).trans gz3
      have ga4 := (k4.get ab (by omega) (fun hh => na2 (hpn _ hh))).trans ga3
      have k4n := k4.n
      have hR4 := ndRead d4.nd0 z.at_
      rw [hR] at hR4
      simp only [wpA_region, wpA_seq, seqQ_normal, goI_out, goI_ops, opsA_nil, opsA_cons, stepA_move, stepA_assign, stepA_load, stepA_fieldAddr, stepA_call, thenV_some, eval_tmp, put_some, put_none, aField_eq, fieldGo_ptr, aLoad_eq, loadGo_one, aPlace_ptr, Nat.reduceEqDiff, List.map_cons, List.map_nil, Nat.zero_add, if_true, if_false, ft_32_2, lt_3, f6, gz4, D2]
      refine callI_pure cal20 hR4 ?_
      have k5 : Keep h4 (h4.push (.cells (celE c) 39 none)) none_ := Keep.push _ _ _
      have d5 := d4.keep k5 (fun _ _ hh => hh)
      have ga5 : (h4.push (.cells (celE c) 39 none)).get ab = .cells (celE c) 39 none := (get_push_lt (by omega)).trans ga4
      have gb5 : (h4.push (.cells (celE c) 39 none)).get h4.n = .cells (celE c) 39 none := get_push_new
      have q1 : ((redoL l1).1 != (redoL l1).1) = false := by simp
      have q2 : (topI ((redoL l1).2.1.map (·.2.1)) != topI ((redoL l1).2.1.map (·.2.1))) = false := by simp
      have q3 : (e != e) = false := by simp
      have q4 : (c.epoch != c.epoch) = false := by simp
      have q5 := strB_eq hcb hcb
      rw [decide_eq_true rfl] at q5
      simp only [wpA_region, wpA_seq, seqQ_normal, goI_out, goI_ops, opsA_nil, opsA_cons, stepA_move, stepA_assign, stepA_alloc, stepA_store, stepA_extract, stepA_call, thenV_some, thenH_some, thenS_some, extV_zero, extV_succ, eval_tmp, put_some, put_none, aStore_eq, storeGo_ptr, aAlloc_eq, get_push_new, set_push, Nat.reduceEqDiff, List.map_cons, List.map_nil, Option.map_some, if_true, if_false, zc_39, zt_39, f6, CS, CC]
      generalize h4.push (.cells (celE c) 39 none) = h5 at d5 ga5 gb5 ⊢
      refine callI_pure cal18 (ndEpoch d5.nd0) ?_
      simp only [goI_ops, opsA_cons, opsA_guardS, gvI_same, slotAt_zero, slotAt_succ, stepA_move, stepA_binOp, stepA_call, thenV_some, eval_tmp, put_some, put_none, aBin_neq, bne_self_eq_false, Nat.reduceEqDiff, List.map_cons, List.map_nil, if_true, if_false, f6]
      refine callI_pure cal19 (ndTail d5.nd0) ?_
      simp only [wpA_skip, wpA_region, wpA_cond, condI_false, seqQ_normal, blkQ_normal, endI_mk, andThen_normal, goI_out, goI_ops, opsA_nil, opsA_cons, opsA_guardS, gvI_same, slotAt_zero, slotAt_succ, stepA_move, stepA_assign, stepA_pick, stepA_load, stepA_binOp, stepA_convert, stepA_fieldAddr, thenV_some, thenC_some, pickV_false, eval_tmp, eval_const, put_some, put_none, aBin_add, aBin_neq, aBin_str_neq, absV_int, absV_bool, aField_eq, fieldGo_ptr, aLoad_eq, loadGo_one, aPlace_ptr, bne_self_eq_false, beq_self_eq_true, Nat.reduceEqDiff, Nat.zero_add, if_true, if_false, Bool.not_true, ft_39_1, ft_39_2, lt_3, lt_30, f7, ga5, gb5, C1, C2, convB, hw]
      exact hid_mk ⟨(i + 1, r4, l1), ⟨f0, f3, f4.trans (by rw [i4]), rfl, rfl, by simp only; omega, d5⟩, by simp only; omega⟩
    · have b1 : (z.kind == 2) = false := by simp [k2]
      simp only [wpA_region, condI_false, goI_ops, opsA_cons, stepA_move, stepA_load, stepA_fieldAddr, stepA_call, thenV_some, eval_tmp, put_some, put_none, aField_eq, fieldGo_ptr, aLoad_eq, loadGo_one, aPlace_ptr, Nat.reduceEqDiff, List.map_cons, List.map_nil, Nat.zero_add, if_true, if_false, ft_32_1, ft_32_2, ft_32_5, lt_3, lt_30, f6, b1, gz, D1, D2, D5]
      refine callI_of cal17 (nbWrite dP z.epoch z.at_ z.b hbd (by omega)) fun x h1 ⟨ex, r1, d1, st1⟩ => ?_
      subst ex
      generalize (nw 1048576 z.epoch z.at_ z.b l).1 = l1 at d1
      obtain ⟨gz1, nz1, lz1⟩ := st1.get lz nz
      rw [gz] at gz1
      obtain ⟨sa, si, _, _⟩ := st1
      rw [← sa] at f6
      rw [← si] at f4
      simp only [wpA_region, wpA_seq, seqQ_normal, goI_out, goI_ops, opsA_nil, opsA_cons, stepA_move, stepA_call, eval_tmp, put_some, put_none, Nat.reduceEqDiff, List.map_cons, List.map_nil, if_true, if_false, f6]
      refine callI_pure cal18 (ndEpoch d1.nd0) ?_
      simp only [wpA_region, wpA_seq, seqQ_normal, goI_out, goI_ops, opsA_nil, opsA_cons, stepA_move, stepA_assign, stepA_call, eval_tmp, put_some, put_none, Nat.reduceEqDiff, List.map_cons, List.map_nil, if_true, if_false, f6]
      refine callI_pure cal19 (ndTail d1.nd0) ?_
      simp only [wpA_region, wpA_seq, seqQ_normal, goI_out, goI_ops, opsA_nil, opsA_cons, stepA_move, stepA_assign, stepA_load, stepA_fieldAddr, stepA_call, thenV_some, eval_tmp, put_some, put_none, aField_eq, fieldGo_ptr, aLoad_eq, loadGo_one, aPlace_ptr, Nat.reduceEqDiff, List.map_cons, List.map_nil, Nat.zero_add, if_true, if_false, ft_32_2, lt_3, f6, gz1, D2]
      refine callI_pure cal20 (ndRead d1.nd0 z.at_) ?_
      have hcb := readI_ok d1.ok z.at_
      generalize hR : readI (redoL l1) z.at_ = R at hcb
      obtain ⟨c, e⟩ := R
      simp only at hcb
      have k2 : Keep h1 (h1.push (.cells (celE c) 39 none)) none_ := Keep.push _ _ _
      have d2 := d1.keep k2 (fun _ _ hh => hh)
      have gz2 : (h1.push (.cells (celE c) 39 none)).get zb = .cells (dsE z) 32 none := (get_push_lt lz1).trans gz1
      have ga2 : (h1.push (.cells (celE c) 39 none)).get h1.n = .cells (celE c) 39 none := get_push_new
      have na2 : ¬ NP r1 h1.n := fun hh => by have := d1.lt _ hh; omega
      have la2 : h1.n < (h1.push (.cells (celE c) 39 none)).n := Nat.lt_succ_self _
      have lz2 : zb < (h1.push (.cells (celE c) 39 none)).n := Nat.lt_trans lz1 la2
      simp only [wpA_region, wpA_seq, seqQ_normal, goI_out, goI_ops, opsA_nil, opsA_cons, stepA_move, stepA_assign, stepA_alloc, stepA_load, stepA_store, stepA_fieldAddr, stepA_extract, stepA_call, thenV_some, thenH_some, thenS_some, extV_zero, extV_succ, eval_tmp, put_some, put_none, aField_eq, fieldGo_ptr, aLoad_eq, loadGo_one, aPlace_ptr, aStore_eq, storeGo_ptr, aAlloc_eq, get_push_new, set_push, Nat.reduceEqDiff, List.map_cons, List.map_nil, Option.map_some, Nat.zero_add, if_true, if_false, ft_32_3, ft_32_4, lt_3, zc_39, zt_39, f4, CS, CC, gz2, D3, D4]
      generalize h1.push (.cells (celE c) 39 none) = h2 at k2 d2 gz2 ga2 la2 lz2 ⊢
      generalize h1.n = ab at ga2 na2 la2 ⊢
      refine callI_of cal21 (nbCrash d2 z.keep z.turn) fun x h3 ⟨v3, safe3, dk3, iv3, k3⟩ => ?_
      have gz3 := (k3.get zb lz2 nz1).trans gz2
      have ga3 := (k3.get ab la2 na2).trans ga2
      have hpn : ∀ x, Parts r1.i v3 x → NP r1 x := fun x hh => by
        rcases hh with hh | hh
        · exact Parts.np (.inl hh)
        · exact Parts.np (.inr (by rw [← iv3]; exact hh))
      simp only [wpA_region, wpA_seq, seqQ_normal, goI_out, goI_ops, opsA_nil, opsA_cons, stepA_move, stepA_call, eval_tmp, put_some, put_none, Nat.reduceEqDiff, List.map_cons, List.map_nil, if_true, if_false, f4]
      refine callI_of cal15 (nbOpen dk3 d1.ok d1.pl) fun x h4 ⟨r4, ex, d4, i4, k4, _⟩ => ?_
      subst ex
      have k3n := k3.n
      have gz4 := (k4.get zb (by omega) (fun hh => nz1 (hpn _ hh))).trans gz3
      have ga4 := (k4.get ab (by omega) (fun hh => na2 (hpn _ hh))).trans ga3
      have k4n := k4.n
      have hR4 := ndRead d4.nd0 z.at_
      rw [hR] at hR4
      simp only [wpA_region, wpA_seq, seqQ_normal, goI_out, goI_ops, opsA_nil, opsA_cons, stepA_move, stepA_assign, stepA_load, stepA_fieldAddr, stepA_call, thenV_some, eval_tmp, put_some, put_none, aField_eq, fieldGo_ptr, aLoad_eq, loadGo_one, aPlace_ptr, Nat.reduceEqDiff, List.map_cons, List.map_nil, Nat.zero_add, if_true, if_false, ft_32_2, lt_3, f6, gz4, D2]
      refine callI_pure cal20 hR4 ?_
      have k5 : Keep h4 (h4.push (.cells (celE c) 39 none)) none_ := Keep.push _ _ _
      have d5 := d4.keep k5 (fun _ _ hh => hh)
      have ga5 : (h4.push (.cells (celE c) 39 none)).get ab = .cells (celE c) 39 none := (get_push_lt (by omega)).trans ga4
      have gb5 : (h4.push (.cells (celE c) 39 none)).get h4.n = .cells (celE c) 39 none := get_push_new
      have q1 : ((redoL l1).1 != (redoL l1).1) = false := by simp
      have q2 : (topI ((redoL l1).2.1.map (·.2.1)) != topI ((redoL l1).2.1.map (·.2.1))) = false := by simp
      have q3 : (e != e) = false := by simp
      have q4 : (c.epoch != c.epoch) = false := by simp
      have q5 := strB_eq hcb hcb
      rw [decide_eq_true rfl] at q5
      simp only [wpA_region, wpA_seq, seqQ_normal, goI_out, goI_ops, opsA_nil, opsA_cons, stepA_move, stepA_assign, stepA_alloc, stepA_store, stepA_extract, stepA_call, thenV_some, thenH_some, thenS_some, extV_zero, extV_succ, eval_tmp, put_some, put_none, aStore_eq, storeGo_ptr, aAlloc_eq, get_push_new, set_push, Nat.reduceEqDiff, List.map_cons, List.map_nil, Option.map_some, if_true, if_false, zc_39, zt_39, f6, CS, CC]
      generalize h4.push (.cells (celE c) 39 none) = h5 at d5 ga5 gb5 ⊢
      refine callI_pure cal18 (ndEpoch d5.nd0) ?_
      simp only [goI_ops, opsA_cons, opsA_guardS, gvI_same, slotAt_zero, slotAt_succ, stepA_move, stepA_binOp, stepA_call, thenV_some, eval_tmp, put_some, put_none, aBin_neq, bne_self_eq_false, Nat.reduceEqDiff, List.map_cons, List.map_nil, if_true, if_false, f6]
      refine callI_pure cal19 (ndTail d5.nd0) ?_
      simp only [wpA_skip, wpA_region, wpA_cond, condI_false, seqQ_normal, blkQ_normal, endI_mk, andThen_normal, goI_out, goI_ops, opsA_nil, opsA_cons, opsA_guardS, gvI_same, slotAt_zero, slotAt_succ, stepA_move, stepA_assign, stepA_pick, stepA_load, stepA_binOp, stepA_convert, stepA_fieldAddr, thenV_some, thenC_some, pickV_false, eval_tmp, eval_const, put_some, put_none, aBin_add, aBin_neq, aBin_str_neq, absV_int, absV_bool, aField_eq, fieldGo_ptr, aLoad_eq, loadGo_one, aPlace_ptr, bne_self_eq_false, beq_self_eq_true, Nat.reduceEqDiff, Nat.zero_add, if_true, if_false, Bool.not_true, ft_39_1, ft_39_2, lt_3, lt_30, f7, ga5, gb5, C1, C2, convB, hw]
      exact hid_mk ⟨(i + 1, r4, l1), ⟨f0, f3, f4.trans (by rw [i4]), rfl, rfl, by simp only; omega, d5⟩, by simp only; omega⟩
  have hend : decide ((i : Int) < ((ds.length : Nat) : Int)) = false ∨ (decide ((i : Int) < ((ds.length : Nat) : Int)) = true ∧ decide ((i : Int) < 60) = false) := by
    simp only [decide_eq_false_iff_not, decide_eq_true_eq]
    omega
  rcases hend with c1 | ⟨c1, c2⟩
  · simp only [wpA_region, wpA_seq, wpA_cond, wpA_exit, wpA_ret, condI_false, seqQ_normal, seqQ_exit, blkQ_exit, endI_mk, goE, andThen_exit, goI_out, goI_ops, opsA_nil, opsA_cons, opsA_guardS, gvI_ft, slotAt_zero, slotAt_succ, stepA_move, stepA_assign, stepA_pick, stepA_binOp, stepA_len, thenV_some, pickV_false, eval_tmp, eval_const, put_some, aBin_lss, absV_bool, aLen_imm, Nat.reduceEqDiff, reduceCtorEq, if_true, if_false, kt_22, f0, f3, f7, c1, retA_ret, Try.results3, resultsA_1]
    exact hid_mk rfl
  · simp only [wpA_region, wpA_seq, wpA_cond, wpA_exit, wpA_ret, condI_false, seqQ_normal, seqQ_exit, blkQ_exit, endI_mk, goE, andThen_exit, goI_out, goI_ops, opsA_nil, opsA_cons, opsA_guardS, gvI_same, slotAt_zero, slotAt_succ, stepA_move, stepA_assign, stepA_pick, stepA_binOp, stepA_len, thenV_some, pickV_true, eval_tmp, eval_const, put_some, aBin_lss, absV_int, absV_bool, aLen_imm, Nat.reduceEqDiff, reduceCtorEq, if_true, if_false, kt_22, f0, f3, f7, c1, c2, retA_ret, Try.results3, resultsA_1]
    exact hid_mk rfl
end Go.Proofs.Ytlbekgogjlchjaa.Pk
