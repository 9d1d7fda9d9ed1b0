/-
  What functions of the program do, told of abstract states. Conditions: as each theorem says.
-/
import Derived.Test.YtlbekgogjlchjaaAbD
import Derived.Test.YtlbekgogjlchjaaTyB
import Derived.Test.YtlbekgogjlchjaaAbD
namespace Go.Proofs.Ytlbekgogjlchjaa.Pk
open Go Go.Proofs Go.Proofs.Ytlbekgogjlchjaa.Ab
set_option linter.unusedVariables false
set_option linter.unusedSimpArgs false

/-! ### A disk: its room, its bytes, how many of them are safe -/
structure IsDisk (h : AHeap) (p : V) (room : Int) (bs : List Int) (safe : Int) (i : Nat) (v : V) : Prop where
  p : p = .ptr i 0
  lt : i < h.n
  get : h.get i = .cells [.int .i64 room, v, .int .i64 safe] 73 none
  own : Own h 5 1 v (bs.map (.int .u8))
  ne : idOf v ≠ some i
  len : (bs.length : Int) ≤ room
  most : room ≤ 1048576
  safe0 : 0 ≤ safe
  safe1 : safe ≤ bs.length
/-- What belongs to a disk. -/
def Parts (i : Nat) (v : V) : Nat → Prop := fun k => k = i ∨ idOf v = some k
theorem IsDisk.keep {h h' : AHeap} {p : V} {room safe : Int} {bs : List Int} {i : Nat} {v : V} (d : IsDisk h p room bs safe i v) {own : Nat → Prop} (hk : Keep h h' own) (hne : ∀ k, Parts i v k → ¬ own k) : IsDisk h' p room bs safe i v :=
  ⟨d.p, Nat.lt_of_lt_of_le d.lt hk.n, (hk.get i d.lt (hne i (.inl rfl))).trans d.get, d.own.keep hk fun k hk => hne k (.inr hk), d.ne, d.len, d.most, d.safe0, d.safe1⟩
theorem IsDisk.keepN {h h' : AHeap} {p : V} {room safe : Int} {bs : List Int} {i : Nat} {v : V} (d : IsDisk h p room bs safe i v) (hk : Keep h h' none_) : IsDisk h' p room bs safe i v := d.keep hk fun _ _ h => h
theorem one_u8 (l : List Int) : (l.map (V.int .u8)).all (·.one) = true := by
  rw [List.all_eq_true]; intro x hx
  obtain ⟨n, _, rfl⟩ := List.mem_map.1 hx
  rfl

theorem dNew (h : AHeap) (room : Int) (h0 : 0 ≤ room) (h1 : room ≤ 1048576) :
    SCalls Try.prog 14 [.int .i64 room] h (fun r h' => r = .tuple [.ptr h.n 0, .int .i64 0] ∧ IsDisk h' (.ptr h.n 0) room [] 0 h.n .snil ∧ Keep h h' none_) := by
  refine SCalls.enterI (c := _) Try.func14 rfl (by kernel_rfl) (by simp) ?_
  have c1 : decide (room < 0) = false := by simp; omega
  have c2 : decide (1048576 < room) = false := by simp; omega
  simp only [wpA_skip, wpA_region, wpA_seq, wpA_cond, wpA_ret, condI_false, seqQ_normal, endI_mk, goI_out, goI_ops, opsA_nil, opsA_cons, opsA_guardS, gvI_same, slotAt_zero, slotAt_succ, stepA_move, stepA_assign, stepA_pick, stepA_box, stepA_build, stepA_binOp, thenV_some, thenH_some, pickV_false, eval_tmp, eval_const, put_some, enterF_zero, enterF_succ, aBin_lss, aBin_gtr, absV_int, absV_bool, absV_pnil, cells_int, cells_agg, setAll_nil, setAll_cons, aBox_eq, aBuild_go, aFill_nil, aFill_cons, fillGo_some, buildGo_struct, List.getElem?_cons_zero, Nat.reduceEqDiff, Nat.reduceAdd, Nat.reduceLeDiff, reduceCtorEq, List.map_cons, List.map_nil, Option.map_some, Nat.zero_add, List.length_cons, List.length_nil, List.set_cons_zero, and_self, if_true, if_false, pl_73, zc_73, c1, c2, retA_ret, Try.results14, resultsA_2]
  exact hid_mk ⟨rfl, ⟨rfl, by rw [push_n]; omega, get_push_new, Own.snil _ _ _, by simp [idOf], by simpa using h0, h1, Int.le_refl _, by simp⟩, Keep.push _ _ _⟩

theorem dSync (h : AHeap) (p : V) (room : Int) (bs : List Int) (safe : Int) (i : Nat) (v : V) (d : IsDisk h p room bs safe i v) :
    SCalls Try.prog 48 [p] h (fun r h' => IsDisk h' p room bs bs.length i v ∧ Keep h h' (Parts i v)) := by
  obtain ⟨rfl, hi, hg, ho, hne, d1, d2, d3, d4⟩ := d
  refine SCalls.enterI (c := _) Try.func48 rfl (by kernel_rfl) (by simp) ?_
  have hlen := ho.length (by omega) Try.prog kt_30
  have e1 : (bs.map (V.int .u8)).length / 1 = bs.length := by simp
  rw [e1] at hlen
  simp only [wpA_region, wpA_seq, wpA_cond, condI_true, seqQ_normal, endI_mk, goI_out, goI_ops, opsA_nil, opsA_cons, stepA_move, stepA_load, stepA_store, stepA_nilCheck, stepA_binOp, stepA_fieldAddr, stepA_len, thenV_some, thenS_some, nilV_ptr, eval_tmp, eval_const, put_some, enterF_zero, enterF_succ, ptr_nil_neq, absV_pnil, cells_int, one_int, all_nil, all_cons, aField_eq, fieldGo_ptr, aLoad_eq, loadGo_one, aPlace_ptr, dropC_cells, aStore_eq, storeGo_ptr, setC_row, setAll_nil, setAll_cons, Nat.reduceEqDiff, Nat.reduceAdd, Nat.reduceLeDiff, reduceCtorEq, Option.map_some, Nat.zero_add, List.length_cons, List.length_nil, List.drop_zero, List.drop_succ_cons, List.set_cons_zero, List.set_cons_succ, if_true, if_false, Bool.and_self, Nat.le_refl, ft_73_1, ft_73_2, kt_24, lt_30, zt_3, hg, hlen, retA_normal, Try.results48, resultsA_0]
  exact hid_mk ⟨⟨rfl, hi, get_set_same, ho.keep (Keep.set _ _ _) (fun k hk hki => hne (by rw [hk, hki])), hne, d1, d2, by omega, by simp⟩, (Keep.set _ _ _).mono fun k hk => .inl hk⟩
end Go.Proofs.Ytlbekgogjlchjaa.Pk
namespace Go.Proofs.Ytlbekgogjlchjaa.Pk
open Go Go.Proofs Go.Proofs.Ytlbekgogjlchjaa.Ab
set_option linter.unusedVariables false
set_option linter.unusedSimpArgs false

theorem len_map1 (bs : List Int) : (bs.map (V.int .u8)).length / 1 = bs.length := by simp
theorem IsDisk.aLen {h : AHeap} {p : V} {room safe : Int} {bs : List Int} {i : Nat} {v : V} (d : IsDisk h p room bs safe i v) : aLen Try.prog 30 v h = some (.int .i64 bs.length) := by
  have := d.own.length (by omega) Try.prog kt_30
  rwa [len_map1] at this

/-- What a call makes of a disk: its parts are old, or new ones. -/
def NewP (h : AHeap) (i : Nat) (v v' : V) : Prop := idOf v' = idOf v ∨ ∀ k, idOf v' = some k → h.n ≤ k

theorem dAppend (h : AHeap) (p : V) (room : Int) (bs : List Int) (safe : Int) (i : Nat) (v : V) (d : IsDisk h p room bs safe i v) (x : V) (ns : List Int)
    (hx : aSrc Try.prog 1 30 x h = some (ns.length, ns.map (.int .u8))) (hxl : aLen Try.prog 30 x h = some (.int .i64 ns.length)) :
    SCalls Try.prog 129 [p, x] h (fun r h' => if (bs.length + ns.length : Int) ≤ room
      then r = .int .i64 0 ∧ ∃ v', IsDisk h' p room (bs ++ ns) safe i v' ∧ NewP h i v v' ∧ Keep h h' (Parts i v)
      else r = .int .i64 3 ∧ h' = h) := by
  have hlen := d.aLen
  obtain ⟨rfl, hi, hg, ho, hne, d1, d2, d3, d4⟩ := d
  refine SCalls.enterI (c := _) Try.func129 rfl (by kernel_rfl) (by simp) ?_
  have w1 : IntKind.i64.wrap (room - (bs.length : Int)) = room - bs.length := by rw [Go.IntWalk.i64_in _ (by omega)]
  by_cases hc : (bs.length + ns.length : Int) ≤ room
  · have c1 : decide (room - (bs.length : Int) < (ns.length : Int)) = false := by simp; omega
    obtain ⟨v', h', ha, ho', hk', hn'⟩ := append_own (P := Try.prog) (tx := 30) sl_30 (by decide) ho hx (by simp) (by simp [lim]; omega) (by simp [lim]; omega)
    have hg' : h'.get i = .cells [.int .i64 room, v, .int .i64 safe] 73 none := (hk'.get i hi hne).trans hg
    have hn2 : idOf v' ≠ some i := by
      rcases hn' with h1 | h1
      · rw [h1]; exact hne
      · intro h2
        have := h1 i h2
        omega
    obtain ⟨hcells, hone⟩ : v'.cells = some [v'] ∧ v'.one = true := by
      rcases ho' with ⟨rfl | rfl, _⟩ | ⟨i2, len2, cap2, c2, ex2, rfl, _⟩ <;> exact ⟨rfl, rfl⟩
    simp only [wpA_region, wpA_seq, wpA_draw, seqQ_normal, goI_out, goI_ops, opsA_nil, opsA_cons, stepA_assign, eval_const, absV_int]
    refine SWp.drawnI [] (by kernel_rfl) (by kernel_rfl) (by kernel_rfl) ?_
    simp only [gI_nil, gI_cons, goI_rest, ggI_true, wantedA_none, wantedA_some, wantS_some, wantV_ff, idleOp, Bool.or_false, List.contains_nil, wpA_skip, wpA_region, wpA_seq, wpA_cond, wpA_ret, condI_false, seqQ_normal, endI_mk, goI_out, goI_ops, opsA_nil, opsA_cons, slotAt_zero, slotAt_succ, stepA_move, stepA_assign, stepA_pick, stepA_load, stepA_store, stepA_nilCheck, stepA_binOp, stepA_fieldAddr, stepA_len, stepA_append, thenV_some, thenH_some, thenS_some, pickV_false, nilV_ptr, eval_tmp, eval_const, put_some, put_none, enterF_zero, enterF_succ, aBin_sub, aBin_gtr, ptr_nil_eql, absV_int, absV_bool, absV_pnil, all_nil, all_cons, aField_eq, fieldGo_ptr, aLoad_eq, loadGo_one, aPlace_ptr, dropC_cells, aStore_eq, storeGo_ptr, setC_row, setAll_nil, setAll_cons, Nat.reduceEqDiff, Nat.reduceAdd, Nat.reduceLeDiff, reduceCtorEq, Option.map_some, Nat.add_zero, Nat.zero_add, Nat.zero_le, List.length_cons, List.length_nil, List.drop_zero, List.drop_succ_cons, List.set_cons_zero, List.set_cons_succ, if_true, if_false, Bool.and_self, ft_73_0, ft_73_1, kt_24, lt_3, lt_30, zt_30, hg, hlen, hxl, w1, c1, ha, hg', hcells, hone, retA_ret, Try.results129, resultsA_1]
    refine hid_mk ?_
    rw [if_pos hc]
    refine ⟨rfl, v', ⟨rfl, ?_, get_set_same, ?_, hn2, ?_, d2, d3, ?_⟩, hn', ?_⟩
    · rw [set_n]; exact Nat.lt_of_lt_of_le hi hk'.n
    · rw [List.map_append]
      exact ho'.keep (Keep.set _ _ _) fun k hk hki => hn2 (by rw [hk, hki])
    · simp; omega
    · simp; omega
    · exact (hk'.mono fun k hk => .inr hk).trans (Keep.set _ _ _) fun k _ hk => .inl hk
  · have c1 : decide (room - (bs.length : Int) < (ns.length : Int)) = true := by simp; omega
    simp only [wpA_region, wpA_seq, wpA_draw, seqQ_normal, goI_out, goI_ops, opsA_nil, opsA_cons, stepA_assign, eval_const, absV_int]
    refine SWp.drawnI [] (by kernel_rfl) (by kernel_rfl) (by kernel_rfl) ?_
    simp only [gI_nil, gI_cons, goI_rest, ggI_true, wantedA_none, wantedA_some, wantS_some, wantV_ff, idleOp, Bool.or_false, List.contains_nil, wpA_region, wpA_seq, wpA_cond, wpA_ret, condI_true, seqQ_normal, seqQ_ret, endI_mk, goI_out, goI_ops, opsA_nil, opsA_cons, slotAt_zero, slotAt_succ, stepA_move, stepA_assign, stepA_pick, stepA_load, stepA_nilCheck, stepA_binOp, stepA_fieldAddr, stepA_len, thenV_some, pickV_false, nilV_ptr, eval_tmp, eval_const, put_some, enterF_zero, enterF_succ, aBin_sub, aBin_gtr, ptr_nil_eql, absV_int, absV_bool, absV_pnil, aField_eq, fieldGo_ptr, aLoad_eq, loadGo_one, aPlace_ptr, dropC_cells, Nat.reduceEqDiff, Nat.reduceAdd, Nat.reduceLeDiff, reduceCtorEq, Nat.add_zero, Nat.zero_add, Nat.zero_le, List.length_cons, List.length_nil, List.drop_zero, List.drop_succ_cons, if_true, if_false, ft_73_0, ft_73_1, kt_24, lt_3, lt_30, hg, hlen, hxl, w1, c1, retA_ret, Try.results129, resultsA_1]
    refine hid_mk ?_
    rw [if_neg hc]
    exact ⟨rfl, rfl⟩

set_option maxRecDepth 10000 in
theorem dBytesOwn (h : AHeap) (p : V) (room : Int) (bs : List Int) (safe : Int) (i : Nat) (v : V) (d : IsDisk h p room bs safe i v) :
    SCalls Try.prog 22 [p] h (fun r h' => r = .sl h.n 0 bs.length bs.length ∧ Own h' 5 1 r (bs.map (.int .u8)) ∧ Keep h h' none_) := by
  have hlen := d.aLen
  obtain ⟨rfl, hi, hg, ho, hne, d1, d2, d3, d4⟩ := d
  refine SCalls.enterI (c := _) Try.func22 rfl (by kernel_rfl) (by simp) ?_
  obtain ⟨n, e1, e2, e3⟩ := own_lenOf ho (by omega)
  obtain rfl : n = bs.length := by simpa using e2.symm
  obtain ⟨h1, h2, q1, q2, q3, q4, q5⟩ := own_clone (P := Try.prog) (tx := 30) (k := .i64) (k' := .i64) (h := h) sl_30 e1 (fun h' hk => by
    have ho' := ho.keepN hk
    obtain ⟨m, f1, f2, f3⟩ := own_lenOf ho' (by omega)
    rw [e1] at f1
    obtain rfl : bs.length = m := Option.some.inj f1
    exact f3) (one_u8 bs) (by simp) (by simp; omega) (by omega)
  have hg1 : h1.get i = .cells [.int .i64 room, v, .int .i64 safe] 73 none := (q4.get i hi (by simp [none_])).trans hg
  simp only [wpA_skip, wpA_region, wpA_seq, wpA_cond, wpA_ret, condI_false, seqQ_normal, endI_mk, goI_out, goI_ops, opsA_nil, opsA_cons, stepA_move, stepA_assign, stepA_load, stepA_nilCheck, stepA_binOp, stepA_makeSlice, stepA_fieldAddr, stepA_len, stepA_copy, thenV_some, thenH_some, nilV_ptr, eval_tmp, eval_const, put_some, enterF_zero, enterF_succ, ptr_nil_eql, absV_pnil, absV_snil, aField_eq, fieldGo_ptr, aLoad_eq, loadGo_one, aPlace_ptr, dropC_cells, Nat.reduceEqDiff, Nat.reduceAdd, Nat.reduceLeDiff, reduceCtorEq, Nat.zero_add, List.length_cons, List.length_nil, List.drop_zero, List.drop_succ_cons, if_true, if_false, ft_73_1, kt_24, lt_30, hg, hlen, q1, hg1, q2, retA_ret, Try.results22, resultsA_1]
  exact hid_mk ⟨rfl, q3, q5⟩
theorem dBytes (h : AHeap) (p : V) (room : Int) (bs : List Int) (safe : Int) (i : Nat) (v : V) (d : IsDisk h p room bs safe i v) :
    Pure Try.prog 22 [p] h (.imm bs.length (bs.map (.int .u8))) := by
  refine Pure.of (Clo.imm (CloL.map fun _ _ => Clo.int _ _)) ((dBytesOwn h p room bs safe i v d).mono fun r h' ⟨e1, e2, e3⟩ => ?_)
  obtain ⟨h2, c, k⟩ := Cast.own e2 (n := bs.length) (by simp) (by omega)
  refine ⟨h2, c, e3.trans k fun j hj hs => ?_⟩
  subst e1
  simp [isId, idOf] at hs
  omega
end Go.Proofs.Ytlbekgogjlchjaa.Pk
namespace Go.Proofs.Ytlbekgogjlchjaa.Pk
open Go Go.Proofs Go.Proofs.Ytlbekgogjlchjaa.Ab
set_option linter.unusedVariables false
set_option linter.unusedSimpArgs false

theorem one_of_own {h : AHeap} {e : TypeId} {sz : Nat} {v : V} {cs : List V} (ho : Own h e sz v cs) : v.cells = some [v] ∧ v.one = true := by
  rcases ho with ⟨rfl | rfl, _⟩ | ⟨i2, len2, cap2, c2, ex2, rfl, _⟩ <;> exact ⟨rfl, rfl⟩

set_option maxRecDepth 10000 in
theorem dKeep (h : AHeap) (p : V) (room : Int) (bs : List Int) (safe : Int) (i : Nat) (v : V) (d : IsDisk h p room bs safe i v) (n : Nat) (hn : n ≤ bs.length) :
    SCalls Try.prog 47 [p, .int .i64 n] h (fun r h' => ∃ v', IsDisk h' p room (bs.take n) (min safe n) i v' ∧ idOf v' = idOf v ∧ Keep h h' (Parts i v)) := by
  obtain ⟨rfl, hi, hg, ho, hne, d1, d2, d3, d4⟩ := d
  refine SCalls.enterI (c := _) Try.func47 rfl (by kernel_rfl) (by simp) ?_
  obtain ⟨s, h1, q1, q2, ⟨cs', q3, q4, q5⟩, q6⟩ := own_clear (P := Try.prog) (k := .i64) sl_30 (by decide) rfl ho (n := n) (by simpa using hn)
  have hg1 : h1.get i = .cells [.int .i64 room, v, .int .i64 safe] 73 none := (q6.get i hi hne).trans hg
  obtain ⟨v2, p1, p2, p3⟩ := own_first (P := Try.prog) (k := .i64) (k2 := .i64) sl_30 (by decide) q5 (n := n) (by rw [q4]; simpa using hn) (by rw [q4]; simp [unk]; omega)
  obtain ⟨u1, u2⟩ := one_of_own p2
  simp only [wpA_region, wpA_seq, seqQ_normal, endI_mk, goI_out, goI_ops, opsA_nil, opsA_cons, stepA_move, stepA_load, stepA_store, stepA_nilCheck, stepA_slice, stepA_fieldAddr, stepA_clear, stepA_min, thenV_some, thenH_some, thenS_some, nilV_ptr, eval_tmp, put_some, put_none, enterF_zero, enterF_succ, mmV_min, cells_int, one_int, all_nil, all_cons, aField_eq, fieldGo_ptr, aLoad_eq, loadGo_one, aPlace_ptr, dropC_cells, aStore_eq, storeGo_ptr, setC_row, setAll_nil, setAll_cons, get_set_same, set_set, Nat.reduceEqDiff, Nat.reduceAdd, Nat.reduceLeDiff, reduceCtorEq, Option.map_some, Option.map_none, Nat.zero_add, List.length_cons, List.length_nil, List.drop_zero, List.drop_succ_cons, List.set_cons_zero, List.set_cons_succ, if_true, if_false, Bool.and_self, Nat.le_refl, ft_73_1, ft_73_2, lt_3, lt_30, zt_3, zt_30, hg, q1, q2, hg1, p1, u1, u2, retA_normal, Try.results47, resultsA_0]
  refine hid_mk ⟨v2, ⟨rfl, ?_, get_set_same, ?_, by rw [p3]; exact hne, ?_, d2, by omega, ?_⟩, p3, ?_⟩
  · rw [set_n]; exact Nat.lt_of_lt_of_le hi q6.n
  · have := p2
    rw [q3, Nat.mul_one, ← List.map_take] at this
    exact this.keep (Keep.set _ _ _) fun k hk hki => hne (by rw [← p3, hk, hki])
  · rw [List.length_take]; omega
  · rw [List.length_take]; omega
  · exact (q6.mono fun k hk => .inr hk).trans (Keep.set _ _ _) fun k _ hk => .inl hk

/-- A crash's last byte. -/
def lastX (turn b : Int) : Int := bXor .u8 b (IntKind.u8.wrap (1 * 2 ^ (min turn.toNat IntKind.u8.bits)))
def torn (turn : Int) (bs : List Int) : List Int := bs.set (bs.length - 1) (lastX turn (bs.getLastD 0))
def crashed (bs : List Int) (safe keep turn : Int) : List Int :=
  let kept := min (max keep 0) (bs.length - safe)
  if 0 < kept ∧ 0 ≤ turn ∧ turn < 8 then torn turn (bs.take (safe + kept).toNat) else bs.take (safe + kept).toNat

set_option maxRecDepth 10000 in
theorem dCrash (h : AHeap) (p : V) (room : Int) (bs : List Int) (safe : Int) (i : Nat) (v : V) (d : IsDisk h p room bs safe i v) (keep turn : Int) :
    SCalls Try.prog 21 [p, .int .i64 keep, .int .i64 turn] h (fun r h' => ∃ v', IsDisk h' p room (crashed bs safe keep turn) (crashed bs safe keep turn).length i v' ∧ idOf v' = idOf v ∧ Keep h h' (Parts i v)) := by
  have hlen := d.aLen
  have d0 := d
  obtain ⟨rfl, hi, hg, ho, hne, d1, d2, d3, d4⟩ := d
  refine SCalls.enterI (c := _) Try.func21 rfl (by kernel_rfl) (by simp) ?_
  have w1 : IntKind.i64.wrap ((bs.length : Int) - safe) = bs.length - safe := by rw [Go.IntWalk.i64_in _ (by omega)]
  generalize hkept : min (max keep 0) ((bs.length : Int) - safe) = kept
  have k0 : 0 ≤ kept := by omega
  have k1 : kept ≤ bs.length - safe := by omega
  have w2 : IntKind.i64.wrap (safe + kept) = (((safe + kept).toNat : Nat) : Int) := by rw [Go.IntWalk.i64_in _ (by omega)]; omega
  simp only [wpA_skip, wpA_region, wpA_seq, wpA_cond, wpA_draw, condI_false, seqQ_normal, goI_out, goI_ops, opsA_nil, opsA_cons, stepA_move, stepA_binOp, thenV_some, eval_tmp, eval_const, put_some, enterF_zero, enterF_succ, ptr_nil_eql, absV_pnil, Nat.reduceEqDiff, if_true, if_false, kt_24]
  refine SWp.drawnI [] (by kernel_rfl) (by kernel_rfl) (by kernel_rfl) ?_
  simp only [gI_nil, gI_cons, goI_rest, ggI_true, wantedA_none, idleOp, Bool.or_false, List.contains_nil, wpA_region, wpA_seq, seqQ_normal, goI_out, goI_ops, opsA_cons, stepA_move, stepA_assign, stepA_load, stepA_nilCheck, stepA_binOp, stepA_fieldAddr, stepA_len, stepA_min, stepA_max, stepA_call, thenV_some, nilV_ptr, eval_tmp, eval_const, put_some, enterF_zero, enterF_succ, aBin_add, aBin_sub, mmV_min, mmV_max, absV_int, aField_eq, fieldGo_ptr, aLoad_eq, loadGo_one, aPlace_ptr, dropC_cells, Nat.reduceEqDiff, Nat.reduceAdd, Nat.reduceLeDiff, reduceCtorEq, List.map_cons, List.map_nil, Nat.zero_add, List.length_cons, List.length_nil, List.drop_zero, List.drop_succ_cons, if_true, if_false, ft_73_1, ft_73_2, lt_3, lt_30, hg, hlen, w1, hkept, w2]
  refine callI_of cal47 (dKeep h _ room bs safe i v d0 (safe + kept).toNat (by omega)) fun r h1 ⟨v1, e1, e2, e3⟩ => ?_
  have hm : min safe (((safe + kept).toNat : Nat) : Int) = safe := by omega
  rw [hm] at e1
  have hcr : crashed bs safe keep turn = if 0 < kept ∧ 0 ≤ turn ∧ turn < 8 then torn turn (bs.take (safe + kept).toNat) else bs.take (safe + kept).toNat := by
    unfold crashed
    simp only [hkept]
  have fin : ∀ h2 cs, IsDisk h2 (.ptr i 0) room cs safe i v1 → Keep h h2 (Parts i v) → crashed bs safe keep turn = cs → ∀ (r : V) h3, (IsDisk h3 (.ptr i 0) room cs cs.length i v1 ∧ Keep h2 h3 (Parts i v1)) → ∃ v', IsDisk h3 (.ptr i 0) room (crashed bs safe keep turn) (crashed bs safe keep turn).length i v' ∧ idOf v' = idOf v ∧ Keep h h3 (Parts i v) := fun h2 cs a1 a2 a3 r h3 ⟨b1, b2⟩ => by
    rw [a3]
    exact ⟨v1, b1, e2, a2.trans b2 fun k _ hk => by unfold Parts at hk ⊢; rwa [e2] at hk⟩
  have noT : ¬ (0 < kept ∧ 0 ≤ turn ∧ turn < 8) → crashed bs safe keep turn = bs.take (safe + kept).toNat := fun hn => by rw [hcr, if_neg hn]
  by_cases c1 : 0 < kept
  · by_cases c2 : 0 ≤ turn
    · by_cases c3 : turn < 8
      · have hl1 := e1.aLen
        have hlt : (bs.take (safe + kept).toNat).length = (safe + kept).toNat := by rw [List.length_take]; omega
        generalize hbs : bs.take (safe + kept).toNat = cs at e1 hl1 hlt
        have hpos : 0 < cs.length := by omega
        have w3 : IntKind.i64.wrap ((cs.length : Int) - 1) = ((cs.length - 1 : Nat) : Int) := by rw [Go.IntWalk.i64_in _ (by omega)]; omega
        have hsh : ∀ xo yo, aBin Try.prog .shl 5 xo yo (.int .u8 1) (.int .i64 turn) = some (.int .u8 (IntKind.u8.wrap (1 * 2 ^ (min turn.toNat IntKind.u8.bits)))) := fun _ _ => aBin_shl c2
        obtain ⟨j, x1, x2, ⟨rr, x3⟩, x4⟩ := own_elem (P := Try.prog) (t := 30) (kk := .i64) ss_30 e1.own (k := cs.length - 1) (by simp; omega)
        have hel : (cs.map (V.int .u8))[cs.length - 1]'(by simp; omega) = .int .u8 (cs.getLastD 0) := by
          rw [List.getElem_map, List.getLastD_eq_getLast?, List.getLast?_eq_getElem?, List.getElem?_eq_getElem (by omega)]
          rfl
        rw [hel] at x3
        obtain ⟨ob, y1, y2, y3⟩ := x4 (.int .u8 (lastX turn (cs.getLastD 0))) rfl
        generalize hh2 : h1.set j ob = h2 at y2 y3
        have hst : IsDisk h2 (.ptr i 0) room (torn turn cs) safe i v1 := by
          refine ⟨rfl, Nat.lt_of_lt_of_le e1.lt y3.n, (y3.get i e1.lt e1.ne).trans e1.get, ?_, e1.ne, ?_, d2, d3, ?_⟩
          · rw [torn, List.map_set]; exact y2
          · rw [torn, List.length_set]; exact e1.len
          · rw [torn, List.length_set]; exact e1.safe1
        have hg1 := e1.get
        unfold lastX at y1
        simp only [wpA_region, wpA_seq, wpA_cond, wpA_draw, condI_true, seqQ_normal, goI_out, goI_ops, opsA_nil, opsA_cons, opsA_guardS, gvI_same, slotAt_zero, slotAt_succ, stepA_move, stepA_pick, stepA_binOp, thenV_some, pickV_true, eval_tmp, eval_const, put_some, enterF_zero, enterF_succ, aBin_lss, aBin_gtr, aBin_geq, absV_int, absV_bool, decide_true, Nat.reduceEqDiff, if_true, if_false, c1, c2, c3]
        refine SWp.drawnI [16] (by kernel_rfl) (by kernel_rfl) (by kernel_rfl) ?_
        simp only [gI_nil, gI_cons, goI_rest, ggI_true, wantedA_none, idleOp, Bool.or_true, Bool.or_false, List.contains_cons, List.contains_nil, Nat.reduceBEq, beq_self_eq_true, wpA_region, seqQ_normal, goI_out, goI_ops, opsA_cons, stepA_move, stepA_load, stepA_store, stepA_nilCheck, stepA_binOp, stepA_fieldAddr, stepA_indexAddr, stepA_len, stepA_call, thenV_some, thenS_some, nilV_ptr, eval_tmp, eval_const, put_some, put_none, enterF_zero, enterF_succ, aBin_sub, aBin_xor, absV_int, cells_int, aField_eq, fieldGo_ptr, aLoad_eq, loadGo_one, aPlace_ptr, dropC_cells, aStore_eq, storeGo_ptr, beq_self_eq_true, Nat.reduceEqDiff, Nat.reduceAdd, Nat.reduceLeDiff, reduceCtorEq, List.map_cons, List.map_nil, Option.map_some, Nat.zero_add, List.length_cons, List.length_nil, List.drop_zero, List.drop_succ_cons, if_true, if_false, ft_73_1, lt_30, lt_5, zt_5, hg1, hl1, w3, x1, x3, hsh, y1, hh2]
        refine callI_of cal48 (dSync h2 _ room _ safe i v1 hst) fun r h3 hh => ?_
        simp only [endI_mk, goI_out, goI_ops, opsA_nil, retA_normal, Try.results21, resultsA_0]
        exact hid_mk (fin h2 _ hst (e3.trans y3 fun k _ hk => by unfold Parts; right; rw [← e2]; exact hk) (by rw [hcr, if_pos ⟨c1, c2, c3⟩, hbs]) r h3 hh)
      · simp only [wpA_skip, wpA_region, wpA_seq, wpA_cond, condI_false, seqQ_normal, goI_out, goI_ops, opsA_nil, opsA_cons, opsA_guardS, gvI_same, slotAt_zero, slotAt_succ, stepA_move, stepA_pick, stepA_binOp, stepA_call, thenV_some, pickV_true, eval_tmp, eval_const, put_some, enterF_zero, enterF_succ, aBin_lss, aBin_gtr, aBin_geq, absV_int, absV_bool, decide_true, decide_false, Nat.reduceEqDiff, reduceCtorEq, List.map_cons, List.map_nil, if_true, if_false, c1, c2, c3]
        refine callI_of cal48 (dSync h1 _ room _ safe i v1 e1) fun r h3 hh => ?_
        simp only [endI_mk, goI_out, goI_ops, opsA_nil, retA_normal, Try.results21, resultsA_0]
        exact hid_mk (fin h1 _ e1 e3 (noT (by omega)) r h3 hh)
    · simp only [wpA_skip, wpA_region, wpA_seq, wpA_cond, condI_false, seqQ_normal, goI_out, goI_ops, opsA_nil, opsA_cons, opsA_guardS, gvI_same, gvI_ft, slotAt_zero, slotAt_succ, stepA_move, stepA_pick, stepA_binOp, stepA_call, thenV_some, pickV_true, pickV_false, eval_tmp, eval_const, put_some, enterF_zero, enterF_succ, aBin_gtr, aBin_geq, absV_int, absV_bool, decide_true, decide_false, Nat.reduceEqDiff, reduceCtorEq, List.map_cons, List.map_nil, if_true, if_false, c1, c2]
      refine callI_of cal48 (dSync h1 _ room _ safe i v1 e1) fun r h3 hh => ?_
      simp only [endI_mk, goI_out, goI_ops, opsA_nil, retA_normal, Try.results21, resultsA_0]
      exact hid_mk (fin h1 _ e1 e3 (noT (by omega)) r h3 hh)
  · simp only [wpA_skip, wpA_region, wpA_seq, wpA_cond, condI_false, seqQ_normal, goI_out, goI_ops, opsA_nil, opsA_cons, opsA_guardS, gvI_ft, slotAt_zero, slotAt_succ, stepA_move, stepA_pick, stepA_binOp, stepA_call, thenV_some, pickV_false, eval_tmp, eval_const, put_some, enterF_zero, enterF_succ, aBin_gtr, absV_int, absV_bool, decide_false, Nat.reduceEqDiff, reduceCtorEq, List.map_cons, List.map_nil, if_true, if_false, c1]
    refine callI_of cal48 (dSync h1 _ room _ safe i v1 e1) fun r h3 hh => ?_
    simp only [endI_mk, goI_out, goI_ops, opsA_nil, retA_normal, Try.results21, resultsA_0]
    exact hid_mk (fin h1 _ e1 e3 (noT (by omega)) r h3 hh)

end Go.Proofs.Ytlbekgogjlchjaa.Pk
namespace Go.Proofs.Ytlbekgogjlchjaa.Pk
open Go Go.Proofs Go.Proofs.Ytlbekgogjlchjaa.Ab
set_option linter.unusedVariables false
set_option linter.unusedSimpArgs false
theorem dAppendImm (h : AHeap) (p : V) (room : Int) (bs : List Int) (safe : Int) (i : Nat) (v : V) (d : IsDisk h p room bs safe i v) (ns : List Int) :
    SCalls Try.prog 129 [p, .imm ns.length (ns.map (.int .u8))] h (fun r h' => if (bs.length + ns.length : Int) ≤ room
      then r = .int .i64 0 ∧ ∃ v', IsDisk h' p room (bs ++ ns) safe i v' ∧ NewP h i v v' ∧ Keep h h' (Parts i v)
      else r = .int .i64 3 ∧ h' = h) :=
  dAppend h p room bs safe i v d _ ns (imm_src kt_30 (by simp) (one_u8 ns)) (aLen_imm kt_30)

set_option maxRecDepth 10000 in
theorem dCut (h : AHeap) (p : V) (room : Int) (bs : List Int) (safe : Int) (i : Nat) (v : V) (d : IsDisk h p room bs safe i v) (n : Int) :
    SCalls Try.prog 130 [p, .int .i64 n] h (fun r h' => if 0 ≤ n ∧ n ≤ bs.length
      then r = .int .i64 0 ∧ ∃ v', IsDisk h' p room (bs.take n.toNat) (min safe n) i v' ∧ idOf v' = idOf v ∧ Keep h h' (Parts i v)
      else r = .int .i64 2 ∧ h' = h) := by
  have hlen := d.aLen
  have d0 := d
  obtain ⟨rfl, hi, hg, ho, hne, d1, d2, d3, d4⟩ := d
  refine SCalls.enterI (c := _) Try.func130 rfl (by kernel_rfl) (by simp) ?_
  by_cases h0 : n < 0
  · have c0 : decide (n < 0) = true := by simp [h0]
    simp only [wpA_region, wpA_seq, wpA_cond, wpA_ret, condI_true, seqQ_normal, seqQ_ret, endI_mk, goI_out, goI_ops, opsA_nil, opsA_cons, opsA_guardS, gvI_same, gvI_tf, slotAt_zero, slotAt_succ, stepA_move, stepA_assign, stepA_pick, stepA_binOp, thenV_some, pickV_true, pickV_false, eval_tmp, eval_const, put_some, enterF_zero, enterF_succ, aBin_lss, ptr_nil_eql, absV_int, absV_bool, absV_pnil, Nat.reduceEqDiff, reduceCtorEq, if_true, if_false, kt_24, c0, retA_ret, Try.results130, resultsA_1]
    refine hid_mk ?_
    rw [if_neg (by omega)]
    exact ⟨rfl, rfl⟩
  · have c0 : decide (n < 0) = false := by simp; omega
    by_cases h1 : n ≤ bs.length
    · have c1 : decide ((bs.length : Int) < n) = false := by simp; omega
      simp only [wpA_skip, wpA_region, wpA_seq, wpA_cond, condI_false, seqQ_normal, goI_out, goI_ops, opsA_nil, opsA_cons, opsA_guardS, gvI_same, slotAt_zero, slotAt_succ, stepA_move, stepA_assign, stepA_pick, stepA_load, stepA_nilCheck, stepA_binOp, stepA_fieldAddr, stepA_len, stepA_call, thenV_some, pickV_false, nilV_ptr, eval_tmp, eval_const, put_some, enterF_zero, enterF_succ, aBin_lss, aBin_gtr, ptr_nil_eql, absV_int, absV_bool, absV_pnil, aField_eq, fieldGo_ptr, aLoad_eq, loadGo_one, aPlace_ptr, dropC_cells, Nat.reduceEqDiff, Nat.reduceAdd, Nat.reduceLeDiff, reduceCtorEq, List.map_cons, List.map_nil, Nat.zero_add, List.length_cons, List.length_nil, List.drop_zero, List.drop_succ_cons, if_true, if_false, ft_73_1, kt_24, lt_30, c0, hg, hlen, c1]
      obtain ⟨m, rfl⟩ : ∃ m : Nat, n = m := ⟨n.toNat, by omega⟩
      refine callI_of cal47 (dKeep h _ room bs safe i v d0 m (by omega)) fun r h1 ⟨v1, e1, e2, e3⟩ => ?_
      simp only [wpA_region, wpA_seq, wpA_ret, seqQ_normal, endI_mk, goI_out, goI_ops, opsA_nil, opsA_cons, stepA_assign, eval_const, put_some, enterF_succ, absV_int, Nat.reduceEqDiff, if_true, if_false, retA_ret, Try.results130, resultsA_1]
      refine hid_mk ?_
      rw [if_pos (by omega), Int.toNat_natCast]
      exact ⟨rfl, v1, e1, e2, e3⟩
    · have c1 : decide ((bs.length : Int) < n) = true := by simp; omega
      simp only [wpA_region, wpA_seq, wpA_cond, wpA_ret, condI_true, seqQ_normal, seqQ_ret, endI_mk, goI_out, goI_ops, opsA_nil, opsA_cons, opsA_guardS, gvI_same, slotAt_zero, slotAt_succ, stepA_move, stepA_assign, stepA_pick, stepA_load, stepA_nilCheck, stepA_binOp, stepA_fieldAddr, stepA_len, thenV_some, pickV_false, nilV_ptr, eval_tmp, eval_const, put_some, enterF_zero, enterF_succ, aBin_lss, aBin_gtr, ptr_nil_eql, absV_int, absV_bool, absV_pnil, aField_eq, fieldGo_ptr, aLoad_eq, loadGo_one, aPlace_ptr, dropC_cells, Nat.reduceEqDiff, Nat.reduceAdd, Nat.reduceLeDiff, reduceCtorEq, Nat.zero_add, List.length_cons, List.length_nil, List.drop_zero, List.drop_succ_cons, if_true, if_false, ft_73_1, kt_24, lt_30, c0, hg, hlen, c1, retA_ret, Try.results130, resultsA_1]
      refine hid_mk ?_
      rw [if_neg (by omega)]
      exact ⟨rfl, rfl⟩
end Go.Proofs.Ytlbekgogjlchjaa.Pk
