/-
  What functions of the program do, told of abstract states. Conditions: as each theorem says.
-/
import Derived.Test.YtlbekgogjlchjaaMaC
import Derived.Test.YtlbekgogjlchjaaMaB
namespace Go.Proofs.Ytlbekgogjlchjaa.Pk
open Go Go.Proofs Go.Proofs.Ytlbekgogjlchjaa.Ab
set_option linter.unusedVariables false
set_option linter.unusedSimpArgs false
/-! ### A tape: frames on a disk -/
theorem mBytes : methOk Try.prog 24 "Bytes" 22 := ⟨fun v w => by kernel_rfl, by kernel_rfl⟩
theorem mSync : methOk Try.prog 24 "Sync" 48 := ⟨fun v w => by kernel_rfl, by kernel_rfl⟩
theorem mCut : methOk Try.prog 24 "Cut" 130 := ⟨fun v w => by kernel_rfl, by kernel_rfl⟩
theorem mAppend : methOk Try.prog 24 "Append" 129 := ⟨fun v w => by kernel_rfl, by kernel_rfl⟩
def nI (l : List Nat) : List Int := l.map fun (n : Nat) => (n : Int)
theorem nI_len (l : List Nat) : (nI l).length = l.length := by simp [nI]
theorem nI_take (l : List Nat) (k : Nat) : (nI l).take k = nI (l.take k) := by unfold nI; rw [List.map_take]
theorem nI_app (a b : List Nat) : nI (a ++ b) = nI a ++ nI b := by simp [nI]
theorem nI_bytes (l : List Nat) : (nI l).map (V.int .u8) = bytesV l := by unfold nI bytesV; rw [List.map_map]; rfl
theorem scanF_le : ∀ (k : Nat) (b : List Nat), (scanF k b).2 ≤ b.length
  | 0, b => Nat.zero_le _
  | k + 1, b => by
    unfold scanF
    split
    · exact Nat.zero_le _
    · rename_i hh
      have hok := openC_ok b (by
        rcases Nat.eq_zero_or_pos (openC b).2.2 with h0 | h0
        · exact h0
        · exact absurd (.inr (by omega)) hh)
      have ih := scanF_le k (b.drop (openC b).2.1)
      rw [List.length_drop] at ih
      simp only
      omega
set_option maxRecDepth 10000 in
theorem tLoad (h : AHeap) (i j : Nat) (room : Int) (bs : List Nat) (hb : ∀ x ∈ bs, x < 256) (safe : Int) (v : V) (d : IsDisk h (.ptr i 0) room (nI bs) safe i v) (hj : j < h.n)
    (gj : h.get j = .cells [.iface 24 (.ptr i 0)] 110 none) (hij : j ≠ i) (hvj : idOf v ≠ some j) :
    SCalls Try.prog 58 [.ptr j 0] h (fun r h' => ∃ pv v', r = .tuple [pv, .int .i64 ((bs.length : Int) - ((scanF bs.length bs).2 : Nat))] ∧
      IsDisk h' (.ptr i 0) room (nI (bs.take (scanF bs.length bs).2)) ((scanF bs.length bs).2 : Nat) i v' ∧ idOf v' = idOf v ∧ Own h' 30 1 pv (rowV (scanF bs.length bs).1) ∧ (∀ k, idOf pv = some k → h.n ≤ k) ∧ Keep h h' (Parts i v)) := by
  have hbl : bs.length ≤ 1048576 := by have := d.len; have := d.most; rw [nI_len] at *; omega
  have hsl := scanF_le bs.length bs
  have pB := dBytes h (.ptr i 0) room (nI bs) safe i v d
  rw [nI_len, nI_bytes] at pB
  refine SCalls.enterI (c := _) Try.func58 rfl (by kernel_rfl) (by simp) ?_
  simp only [wpA_region, wpA_seq, seqQ_normal, goI_out, goI_ops, opsA_nil, opsA_cons, stepA_move, stepA_assign, stepA_load, stepA_nilCheck, stepA_fieldAddr, stepA_inv, thenV_some, nilV_ptr, eval_tmp, eval_const, put_some, enterF_zero, enterF_succ, absV_int, absV_snil, aField_eq, fieldGo_ptr, aLoad_eq, loadGo_one, aPlace_ptr, dropC_cells, Nat.reduceEqDiff, reduceCtorEq, List.map_nil, Nat.add_zero, Nat.zero_add, Nat.zero_le, List.length_cons, List.length_nil, List.drop_zero, if_true, if_false, ft_110_0, lt_108, gj, invI_of mBytes]
  refine callI_pure cal22 pB ?_
  simp only [wpA_region, wpA_seq, seqQ_normal, goI_out, goI_ops, opsA_nil, opsA_cons, stepA_move, stepA_assign, stepA_call, eval_tmp, put_some, enterF_succ, Nat.reduceEqDiff, List.map_cons, List.map_nil, if_true, if_false]
  refine callI_of cal76 (Scan bs h hb (by omega)) fun r1 h1 ⟨pv, e1, a1⟩ => ?_
  subst e1
  have gj1 := (a1.keep.get j hj (fun h => h)).trans gj
  have d1 := d.keepN a1.keep
  generalize scanF bs.length bs = S at *
  obtain ⟨l, n⟩ := S
  simp only at hsl a1 ⊢
  simp only [wpA_region, wpA_seq, seqQ_normal, goI_out, goI_ops, opsA_nil, opsA_cons, stepA_move, stepA_assign, stepA_load, stepA_nilCheck, stepA_fieldAddr, stepA_extract, stepA_inv, thenV_some, nilV_ptr, extV_zero, extV_succ, eval_tmp, put_some, enterF_zero, enterF_succ, aField_eq, fieldGo_ptr, aLoad_eq, loadGo_one, aPlace_ptr, dropC_cells, Nat.reduceEqDiff, reduceCtorEq, List.map_cons, List.map_nil, Nat.add_zero, Nat.zero_add, Nat.zero_le, List.length_cons, List.length_nil, List.drop_zero, if_true, if_false, ft_110_0, lt_108, gj1, invI_of mCut]
  refine callI_of cal130 (dCut h1 _ room (nI bs) safe i v d1 (n : Int)) fun r2 h2 hp => ?_
  rw [nI_len, if_pos (by omega), Int.toNat_natCast, nI_take] at hp
  obtain ⟨e2, v2, d2, i2, k2⟩ := hp
  have gj2 := (k2.get j (Nat.lt_of_lt_of_le hj a1.keep.n) (fun hh => hh.elim (fun q => hij q) (fun q => hvj q))).trans gj1
  simp only [wpA_region, wpA_seq, seqQ_normal, goI_out, goI_ops, opsA_nil, opsA_cons, stepA_move, stepA_load, stepA_nilCheck, stepA_fieldAddr, stepA_inv, thenV_some, nilV_ptr, eval_tmp, put_some, enterF_zero, enterF_succ, aField_eq, fieldGo_ptr, aLoad_eq, loadGo_one, aPlace_ptr, dropC_cells, Nat.reduceEqDiff, reduceCtorEq, List.map_nil, Nat.add_zero, Nat.zero_add, Nat.zero_le, List.length_cons, List.length_nil, List.drop_zero, if_true, if_false, ft_110_0, lt_108, gj2, invI_of mSync]
  refine callI_of cal48 (dSync h2 _ room _ _ i v2 d2) fun r3 h3 ⟨d3, k3⟩ => ?_
  have hw : IntKind.i64.wrap ((bs.length : Int) - (n : Int)) = (bs.length : Int) - (n : Int) := Go.IntWalk.i64_in _ (by omega)
  simp only [wpA_region, wpA_seq, wpA_ret, seqQ_normal, endI_mk, goI_out, goI_ops, opsA_nil, opsA_cons, stepA_move, stepA_assign, stepA_binOp, stepA_len, thenV_some, eval_tmp, put_some, enterF_succ, aBin_sub, aLen_imm, Nat.reduceEqDiff, if_true, if_false, kt_30, hw, retA_ret, Try.results58, resultsA_2]
  rw [nI_len, List.length_take, Nat.min_eq_left hsl] at d3
  have hpn : ∀ k, idOf pv = some k → ¬ Parts i v k := fun k hk hp => by
    have := a1.new k hk
    rcases hp with hp | hp
    · have := d.lt; omega
    · have := d.own.lt k hp; omega
  refine hid_mk ⟨pv, v2, rfl, d3, i2, (a1.own.keep k2 hpn).keep k3 ?_, a1.new, ?_⟩
  · rintro k hk (h | h)
    · exact hpn k hk (.inl h)
    · exact hpn k hk (.inr (i2 ▸ h))
  · exact ((a1.keep.mono fun _ h => False.elim h).trans k2 fun _ _ h => h).trans k3 fun k _ h => by
      rcases h with h | h
      · exact .inl h
      · exact .inr (i2 ▸ h)
end Go.Proofs.Ytlbekgogjlchjaa.Pk
namespace Go.Proofs.Ytlbekgogjlchjaa.Pk
open Go Go.Proofs Go.Proofs.Ytlbekgogjlchjaa.Ab
set_option linter.unusedVariables false
set_option linter.unusedSimpArgs false
/-- What a frame more makes of a disk. -/
def putBad (room : Int) (bs l : List Nat) : Int := if 4096 < l.length then 2 else if (bs.length + (frame l).length : Int) ≤ room then 0 else 3
set_option maxRecDepth 10000 in
theorem tPut (h : AHeap) (i j : Nat) (room : Int) (bs : List Nat) (safe : Int) (v : V) (d : IsDisk h (.ptr i 0) room (nI bs) safe i v) (hj : j < h.n)
    (gj : h.get j = .cells [.iface 24 (.ptr i 0)] 110 none) (hij : j ≠ i) (hvj : idOf v ≠ some j) (l : List Nat) (hl : l.length ≤ 2 ^ 40) :
    SCalls Try.prog 81 [.ptr j 0, .imm l.length (bytesV l)] h (fun r h' => r = .int .i64 (putBad room bs l) ∧
      if putBad room bs l = 0 then ∃ v', IsDisk h' (.ptr i 0) room (nI (bs ++ frame l)) safe i v' ∧ NewP h i v v' ∧ Keep h h' (Parts i v) else h' = h) := by
  refine SCalls.enterI (c := _) Try.func81 rfl (by kernel_rfl) (by simp) ?_
  simp only [wpA_region, wpA_seq, seqQ_normal, goI_out, goI_ops, opsA_nil, opsA_cons, stepA_move, stepA_assign, stepA_call, eval_tmp, eval_const, put_some, enterF_zero, enterF_succ, absV_int, Nat.reduceEqDiff, List.map_cons, List.map_nil, if_true, if_false]
  refine callI_pure cal91 (Frame l h hl) ?_
  by_cases hbig : 4096 < l.length
  · have hF : frameV l = .tuple [.snil, .int .i64 2] := by rw [frameV, if_pos hbig]
    have hP : putBad room bs l = 2 := by rw [putBad, if_pos hbig]
    have d1 : ((2 : Int) != 0) = true := rfl
    simp only [hF, wpA_region, wpA_seq, wpA_cond, wpA_ret, condI_true, seqQ_normal, seqQ_ret, endI_mk, goI_out, goI_ops, opsA_nil, opsA_cons, stepA_move, stepA_assign, stepA_binOp, stepA_extract, thenV_some, extV_zero, extV_succ, eval_tmp, eval_const, put_some, enterF_succ, aBin_neq, absV_int, Nat.reduceEqDiff, if_true, if_false, d1, retA_ret, Try.results81, resultsA_1]
    exact hid_mk ⟨by rw [hP], by rw [hP, if_neg (by decide)]⟩
  have hF : frameV l = .tuple [.imm (frame l).length (bytesV (frame l)), .int .i64 0] := by rw [frameV, if_neg hbig]
  have d1 : ((0 : Int) != 0) = false := rfl
  have dA := dAppendImm h (.ptr i 0) room (nI bs) safe i v d (nI (frame l))
  rw [nI_len, nI_len, nI_bytes] at dA
  simp only [hF, wpA_skip, wpA_region, wpA_seq, wpA_cond, condI_false, seqQ_normal, goI_out, goI_ops, opsA_nil, opsA_cons, stepA_move, stepA_assign, stepA_load, stepA_nilCheck, stepA_binOp, stepA_fieldAddr, stepA_extract, stepA_inv, thenV_some, nilV_ptr, extV_zero, extV_succ, eval_tmp, eval_const, put_some, enterF_zero, enterF_succ, aBin_neq, absV_int, aField_eq, fieldGo_ptr, aLoad_eq, loadGo_one, aPlace_ptr, dropC_cells, bne_self_eq_false, Nat.reduceEqDiff, reduceCtorEq, List.map_cons, List.map_nil, Nat.add_zero, Nat.zero_add, Nat.zero_le, List.length_cons, List.length_nil, List.drop_zero, if_true, if_false, ft_110_0, lt_108, gj, invI_of mAppend]
  refine callI_of cal129 dA fun r h1 hp => ?_
  by_cases hfit : (bs.length + (frame l).length : Int) ≤ room
  · have hP : putBad room bs l = 0 := by rw [putBad, if_neg hbig, if_pos hfit]
    rw [if_pos hfit] at hp
    obtain ⟨rfl, v1, d2, n2, k2⟩ := hp
    simp only [wpA_ret, seqQ_normal, endI_mk, goI_out, goI_ops, opsA_nil, opsA_cons, stepA_assign, eval_tmp, put_some, enterF_succ, Nat.reduceEqDiff, if_true, if_false, retA_ret, Try.results81, resultsA_1]
    refine hid_mk ⟨by rw [hP], ?_⟩
    rw [hP, if_pos rfl, nI_app]
    exact ⟨v1, d2, n2, k2⟩
  · have hP : putBad room bs l = 3 := by rw [putBad, if_neg hbig, if_neg hfit]
    rw [if_neg hfit] at hp
    obtain ⟨rfl, rfl⟩ := hp
    simp only [wpA_ret, seqQ_normal, endI_mk, goI_out, goI_ops, opsA_nil, opsA_cons, stepA_assign, eval_tmp, put_some, enterF_succ, Nat.reduceEqDiff, if_true, if_false, retA_ret, Try.results81, resultsA_1]
    exact hid_mk ⟨by rw [hP], by rw [hP, if_neg (by decide)]⟩

/-- A segment: its disk, its tape, its row of payloads. -/
structure IsSeg (h : AHeap) (k j i : Nat) (room : Int) (bs : List Nat) (safe : Int) (v pv : V) (l : List (List Nat)) (torn : Int) : Prop where
  lt : k < h.n
  get : h.get k = .cells [.ptr j 0, pv, .int .i64 torn] 106 none
  ltj : j < h.n
  getj : h.get j = .cells [.iface 24 (.ptr i 0)] 110 none
  disk : IsDisk h (.ptr i 0) room (nI bs) safe i v
  row : Own h 30 1 pv (rowV l)
  kj : k ≠ j
  ki : k ≠ i
  ji : j ≠ i
  vk : idOf v ≠ some k
  vj : idOf v ≠ some j
  pi : idOf pv ≠ some i
  pj : idOf pv ≠ some j
  pk : idOf pv ≠ some k
  pv_ : ∀ x, idOf pv = some x → idOf v ≠ some x
/-- What belongs to a segment. -/
def SegP (k j i : Nat) (v pv : V) : Nat → Prop := fun x => x = k ∨ x = j ∨ x = i ∨ idOf v = some x ∨ idOf pv = some x
theorem IsSeg.keep {h h' : AHeap} {k j i : Nat} {room safe torn : Int} {bs : List Nat} {v pv : V} {l : List (List Nat)} (s : IsSeg h k j i room bs safe v pv l torn) {own : Nat → Prop} (hk : Keep h h' own) (hne : ∀ x, SegP k j i v pv x → ¬ own x) : IsSeg h' k j i room bs safe v pv l torn :=
  ⟨Nat.lt_of_lt_of_le s.lt hk.n, (hk.get k s.lt (hne k (.inl rfl))).trans s.get, Nat.lt_of_lt_of_le s.ltj hk.n, (hk.get j s.ltj (hne j (.inr (.inl rfl)))).trans s.getj,
    s.disk.keep hk (fun x hx => hne x (hx.elim (fun q => .inr (.inr (.inl q))) fun q => .inr (.inr (.inr (.inl q))))), s.row.keep hk (fun x hx => hne x (.inr (.inr (.inr (.inr hx))))), s.kj, s.ki, s.ji, s.vk, s.vj, s.pi, s.pj, s.pk, s.pv_⟩
theorem IsSeg.keepN {h h' : AHeap} {k j i : Nat} {room safe torn : Int} {bs : List Nat} {v pv : V} {l : List (List Nat)} (s : IsSeg h k j i room bs safe v pv l torn) (hk : Keep h h' none_) : IsSeg h' k j i room bs safe v pv l torn := s.keep hk fun _ _ h => h
end Go.Proofs.Ytlbekgogjlchjaa.Pk
namespace Go.Proofs.Ytlbekgogjlchjaa.Pk
open Go Go.Proofs Go.Proofs.Ytlbekgogjlchjaa.Ab
set_option linter.unusedVariables false
set_option linter.unusedSimpArgs false
set_option maxRecDepth 10000 in
theorem sOpen (h : AHeap) (i : Nat) (room : Int) (bs : List Nat) (hb : ∀ x ∈ bs, x < 256) (safe : Int) (v : V) (d : IsDisk h (.ptr i 0) room (nI bs) safe i v) :
    SCalls Try.prog 35 [.ptr i 0] h (fun r h' => ∃ k j v' pv, r = .ptr k 0 ∧ IsSeg h' k j i room (bs.take (scanF bs.length bs).2) ((scanF bs.length bs).2 : Nat) v' pv (scanF bs.length bs).1 ((bs.length : Int) - ((scanF bs.length bs).2 : Nat)) ∧
      idOf v' = idOf v ∧ h.n ≤ k ∧ h.n ≤ j ∧ (∀ x, idOf pv = some x → h.n ≤ x) ∧ Keep h h' (Parts i v)) := by
  have hi := d.lt
  have hvl := d.own.lt
  refine SCalls.enterI (c := _) Try.func35 rfl (by kernel_rfl) (by simp) ?_
  simp only [wpA_skip, wpA_region, wpA_seq, wpA_cond, condI_false, seqQ_normal, goI_out, goI_ops, opsA_nil, opsA_cons, stepA_move, stepA_assign, stepA_box, stepA_build, stepA_load, stepA_nilCheck, stepA_binOp, stepA_fieldAddr, stepA_makeInterface, stepA_call, ifcV_false, thenV_some, thenH_some, nilV_ptr, eval_tmp, eval_const, put_some, enterF_zero, enterF_succ, ptr_nil_eql, absV_pnil, cells_ptr, cells_iface, cells_agg, aField_eq, fieldGo_ptr, aLoad_eq, loadGo_one, aPlace_ptr, dropC_cells, setAll_nil, setAll_cons, aBox_eq, aBuild_go, aFill_nil, aFill_cons, fillGo_some, buildGo_struct, push_n, get_push2, List.getElem?_cons_zero, Nat.reduceEqDiff, Nat.reduceAdd, Nat.reduceLeDiff, reduceCtorEq, List.map_cons, List.map_nil, Option.map_some, Nat.add_zero, Nat.zero_add, Nat.zero_le, List.length_cons, List.length_nil, List.drop_zero, List.set_cons_zero, and_self, if_true, if_false, Nat.le_refl, ft_106_0, if_24, kt_24, lt_104, pl_106, pl_110, zc_106, zc_110]
  have kp : ∀ a b : AObj, Keep h ((h.push a).push b) none_ := fun a b => (Keep.push _ _ _).trans (Keep.push _ _ _) fun _ _ h => h
  generalize hA : AObj.cells [.iface 24 (.ptr i 0)] 110 none = A
  generalize hB : AObj.cells [.ptr h.n 0, .snil, .int .i64 0] 106 none = B
  have gA : ((h.push A).push B).get h.n = A := get_push2'
  have gB : ((h.push A).push B).get (h.n + 1) = B := get_push2
  have n2 : ((h.push A).push B).n = h.n + 2 := rfl
  have kab := kp A B
  generalize (h.push A).push B = h0 at gA gB n2 kab ⊢
  subst hA hB
  refine callI_of cal58 (tLoad h0 i h.n room bs hb safe v (d.keepN kab) (by omega) gA (by omega) (fun hh => by have := hvl _ hh; omega)) fun r1 h1 ⟨pv, v1, e1, d1, i1, o1, n1, k1⟩ => ?_
  subst e1
  have hns : ∀ x, h.n ≤ x → ¬ Parts i v x := fun x hx hp => by
    rcases hp with hp | hp
    · omega
    · have := hvl _ hp; omega
  have gA1 := (k1.get h.n (by omega) (hns _ (by omega))).trans gA
  have gB1 := (k1.get (h.n + 1) (by omega) (hns _ (by omega))).trans gB
  have o1' := one_of_own o1
  simp only [wpA_region, wpA_seq, wpA_ret, seqQ_normal, endI_mk, goI_out, goI_ops, opsA_nil, opsA_cons, stepA_move, stepA_assign, stepA_store, stepA_nilCheck, stepA_fieldAddr, stepA_extract, thenV_some, thenS_some, nilV_ptr, extV_zero, extV_succ, eval_tmp, put_some, put_none, enterF_succ, cells_int, one_int, all_nil, all_cons, aField_eq, fieldGo_ptr, aStore_eq, storeGo_ptr, setC_row, setAll_nil, setAll_cons, get_set_same, set_set, Nat.reduceEqDiff, Nat.reduceAdd, Nat.reduceLeDiff, Option.map_some, Nat.zero_add, List.length_cons, List.length_nil, List.set_cons_zero, List.set_cons_succ, if_true, if_false, Bool.and_self, Nat.le_refl, ft_106_1, ft_106_2, zt_3, zt_54, gB1, o1'.1, o1'.2, retA_ret, Try.results35, resultsA_1]
  have hv1 : ∀ x, idOf v1 = some x → x < h.n := fun x hx => hvl x (i1 ▸ hx)
  have hsn := (k1.n)
  refine hid_mk ⟨h.n + 1, h.n, v1, pv, rfl, ⟨by simp only [set_n]; omega, get_set_same, by simp only [set_n]; omega, ?_, ?_, ?_, by omega, by omega, by omega, ?_, ?_, ?_, ?_, ?_, ?_⟩, i1, by omega, by omega, fun x hx => by have := n1 x hx; omega, ?_⟩
  · rw [get_set_ne (by omega)]
    exact gA1
  · exact d1.keep (Keep.set _ _ _) fun x hx hh => by
      rcases hx with hx | hx
      · omega
      · have := hv1 x hx; omega
  · exact o1.keep (Keep.set _ _ _) fun x hx hh => by have := n1 x hx; omega
  · intro hh; have := hv1 _ hh; omega
  · intro hh; have := hv1 _ hh; omega
  · intro hh; have := n1 _ hh; omega
  · intro hh; have := n1 _ hh; omega
  · intro hh; have := n1 _ hh; omega
  · intro x hx hh; have := n1 _ hx; have := hv1 _ hh; omega
  · exact ((kab.mono fun _ h => False.elim h).trans k1 fun _ _ h => h).trans (Keep.set _ _ _) fun x hx hh => by omega
end Go.Proofs.Ytlbekgogjlchjaa.Pk
namespace Go.Proofs.Ytlbekgogjlchjaa.Pk
open Go Go.Proofs Go.Proofs.Ytlbekgogjlchjaa.Ab
set_option linter.unusedVariables false
set_option linter.unusedSimpArgs false
theorem sLen (h : AHeap) (k j i : Nat) (room safe torn : Int) (bs : List Nat) (v pv : V) (l : List (List Nat)) (s : IsSeg h k j i room bs safe v pv l torn) (hl : l.length ≤ 2 ^ 40) :
    Pure Try.prog 36 [.ptr k 0] h (.int .i64 (l.length : Nat)) := by
  have g := s.get
  have hlen := s.row.length (by decide) Try.prog kt_54
  rw [rowV_len, Nat.div_one] at hlen
  refine SCalls.enterI (c := _) Try.func36 rfl (by kernel_rfl) (by simp) ?_
  simp only [wpA_skip, wpA_region, wpA_seq, wpA_cond, wpA_ret, condI_false, seqQ_normal, endI_mk, goI_out, goI_ops, opsA_nil, opsA_cons, stepA_move, stepA_assign, stepA_load, stepA_nilCheck, stepA_binOp, stepA_fieldAddr, stepA_len, thenV_some, nilV_ptr, eval_tmp, eval_const, put_some, enterF_zero, enterF_succ, ptr_nil_eql, absV_int, absV_pnil, aField_eq, fieldGo_ptr, aLoad_eq, loadGo_one, aPlace_ptr, dropC_cells, Nat.reduceEqDiff, Nat.reduceAdd, Nat.reduceLeDiff, reduceCtorEq, Nat.zero_add, List.length_cons, List.length_nil, List.drop_zero, List.drop_succ_cons, if_true, if_false, ft_106_1, kt_74, lt_54, g, hlen, retA_ret, Try.results36, resultsA_1]
  exact hid_mk ⟨rfl, rfl⟩
theorem sSync (h : AHeap) (k j i : Nat) (room safe torn : Int) (bs : List Nat) (v pv : V) (l : List (List Nat)) (s : IsSeg h k j i room bs safe v pv l torn) :
    SCalls Try.prog 65 [.ptr k 0] h (fun r h' => IsSeg h' k j i room bs (bs.length : Nat) v pv l torn ∧ Keep h h' (Parts i v)) := by
  have g := s.get
  have gj := s.getj
  refine SCalls.enterI (c := _) Try.func65 rfl (by kernel_rfl) (by simp) ?_
  simp only [wpA_region, wpA_seq, wpA_cond, condI_true, seqQ_normal, goI_out, goI_ops, opsA_nil, opsA_cons, opsA_guardS, gvI_same, slotAt_zero, slotAt_succ, stepA_move, stepA_pick, stepA_load, stepA_nilCheck, stepA_binOp, stepA_fieldAddr, stepA_inv, thenV_some, pickV_true, nilV_ptr, eval_tmp, eval_const, put_some, enterF_zero, enterF_succ, ptr_nil_neq, absV_bool, absV_pnil, aField_eq, fieldGo_ptr, aLoad_eq, loadGo_one, aPlace_ptr, dropC_cells, Nat.reduceEqDiff, Nat.reduceAdd, reduceCtorEq, List.map_nil, Nat.add_zero, Nat.zero_add, Nat.zero_le, List.length_cons, List.length_nil, List.drop_zero, if_true, if_false, ft_106_0, ft_110_0, kt_104, kt_74, lt_104, lt_108, g, gj, invI_of mSync]
  refine callI_of cal48 (dSync h _ room _ _ i v s.disk) fun r3 h3 ⟨d3, k3⟩ => ?_
  simp only [endI_mk, goI_out, goI_ops, opsA_nil, retA_normal, Try.results65, resultsA_0]
  rw [nI_len] at d3
  have np : ∀ x, x ≠ i → idOf v ≠ some x → ¬ Parts i v x := fun x h1 h2 hh => hh.elim h1 h2
  refine hid_mk ⟨⟨Nat.lt_of_lt_of_le s.lt k3.n, (k3.get k s.lt (np k s.ki s.vk)).trans g, Nat.lt_of_lt_of_le s.ltj k3.n, (k3.get j s.ltj (np j s.ji s.vj)).trans gj, d3, s.row.keep k3 (fun x hx => np x (fun e => s.pi (e ▸ hx)) (s.pv_ x hx)), s.kj, s.ki, s.ji, s.vk, s.vj, s.pi, s.pj, s.pk, s.pv_⟩, k3⟩
theorem own_src1 (h : AHeap) (v : V) (hv : v.one = true) : aSrc Try.prog 1 54 (.sl h.n 0 1 1) (h.push (.cells [v] 30 none)) = some (1, [v]) := by
  have u : Try.prog.underlying 54 = some (.slice 30) := by kernel_rfl
  unfold aSrc
  simp only [u, get_push_new]
  simp [hv]
set_option maxRecDepth 10000 in
theorem sPut (h : AHeap) (k j i : Nat) (room safe torn : Int) (bs : List Nat) (v pv : V) (l : List (List Nat)) (s : IsSeg h k j i room bs safe v pv l torn) (hl : l.length ≤ 2 ^ 30) (x : List Nat) (hx : x.length ≤ 2 ^ 40) :
    SCalls Try.prog 63 [.ptr k 0, .imm x.length (bytesV x)] h (fun r h' => r = .int .i64 (putBad room bs x) ∧
      if putBad room bs x = 0 then ∃ v' pv', IsSeg h' k j i room (bs ++ frame x) safe v' pv' (l ++ [x]) torn ∧ NewP h i v v' ∧ (idOf pv' = idOf pv ∨ ∀ y, idOf pv' = some y → h.n ≤ y) ∧ Keep h h' (SegP k j i v pv) else h' = h) := by
  have g := s.get
  have gj := s.getj
  have nj : (74 : Nat) = 74 := rfl
  have np : ∀ y, y ≠ i → idOf v ≠ some y → ¬ Parts i v y := fun y h1 h2 hh => hh.elim h1 h2
  refine SCalls.enterI (c := _) Try.func63 rfl (by kernel_rfl) (by simp) ?_
  simp only [wpA_skip, wpA_region, wpA_seq, wpA_cond, condI_false, seqQ_normal, goI_out, goI_ops, opsA_nil, opsA_cons, opsA_guardS, gvI_same, slotAt_zero, slotAt_succ, stepA_move, stepA_assign, stepA_pick, stepA_load, stepA_nilCheck, stepA_binOp, stepA_fieldAddr, stepA_call, thenV_some, pickV_false, nilV_ptr, eval_tmp, eval_const, put_some, enterF_zero, enterF_succ, ptr_nil_eql, absV_int, absV_bool, absV_pnil, aField_eq, fieldGo_ptr, aLoad_eq, loadGo_one, aPlace_ptr, dropC_cells, Nat.reduceEqDiff, Nat.reduceAdd, reduceCtorEq, List.map_cons, List.map_nil, Nat.add_zero, Nat.zero_add, Nat.zero_le, List.length_cons, List.length_nil, List.drop_zero, if_true, if_false, ft_106_0, kt_104, kt_74, lt_104, g]
  refine callI_of cal81 (tPut h i j room bs safe v s.disk s.ltj gj s.ji.symm.symm s.vj x hx) fun r1 h1 ⟨e1, hp⟩ => ?_
  subst e1
  by_cases hP : putBad room bs x = 0
  case neg =>
    have d1 : (putBad room bs x != 0) = true := by simp [hP]
    rw [if_neg hP] at hp
    subst hp
    simp only [wpA_region, wpA_seq, wpA_cond, wpA_ret, condI_true, seqQ_normal, seqQ_ret, endI_mk, goI_out, goI_ops, opsA_nil, opsA_cons, stepA_move, stepA_assign, stepA_binOp, thenV_some, eval_tmp, eval_const, put_some, enterF_succ, aBin_neq, absV_int, Nat.reduceEqDiff, if_true, if_false, d1, retA_ret, Try.results63, resultsA_1]
    exact hid_mk ⟨rfl, by rw [if_neg hP]⟩
  rw [if_pos hP] at hp
  obtain ⟨v1, d1, n1, k1⟩ := hp
  have g1 := (k1.get k s.lt (np k s.ki s.vk)).trans g
  have gj1 := (k1.get j s.ltj (np j s.ji s.vj)).trans gj
  have o1 : Own h1 30 1 pv (rowV l) := s.row.keep k1 (fun y hy => np y (fun e => s.pi (e ▸ hy)) (s.pv_ y hy))
  rw [hP]
  simp only [wpA_skip, wpA_region, wpA_seq, wpA_cond, wpA_draw, condI_false, seqQ_normal, goI_out, goI_ops, opsA_nil, opsA_cons, stepA_move, stepA_assign, stepA_binOp, thenV_some, eval_tmp, eval_const, put_some, enterF_succ, aBin_neq, absV_int, bne_self_eq_false, Nat.reduceEqDiff, if_true, if_false]
  have f1 : isId pv k = False := eq_false s.pk
  have c1 := one_of_own o1
  have hcl : [pv].head? = some pv := rfl
  refine SWp.drawnS (fun y => isId pv y) [7, 8, 11] (.q 0 (.q 1 (.q 2 (.q 3 (.q 4 (.q 5 (.c 6 (.e 7 (.e 8 (.q 9 (.q 10 (.a 11 .done))) .stop) .stop)))))))) (by kernel_rfl) (by kernel_rfl) (by kernel_rfl) ?_
  have g1d : dropC (.cells [.ptr j 0, pv, .int .i64 torn] 106 none) 1 = some [pv, .int .i64 torn] := rfl
  simp only [mOk_move, mOk_nilCheck, mOk_fieldAddr, mOk_load, mOkV_ptr, nne2, nne3, nne4, nne3', not_false_eq_true, siI_q, sqI_some, implies_true, qI_nil, qI_cons, thenQ_some, q_move, q_load, q_nilCheck, q_fieldAddr, goI_mk, nilV_ptr, eval_tmp, put_some, enterF_zero, enterF_succ, aField_eq, fieldGo_ptr, aLoad_eq, loadGo_one, aPlace_ptr, List.getElem?_cons_zero, List.getElem?_cons_succ, Nat.reduceEqDiff, reduceCtorEq, Nat.zero_add, true_and, if_true, if_false, ft_106_1, lt_54, g1, g1d, f1]
  refine siI_c rfl rfl rfl (fun h' _ => pCloneB x (by omega) h') ?_
  obtain ⟨w, h3, e3, ho3, k3, n3⟩ := append_own (P := Try.prog) (t := 54) (tx := 54) (h := h1.push (.cells [.imm x.length (bytesV x)] 30 none)) (x := .sl h1.n 0 1 1) (n := 1) (news := [.imm x.length (bytesV x)]) sl_54 (by decide) (o1.keepN (Keep.push _ _ _)) (own_src1 h1 _ rfl) rfl (by simp only [rowV_len, lim]; simp; omega) (by simp only [rowV_len, lim]; simp; omega)
  have cw := one_of_own ho3
  have k13 : Keep h1 h3 (fun y => isId pv y) := ((Keep.push _ _ _).mono fun _ h => False.elim h).trans k3 fun _ _ h => h
  have gk3 := (k13.get k (Nat.lt_of_lt_of_le s.lt k1.n) s.pk).trans g1
  have gj3 := (k13.get j (Nat.lt_of_lt_of_le s.ltj k1.n) s.pj).trans gj1
  have hset : setC (some 1) (AObj.cells [.ptr j 0, pv, .int .i64 torn] 106 none) 1 [w] = some (.cells [.ptr j 0, w, .int .i64 torn] 106 none) := by rw [setC_one cw.2]; rfl
  simp only [mOk_nilCheck, mOk_fieldAddr, nne2, nne3, nne4, nne1', nne2', nne3', siI_done, siI_stop, siI_q, siI_a, siI_e, sqI_some, saI_some, seI_some, keepT1, implies_true, qI_nil, qI_cons, thenQ_some, q_nilCheck, q_fieldAddr, wpA_region, wpA_seq, wpA_ret, seqQ_normal, endI_mk, goI_out, goI_ops, goI_mk, opsA_nil, opsA_cons, stepA_assign, stepA_buildSlice, stepA_store, stepA_append, thenH_some, thenS_some, nilV_ptr, eval_tmp, eval_const, put_some, put_none, enterF_succ, absV_int, aField_eq, fieldGo_ptr, aStore_eq, storeGo_ptr, List.getElem?_cons_zero, List.getElem?_cons_succ, Bool.false_eq_true, Nat.reduceEqDiff, List.map_cons, List.map_nil, Option.map_some, Nat.zero_add, and_true, true_and, if_true, if_false, ft_106_1, zt_54, lit1r, e3, cw.1, gk3, hset, retA_ret, Try.results63, resultsA_1]
  refine ⟨k13, ?_⟩
  have kn := k1.n
  have kn3 := k13.n
  have pl : ∀ y, idOf pv = some y → y < h.n := s.row.lt
  have vl : ∀ y, idOf v1 = some y → y < h1.n := d1.own.lt
  have sk := s.lt
  have sj := s.ltj
  have wid : ∀ y, idOf w = some y → (idOf pv = some y) ∨ h1.n ≤ y := fun y hy => by
    rcases n3 with n3 | n3
    · exact .inl (n3 ▸ hy)
    · have := n3 y hy; rw [push_n] at this; exact .inr (by omega)
  have v1v : ∀ y, idOf v1 = some y → (idOf v = some y) ∨ h.n ≤ y := fun y hy => by
    rcases n1 with n1 | n1
    · exact .inl (n1 ▸ hy)
    · exact .inr (n1 y hy)
  have v1p : ∀ y, idOf v1 = some y → idOf pv ≠ some y := fun y hy hp => by
    rcases v1v y hy with e | e
    · exact s.pv_ y hp e
    · have := pl y hp; omega
  have v1k : idOf v1 ≠ some k := fun hy => (v1v k hy).elim s.vk fun e => by omega
  have v1j : idOf v1 ≠ some j := fun hy => (v1v j hy).elim s.vj fun e => by omega
  have di := s.disk.lt
  refine hid_mk ⟨rfl, ?_⟩
  rw [if_pos rfl]
  have kset := Keep.set h3 k (.cells [.ptr j 0, w, .int .i64 torn] 106 none)
  refine ⟨v1, w, ⟨by rw [set_n]; omega, get_set_same, by rw [set_n]; omega, (get_set_ne s.kj.symm).trans gj3, ?_, ?_, s.kj, s.ki, s.ji, v1k, v1j, ?_, ?_, ?_, ?_⟩, n1, ?_, ?_⟩
  · refine (d1.keep k13 fun y hy hh => ?_).keep kset fun y hy hh => ?_
    · rcases hy with hy | hy
      · subst hy; exact s.pi hh
      · exact v1p y hy hh
    · rcases hy with hy | hy
      · exact s.ki (hh.symm.trans hy)
      · subst hh; exact v1k hy
  · rw [rowV_app]
    exact ho3.keep kset fun y hy hh => by
      subst hh
      rcases wid y hy with e | e
      · exact s.pk e
      · omega
  · intro hy; rcases wid i hy with e | e
    · exact s.pi e
    · omega
  · intro hy; rcases wid j hy with e | e
    · exact s.pj e
    · omega
  · intro hy; rcases wid k hy with e | e
    · exact s.pk e
    · omega
  · intro y hy hv; rcases wid y hy with e | e
    · exact v1p y hv e
    · have := vl y hv; omega
  · rcases n3 with n3 | n3
    · exact .inl n3
    · exact .inr fun y hy => by have := n3 y hy; rw [push_n] at this; omega
  · refine ((k1.mono fun y hy => ?_).trans k13 fun y _ hy => ?_).trans kset fun y _ hy => ?_
    · exact hy.elim (fun e => .inr (.inr (.inl e))) fun e => .inr (.inr (.inr (.inl e)))
    · exact .inr (.inr (.inr (.inr hy)))
    · exact .inl hy
end Go.Proofs.Ytlbekgogjlchjaa.Pk
namespace Go.Proofs.Ytlbekgogjlchjaa.Pk
open Go Go.Proofs Go.Proofs.Ytlbekgogjlchjaa.Ab
set_option linter.unusedVariables false
set_option linter.unusedSimpArgs false
set_option maxRecDepth 10000 in
theorem sGet (h : AHeap) (k j i : Nat) (room safe torn : Int) (bs : List Nat) (v pv : V) (l : List (List Nat)) (s : IsSeg h k j i room bs safe v pv l torn) (hl : l.length ≤ 2 ^ 40) (n : Nat) (hn : n < l.length) (hx : l[n].length ≤ 2 ^ 40) :
    Pure Try.prog 37 [.ptr k 0, .int .i64 (n : Nat)] h (.tuple [.imm l[n].length (bytesV l[n]), .int .i64 0]) := by
  have g := s.get
  obtain ⟨q, e1, e2, ⟨rest, e3⟩, _⟩ := own_elem (P := Try.prog) (t := 54) (kk := .i64) ss_54 s.row (k := n) (by rw [rowV_len]; exact hn)
  have hel : (rowV l)[n]'(by rw [rowV_len]; exact hn) = .imm l[n].length (bytesV l[n]) := by simp [rowV]
  rw [hel] at e3
  have c1 : decide ((n : Int) < 0) = false := by simp
  have c2 : decide (((l.length : Nat) : Int) ≤ (n : Int)) = false := by rw [decide_eq_false_iff_not]; omega
  refine SCalls.enterI (c := _) Try.func37 rfl (by kernel_rfl) (by simp) ?_
  simp only [wpA_region, wpA_seq, seqQ_normal, goI_out, goI_ops, opsA_nil, opsA_cons, opsA_guardS, gvI_same, slotAt_zero, slotAt_succ, stepA_move, stepA_assign, stepA_binOp, stepA_call, thenV_some, eval_tmp, eval_const, put_some, enterF_zero, enterF_succ, aBin_lss, absV_int, absV_snil, Nat.reduceEqDiff, reduceCtorEq, List.map_cons, List.map_nil, if_true, if_false, c1]
  refine callI_pure cal36 (sLen h k j i room safe torn bs v pv l s hl) ?_
  simp only [wpA_skip, wpA_region, wpA_seq, wpA_cond, condI_false, seqQ_normal, goI_out, goI_ops, opsA_nil, opsA_cons, opsA_guardS, gvI_same, slotAt_zero, slotAt_succ, stepA_move, stepA_pick, stepA_load, stepA_nilCheck, stepA_binOp, stepA_fieldAddr, stepA_indexAddr, stepA_call, thenV_some, pickV_false, nilV_ptr, eval_tmp, eval_const, put_some, enterF_zero, enterF_succ, aBin_geq, absV_bool, aField_eq, fieldGo_ptr, aLoad_eq, loadGo_one, aPlace_ptr, dropC_cells, Nat.reduceEqDiff, Nat.reduceAdd, Nat.reduceLeDiff, reduceCtorEq, List.map_cons, List.map_nil, Nat.zero_add, List.length_cons, List.length_nil, List.drop_zero, List.drop_succ_cons, if_true, if_false, ft_106_1, lt_30, lt_54, c2, g, e1, e3]
  refine callI_pure cal50 (pCloneB l[n] (by omega) h) ?_
  simp only [wpA_ret, seqQ_normal, endI_mk, goI_out, goI_ops, opsA_nil, opsA_cons, stepA_assign, eval_tmp, eval_const, put_some, enterF_succ, absV_int, Nat.reduceEqDiff, if_true, if_false, retA_ret, Try.results37, resultsA_2]
  exact hid_mk ⟨rfl, rfl⟩
end Go.Proofs.Ytlbekgogjlchjaa.Pk
