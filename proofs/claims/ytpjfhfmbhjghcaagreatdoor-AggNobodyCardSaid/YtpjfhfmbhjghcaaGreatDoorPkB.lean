/-
  What functions of the program do, told of abstract states. Conditions: as each theorem says.
-/
import Derived.Test.YtpjfhfmbhjghcaaGreatDoorPkA
import Derived.Test.YtpjfhfmbhjghcaaGreatDoorAbD
namespace Go.Proofs.YtpjfhfmbhjghcaaGreatDoor.Pk
open Go Go.Proofs Go.Proofs.YtpjfhfmbhjghcaaGreatDoor.Ab
set_option linter.unusedVariables false
set_option linter.unusedSimpArgs false

/-- What can be read as bytes: in this memory, and when more was made. -/
structure Rd (h : AHeap) (s : V) (cs : List Nat) : Prop where
  len : ∀ h', Keep h h' none_ → aLen Tryz.prog 89 s h' = some (.int .i64 cs.length)
  lenOf : aLenOf s = some cs.length
  first : ∀ h', Keep h h' none_ → aFirst 1 cs.length s h' = some (bytesV cs)
  src : ∀ h', Keep h h' none_ → aSrc Tryz.prog 1 89 s h' = some (cs.length, bytesV cs)
theorem Rd.snil (h : AHeap) : Rd h .snil [] := ⟨fun _ _ => aLen_snil kt_89, rfl, fun _ _ => rfl, fun _ _ => by
  obtain ⟨d, hu, hd⟩ := kindT_eq kt_89
  cases d <;> simp [descKind] at hd
  simp [aSrc, hu, bytesV]⟩
theorem Rd.imm (h : AHeap) (cs : List Nat) : Rd h (.imm cs.length (bytesV cs)) cs := ⟨fun _ _ => aLen_imm kt_89, rfl, fun h' _ => by
  simp only [aFirst, bytesV_length, Nat.mul_one, Nat.le_refl, and_self, if_true]
  rw [List.take_of_length_le (by rw [bytesV_length]; exact Nat.le_refl _)], fun h' _ => imm_src kt_89 (by rw [bytesV_length, Nat.mul_one]) (bytesV_one cs)⟩
theorem Rd.keep {h h' : AHeap} {s : V} {cs : List Nat} (rd : Rd h s cs) (k : Keep h h' none_) : Rd h' s cs :=
  ⟨fun h2 k2 => rd.len h2 (k.trans' k2), rd.lenOf, fun h2 k2 => rd.first h2 (k.trans' k2), fun h2 k2 => rd.src h2 (k.trans' k2)⟩

set_option maxRecDepth 10000 in
theorem fresh (s : V) (cs : List Nat) (m : Nat) (h : AHeap) (rd : Rd h s cs) (hc : cs.length + m ≤ 2 ^ 47) :
    SCalls Tryz.prog 103 [s, .int .i64 m] h (fun r h' => r = .sl h.n 0 cs.length (cs.length + m) ∧ Own h' 5 1 r (bytesV cs) ∧ Keep h h' none_) := by
  refine SCalls.enterI (c := _) Tryz.func103 rfl (by kernel_rfl) (by simp) ?_
  have hw : IntKind.i64.wrap ((cs.length : Int) + (m : Int)) = ((cs.length + m : Nat) : Int) := by rw [Go.IntWalk.i64_in _ (by omega)]; omega
  obtain ⟨h1, h2, q1, q2, q3, q4, q5⟩ := own_clone2 (P := Tryz.prog) (tx := 89) (k := .i64) (k' := .i64) (h := h) (c := cs.length + m) sl_89 rd.lenOf rd.first (bytesV_one cs) (by simp [bytesV_length]) (by omega) (by simp only; omega) (by omega)
  simp only [wpA_region, wpA_seq, wpA_ret, seqQ_normal, endI_mk, goI_out, goI_ops, opsA_nil, opsA_cons, stepA_move, stepA_assign, stepA_binOp, stepA_makeSlice, stepA_len, stepA_copy, thenV_some, thenH_some, eval_tmp, eval_const, put_some, enterF_zero, enterF_succ, aBin_add, absV_snil, Nat.reduceEqDiff, reduceCtorEq, if_true, if_false, rd.len h (Keep.refl _ _), hw, q1, q2, retA_ret, Tryz.results103, resultsA_1]
  exact hid_mk ⟨rfl, q3, q5⟩

set_option maxRecDepth 10000 in
theorem Uint (s : V) (cs : List Nat) (n : Nat) (h : AHeap) (rd : Rd h s cs) (hc : cs.length ≤ 2 ^ 46) (hn : n < 2 ^ 64) :
    SCalls Tryz.prog 88 [s, .int .u64 n] h (fun r h' => Own h' 5 1 r (bytesV (cs ++ enc n)) ∧ Keep h h' none_ ∧ ∀ k, idOf r = some k → h.n ≤ k) := by
  refine SCalls.enterI (c := _) Tryz.func88 rfl (by kernel_rfl) (by simp) ?_
  simp only [wpA_region, wpA_seq, seqQ_normal, goI_out, goI_ops, opsA_nil, opsA_cons, stepA_move, stepA_assign, stepA_call, eval_tmp, eval_const, put_some, enterF_zero, enterF_succ, absV_int, absV_snil, Nat.reduceEqDiff, reduceCtorEq, List.map_cons, List.map_nil, if_true, if_false]
  refine callI_of cal103 (fresh s cs 10 h rd (by omega)) fun r1 h1 ⟨e1, o1, k1⟩ => ?_
  have d1 : ∀ k, idOf r1 = some k → h.n ≤ k := fun k hk => by subst e1; simp [idOf] at hk; omega
  simp only [goI_ops, opsA_cons, stepA_move, stepA_call, eval_tmp, put_some, enterF_zero, enterF_succ, Nat.reduceEqDiff, List.map_cons, List.map_nil, if_true, if_false]
  refine callI_of cal125 (addUint r1 cs n h1 o1 hc hn) fun r2 h2 ⟨o2, k2, d2⟩ => ?_
  simp only [wpA_ret, seqQ_normal, endI_mk, goI_out, goI_ops, opsA_nil, opsA_cons, stepA_assign, eval_tmp, put_some, enterF_succ, Nat.reduceEqDiff, if_true, if_false, retA_ret, Tryz.results88, resultsA_1]
  refine hid_mk ⟨o2, k1.trans k2 fun k hk hi => ?_, fun k hk => ?_⟩
  · have := d1 k hi; omega
  · rcases d2 with d2 | d2
    · exact d1 k (d2 ▸ hk)
    · exact Nat.le_trans k1.n (d2 k hk)
theorem pUint (s : V) (cs : List Nat) (n : Nat) (h : AHeap) (rd : Rd h s cs) (hc : cs.length ≤ 2 ^ 46) (hn : n < 2 ^ 64) :
    Pure Tryz.prog 88 [s, .int .u64 n] h (.imm (cs ++ enc n).length (bytesV (cs ++ enc n))) := by
  refine Pure.of (Clo.imm (bytesV_clo _)) ((Uint s cs n h rd hc hn).mono fun r h' ⟨o, k, d⟩ => ?_)
  obtain ⟨h2, c, k2⟩ := Cast.own o (n := (cs ++ enc n).length) (by simp [bytesV_length]) (by omega)
  exact ⟨h2, c, k.trans k2 fun j hj hs => by have := d j hs; omega⟩
theorem pFresh (s : V) (cs : List Nat) (m : Nat) (h : AHeap) (rd : Rd h s cs) (hc : cs.length + m ≤ 2 ^ 47) :
    Pure Tryz.prog 103 [s, .int .i64 m] h (.imm cs.length (bytesV cs)) := by
  refine Pure.of (Clo.imm (bytesV_clo _)) ((fresh s cs m h rd hc).mono fun r h' ⟨e, o, k⟩ => ?_)
  obtain ⟨h2, c, k2⟩ := Cast.own o (n := cs.length) (by simp [bytesV_length]) (by omega)
  refine ⟨h2, c, k.trans k2 fun j hj hs => ?_⟩
  subst e
  simp [isId, idOf] at hs
  omega

/-- A reader: the bytes that are left. -/
def IsRd (h : AHeap) (p : V) (i : Nat) (cs : List Nat) : Prop := p = .ptr i 0 ∧ i < h.n ∧ h.get i = .cells [.imm cs.length (bytesV cs)] 204 none
theorem From (s : V) (cs : List Nat) (h : AHeap) (rd : Rd h s cs) (hc : cs.length ≤ 2 ^ 47) :
    SCalls Tryz.prog 73 [s] h (fun r h' => r = .ptr h.n 0 ∧ IsRd h' r h.n cs ∧ Keep h h' none_) := by
  refine SCalls.enterI (c := _) Tryz.func73 rfl (by kernel_rfl) (by simp) ?_
  simp only [wpA_region, wpA_seq, seqQ_normal, goI_out, goI_ops, opsA_nil, opsA_cons, stepA_move, stepA_assign, stepA_call, eval_tmp, eval_const, put_some, enterF_zero, enterF_succ, absV_int, absV_pnil, Nat.reduceEqDiff, reduceCtorEq, List.map_cons, List.map_nil, if_true, if_false]
  refine callI_pure cal103 (pFresh s cs 0 h rd (by omega)) ?_
  simp only [wpA_ret, seqQ_normal, endI_mk, goI_out, goI_ops, opsA_nil, opsA_cons, stepA_assign, stepA_box, stepA_build, thenV_some, thenH_some, eval_tmp, put_some, enterF_succ, cells_imm, cells_agg, setAll_nil, setAll_cons, aBox_eq, aBuild_go, aFill_nil, aFill_cons, fillGo_some, buildGo_struct, List.getElem?_cons_zero, Nat.reduceEqDiff, List.map_cons, List.map_nil, Option.map_some, Nat.zero_add, List.length_cons, List.length_nil, List.set_cons_zero, and_self, if_true, if_false, Nat.le_refl, pl_204, zc_204, retA_ret, Tryz.results73, resultsA_1]
  exact hid_mk ⟨rfl, ⟨rfl, by rw [push_n]; omega, get_push_new⟩, Keep.push _ _ _⟩
theorem rest (h : AHeap) (p : V) (i : Nat) (cs : List Nat) (hr : IsRd h p i cs) : Pure Tryz.prog 106 [p] h (.imm cs.length (bytesV cs)) := by
  obtain ⟨rfl, hi, hg⟩ := hr
  refine SCalls.enterI (c := _) Tryz.func106 rfl (by kernel_rfl) (by simp) ?_
  simp only [wpA_skip, wpA_region, wpA_seq, wpA_cond, wpA_ret, condI_false, seqQ_normal, endI_mk, goI_out, goI_ops, opsA_nil, opsA_cons, stepA_move, stepA_assign, stepA_load, stepA_nilCheck, stepA_binOp, stepA_fieldAddr, thenV_some, nilV_ptr, eval_tmp, eval_const, put_some, enterF_zero, enterF_succ, ptr_nil_eql, absV_pnil, absV_snil, aField_eq, fieldGo_ptr, aLoad_eq, loadGo_one, aPlace_ptr, dropC_cells, Nat.reduceEqDiff, reduceCtorEq, Nat.add_zero, Nat.zero_add, Nat.zero_le, List.length_cons, List.length_nil, List.drop_zero, if_true, if_false, ft_204_0, kt_154, lt_89, hg, retA_ret, Tryz.results106, resultsA_1]
  exact hid_mk ⟨rfl, rfl⟩
theorem Left (h : AHeap) (p : V) (i : Nat) (cs : List Nat) (hr : IsRd h p i cs) : Pure Tryz.prog 75 [p] h (.int .i64 cs.length) := by
  refine SCalls.enterI (c := _) Tryz.func75 rfl (by kernel_rfl) (by simp) ?_
  simp only [wpA_region, wpA_seq, seqQ_normal, goI_out, goI_ops, opsA_nil, opsA_cons, stepA_move, stepA_assign, stepA_call, eval_tmp, eval_const, put_some, enterF_zero, enterF_succ, absV_int, Nat.reduceEqDiff, reduceCtorEq, List.map_cons, List.map_nil, if_true, if_false]
  refine callI_pure cal106 (rest h p i cs hr) ?_
  simp only [wpA_ret, seqQ_normal, endI_mk, goI_out, goI_ops, opsA_nil, opsA_cons, stepA_assign, stepA_len, thenV_some, eval_tmp, put_some, enterF_succ, aLen_imm, Nat.reduceEqDiff, if_true, if_false, kt_89, retA_ret, Tryz.results75, resultsA_1]
  exact hid_mk ⟨rfl, rfl⟩
end Go.Proofs.YtpjfhfmbhjghcaaGreatDoor.Pk
