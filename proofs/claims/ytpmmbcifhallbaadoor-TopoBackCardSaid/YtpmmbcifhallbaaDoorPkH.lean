/-
  What functions of the program do, told of abstract states. Conditions: as each theorem says.
-/
import Derived.Test.YtpmmbcifhallbaaDoorPkF
import Derived.Test.YtpmmbcifhallbaaDoorAbD
namespace Go.Proofs.YtpmmbcifhallbaaDoor.Pk
open Go Go.Proofs Go.Proofs.YtpmmbcifhallbaaDoor.Ab
set_option linter.unusedVariables false
set_option linter.unusedSimpArgs false



theorem i64V_drop {l : List Int} {k : Nat} (hk : k < l.length) : (i64V l).drop (k * 1) = .int .i64 l[k] :: i64V (l.drop (k + 1)) := by
  rw [Nat.mul_one]
  unfold i64V
  rw [← List.map_drop, List.drop_eq_getElem_cons hk]
  rfl
theorem i64V_ix {l : List Int} {k : Nat} (hk : k < l.length) {t : TypeId} (hs : slSz Tryd.prog t = some 1) : aIndexAddr Tryd.prog t (.imm l.length (i64V l)) (.int .i64 (k : Int)) = some (.at (.int .i64 l[k] :: i64V (l.drop (k + 1)))) := by
  rw [index_imm hs (by omega) (by omega) (by rw [i64V_length]; omega), Int.toNat_natCast, i64V_drop hk]
theorem wrap_nat {n : Nat} (h : n < 2 ^ 63) : IntKind.i64.wrap (n : Int) = (n : Int) := Go.IntWalk.i64_in _ (by omega)
theorem wrap_natU {n : Nat} (h : n < 2 ^ 64) : IntKind.u64.wrap (n : Int) = (n : Int) := by rw [IntKind.wrap_u64]; omega

def encBytes (x : List Nat) : List Nat := enc x.length ++ x
def encInts (l : List Int) : List Nat := enc l.length ++ l.flatMap fun n => enc (zz n)

theorem freshA (s : V) (cs : List Nat) (m : Nat) (h : AHeap) (rd : Rd h s cs) (hc : cs.length + m ≤ 2 ^ 47) :
    SCalls Tryd.prog 65 [s, .int .i64 m] h (fun r h' => Acc h h' 5 1 r (bytesV cs)) :=
  (fresh s cs m h rd hc).mono fun r h' ⟨e, o, k⟩ => ⟨o, k, fun j hj => by subst e; simp [idOf] at hj; omega⟩
theorem addUintA {h0 : AHeap} (s : V) (cs : List Nat) (n : Nat) (h : AHeap) (a : Acc h0 h 5 1 s (bytesV cs)) (hc : cs.length ≤ 2 ^ 46) (hn : n < 2 ^ 64) :
    SCalls Tryd.prog 64 [s, .int .u64 n] h (fun r h' => Acc h0 h' 5 1 r (bytesV (cs ++ enc n))) :=
  (addUint s cs n h a.own hc hn).mono fun r h' ⟨o, k, d⟩ => a.step o k d

set_option maxRecDepth 10000 in
theorem pBytes (s x : V) (cs xs : List Nat) (h : AHeap) (rd : Rd h s cs) (rx : Rd h x xs) (hc : cs.length + xs.length ≤ 2 ^ 45) :
    Pure Tryd.prog 47 [s, x] h (.imm (cs ++ encBytes xs).length (bytesV (cs ++ encBytes xs))) := by
  refine Pure.acc (e := 5) (sz := 1) (bytesV_clo _) (by rw [bytesV_length, Nat.mul_one]) (by omega) ?_
  refine SCalls.enterI (c := _) Tryd.func47 rfl (by kernel_rfl) (by simp) ?_
  have hw : IntKind.i64.wrap (10 + (xs.length : Int)) = ((10 + xs.length : Nat) : Int) := by rw [Go.IntWalk.i64_in _ (by omega)]; omega
  have hu := wrap_natU (n := xs.length) (by omega)
  simp only [wpA_region, wpA_seq, seqQ_normal, goI_out, goI_ops, opsA_nil, opsA_cons, stepA_move, stepA_assign, stepA_binOp, stepA_len, stepA_call, thenV_some, eval_tmp, eval_const, put_some, enterF_zero, enterF_succ, aBin_add, absV_int, absV_snil, Nat.reduceEqDiff, reduceCtorEq, List.map_cons, List.map_nil, if_true, if_false, rx.len h (Keep.refl _ _), hw]
  refine callI_of cal65 (freshA s cs (10 + xs.length) h rd (by omega)) fun r1 h1 a1 => ?_
  simp only [goI_ops, opsA_cons, stepA_move, stepA_convert, stepA_len, stepA_call, thenV_some, thenC_some, eval_tmp, put_some, enterF_zero, enterF_succ, Nat.reduceEqDiff, List.map_cons, List.map_nil, if_true, if_false, rx.len h1 a1.keep, aConv_int it_3 it_71, hu]
  refine callI_of cal64 (addUintA r1 cs xs.length h1 a1 (by omega) (by omega)) fun r2 h2 a2 => ?_
  have hl := (enc_le xs.length (by omega)).2
  obtain ⟨v, h3, e3, a3⟩ := a2.app (P := Tryd.prog) (tx := 36) sl_36 (by decide) (rx.src h2 a2.keep) (by rw [bytesV_length, Nat.mul_one]) (by simp only [bytesV_length, List.length_append, lim]; omega) (by simp only [bytesV_length, List.length_append, lim]; omega)
  simp only [wpA_region, wpA_seq, wpA_ret, seqQ_normal, endI_mk, goI_out, goI_ops, opsA_nil, opsA_cons, stepA_move, stepA_assign, stepA_append, thenH_some, eval_tmp, put_some, enterF_zero, enterF_succ, Nat.reduceEqDiff, if_true, if_false, e3, retA_ret, Tryd.results47, resultsA_1]
  exact hid_mk (a3.conv (by rw [← bytesV_append, List.append_assoc]; rfl))

theorem flat_take {α β : Type} (l : List α) (f : α → List β) {i : Nat} (hi : i < l.length) : (l.take (i + 1)).flatMap f = (l.take i).flatMap f ++ f l[i] := by
  rw [List.take_succ_eq_append_getElem hi, List.flatMap_append]; simp
theorem flat_len {α : Type} (f : α → List Nat) (m : Nat) (h : ∀ x, (f x).length ≤ m) : ∀ l : List α, (l.flatMap f).length ≤ m * l.length
  | [] => by simp
  | x :: l => by
    have := flat_len f m h l
    have := h x
    simp only [List.flatMap_cons, List.length_append, List.length_cons, Nat.mul_add]
    omega
theorem enc_flat {l : List Int} (hl : ∀ n ∈ l, -2 ^ 63 ≤ n ∧ n < 2 ^ 63) : (l.flatMap fun n => enc (zz n)).length ≤ 10 * l.length := by
  induction l with
  | nil => simp
  | cons n l ih =>
    have h1 := ih fun n hn => hl n (by simp [hn])
    have h2 := hl n (by simp)
    have := (enc_le (zz n) (zz_lt n h2.1 h2.2)).2
    simp only [List.flatMap_cons, List.length_append, List.length_cons]
    omega

set_option maxRecDepth 10000 in
theorem pInts (s : V) (cs : List Nat) (l : List Int) (h : AHeap) (rd : Rd h s cs) (hl : ∀ n ∈ l, -2 ^ 63 ≤ n ∧ n < 2 ^ 63) (hc : cs.length + 10 * l.length ≤ 2 ^ 45) :
    Pure Tryd.prog 44 [s, .imm l.length (i64V l)] h (.imm (cs ++ encInts l).length (bytesV (cs ++ encInts l))) := by
  refine Pure.acc (e := 5) (sz := 1) (bytesV_clo _) (by rw [bytesV_length, Nat.mul_one]) (by omega) ?_
  refine SCalls.enterI (c := _) Tryd.func44 rfl (by kernel_rfl) (by simp) ?_
  have hw : IntKind.i64.wrap (10 + (l.length : Int)) = ((10 + l.length : Nat) : Int) := by rw [Go.IntWalk.i64_in _ (by omega)]; omega
  have hu := wrap_natU (n := l.length) (by omega)
  simp only [wpA_region, wpA_seq, seqQ_normal, goI_out, goI_ops, opsA_nil, opsA_cons, stepA_move, stepA_assign, stepA_binOp, stepA_len, stepA_call, thenV_some, eval_tmp, eval_const, put_some, enterF_zero, enterF_succ, aBin_add, absV_int, absV_snil, aLen_imm, Nat.reduceEqDiff, reduceCtorEq, List.map_cons, List.map_nil, if_true, if_false, kt_33, hw]
  refine callI_of cal65 (freshA s cs (10 + l.length) h rd (by omega)) fun r1 h1 a1 => ?_
  simp only [goI_ops, opsA_cons, stepA_move, stepA_convert, stepA_len, stepA_call, thenV_some, thenC_some, eval_tmp, put_some, enterF_zero, enterF_succ, aLen_imm, Nat.reduceEqDiff, List.map_cons, List.map_nil, if_true, if_false, kt_33, aConv_int it_3 it_71, hu]
  refine callI_of cal64 (addUintA r1 cs l.length h1 a1 (by omega) (by omega)) fun r2 h2 a2 => ?_
  simp only [wpA_region, wpA_seq, wpA_block, wpA_loop, seqQ_normal, goI_out, goI_ops, opsA_nil, opsA_cons, stepA_move, stepA_assign, stepA_len, thenV_some, eval_tmp, eval_const, put_some, enterF_zero, enterF_succ, absV_int, aLen_imm, Nat.reduceEqDiff, if_true, if_false, kt_33]
  refine SWp.loopG (α := V × Nat) (fun x f h' => f 5 = x.1 ∧ f 17 = .imm l.length (i64V l) ∧ f 18 = .int .i64 (l.length : Nat) ∧ f 19 = .int .i64 (x.2 : Nat) ∧ Acc h h' 5 1 x.1 (bytesV (cs ++ enc l.length ++ (l.take x.2).flatMap fun n => enc (zz n))) ∧ x.2 ≤ l.length) (fun x => l.length - x.2) (r2, 0)
    ⟨rfl, rfl, rfl, rfl, by simpa using a2, Nat.zero_le _⟩ ?_
  rintro ⟨v, i⟩ f h3 ⟨f5, f17, f18, f19, a3, hi⟩
  simp only at f5 f19 a3 hi
  refine wpI_sound (by kernel_rfl) ?_
  by_cases hlt : i < l.length
  · have c1 : decide ((i : Int) < (l.length : Int)) = true := by simp; omega
    have hm := hl _ (List.getElem_mem hlt)
    have hw1 : IntKind.i64.wrap ((i : Int) + 1) = ((i + 1 : Nat) : Int) := by rw [Go.IntWalk.i64_in _ (by omega)]; rfl
    have hlen : (cs ++ enc l.length ++ (l.take i).flatMap fun n => enc (zz n)).length ≤ 2 ^ 46 := by
      have h1 := enc_flat (l := l.take i) fun n hn => hl n (List.mem_of_mem_take hn)
      have h2 := (enc_le l.length (by omega)).2
      rw [List.length_take] at h1
      simp only [List.length_append]
      omega
    simp only [wpA_skip, wpA_region, wpA_seq, wpA_cond, wpA_block, condI_true, seqQ_normal, goI_out, goI_ops, opsA_nil, opsA_cons, stepA_move, stepA_assign, stepA_load, stepA_binOp, stepA_indexAddr, stepA_call, thenV_some, eval_tmp, put_some, aBin_lss, aLoad_eq, loadGo_one, aPlace_at, Nat.reduceEqDiff, List.map_cons, List.map_nil, if_true, if_false, lt_3, f5, f17, f18, f19, c1, i64V_ix hlt ss_33]
    refine callI_pure cal66 (zigzag _ h3 hm.1 hm.2) ?_
    simp only [goI_ops, opsA_cons, stepA_call, eval_tmp, put_some, Nat.reduceEqDiff, List.map_cons, List.map_nil, if_true, if_false]
    refine callI_of cal64 (addUintA v _ _ h3 a3 hlen (zz_lt _ hm.1 hm.2)) fun r4 h4 a4 => ?_
    simp only [wpA_region, seqQ_normal, blkQ_normal, endI_mk, andThen_normal, goI_out, goI_ops, opsA_nil, opsA_cons, stepA_move, stepA_assign, stepA_binOp, thenV_some, eval_tmp, eval_const, put_some, aBin_add, absV_int, Nat.reduceEqDiff, if_true, if_false, f19, hw1]
    refine hid_mk ⟨(r4, i + 1), ⟨rfl, f17, f18, rfl, ?_, by simp only; omega⟩, by simp only; omega⟩
    refine a4.conv ?_
    rw [flat_take l _ hlt, List.append_assoc]
  · have c1 : decide ((i : Int) < (l.length : Int)) = false := by simp; omega
    simp only [wpA_region, wpA_seq, wpA_cond, wpA_exit, wpA_ret, condI_false, seqQ_normal, seqQ_exit, blkQ_exit, endI_mk, goE, andThen_exit, goI_out, goI_ops, opsA_nil, opsA_cons, stepA_move, stepA_assign, stepA_binOp, thenV_some, eval_tmp, put_some, aBin_lss, Nat.reduceEqDiff, if_true, if_false, f5, f18, f19, c1, retA_ret, Tryd.results44, resultsA_1]
    refine hid_mk (a3.conv ?_)
    rw [List.take_of_length_le (by omega), List.append_assoc]
    rfl
end Go.Proofs.YtpmmbcifhallbaaDoor.Pk
