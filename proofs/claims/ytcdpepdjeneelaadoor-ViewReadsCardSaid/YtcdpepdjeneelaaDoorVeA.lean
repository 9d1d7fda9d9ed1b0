/-
  What functions of the program do, told of abstract states. Conditions: as each theorem says.
-/
import Derived.Test.YtcdpepdjeneelaaDoorTyV
import Derived.Test.YtcdpepdjeneelaaDoorAbD
import Derived.Test.YtcdpepdjeneelaaDoorAbD
import Derived.Test.YtcdpepdjeneelaaDoorAbD
import Derived.Test.YtcdpepdjeneelaaDoorAbD
namespace Go.Proofs.YtcdpepdjeneelaaDoor.Pk
open Go Go.Proofs Go.Proofs.YtcdpepdjeneelaaDoor.Ab
set_option linter.unusedVariables false
set_option linter.unusedSimpArgs false
theorem inc64 {i n : Nat} (h : i < n) (hn : n ≤ 2 ^ 62) : IntKind.i64.wrap ((i : Int) + 1) = ((i + 1 : Nat) : Int) := by rw [Go.IntWalk.i64_in _ (by omega)]; rfl
theorem i64V_drop {l : List Int} {k : Nat} (hk : k < l.length) : (i64V l).drop (k * 1) = .int .i64 l[k] :: i64V (l.drop (k + 1)) := by
  rw [Nat.mul_one]
  unfold i64V
  rw [← List.map_drop, List.drop_eq_getElem_cons hk]
  rfl
theorem i64V_ix {l : List Int} {k : Nat} (hk : k < l.length) {t : TypeId} (hs : slSz Tryd.prog t = some 1) : aIndexAddr Tryd.prog t (.imm l.length (i64V l)) (.int .i64 (k : Int)) = some (.at (.int .i64 l[k] :: i64V (l.drop (k + 1)))) := by
  rw [index_imm hs (by omega) (by omega) (by rw [i64V_length]; omega), Int.toNat_natCast, i64V_drop hk]
structure Rcd where
  k : Int
  v : Int
  t : Int
  deriving DecidableEq
structure Ent where
  kind : Int
  task : Int
  epoch : Int
  txn : Int
  log : Int
  r : Rcd
  del : Bool
  offs : List Int
  order : List Int
  deriving DecidableEq
def rcdE (r : Rcd) : List V := [.int .i64 r.k, .int .i64 r.v, .int .i64 r.t]
def entE (x : Ent) : List V := [.int .i64 x.kind, .int .i64 x.task, .int .i64 x.epoch, .int .i64 x.txn, .int .i64 x.log, .int .i64 x.r.k, .int .i64 x.r.v, .int .i64 x.r.t, .bool x.del, .imm x.offs.length (i64V x.offs), .imm x.order.length (i64V x.order)]
theorem rcdE_len (r : Rcd) : (rcdE r).length = 3 := rfl
theorem entE_len (r : Ent) : (entE r).length = 11 := rfl
theorem rcdE_clo (r : Rcd) : CloL (rcdE r) := CloL.cons (Clo.int _ _) (CloL.cons (Clo.int _ _) (CloL.cons (Clo.int _ _) CloL.nil))
theorem entE_clo (r : Ent) : CloL (entE r) := CloL.cons (Clo.int _ _) (CloL.cons (Clo.int _ _) (CloL.cons (Clo.int _ _) (CloL.cons (Clo.int _ _) (CloL.cons (Clo.int _ _) (CloL.cons (Clo.int _ _) (CloL.cons (Clo.int _ _) (CloL.cons (Clo.int _ _) (CloL.cons (Clo.bool _) (CloL.cons (Clo.imm (i64V_clo _)) (CloL.cons (Clo.imm (i64V_clo _)) CloL.nil))))))))))
def zR : Rcd := ⟨0, 0, 0⟩
def zE : Ent := ⟨0, 0, 0, 0, 0, zR, false, [], []⟩
def in64 (n : Int) : Prop := -2 ^ 63 ≤ n ∧ n < 2 ^ 63
def rIn (r : Rcd) : Prop := in64 r.k ∧ in64 r.v ∧ in64 r.t
def fit (n : Int) : Bool := decide (0 ≤ n) && decide (n ≤ 1048576)
def timeOk (t : Int) : Bool := decide (0 ≤ t) && decide (t ≤ 1099511627776)
/-- No kind has what it has no part in. -/
def useB (x : Ent) : Bool :=
  (decide (2 ≤ x.kind ∧ x.kind ≤ 5) || (x.task == 0 && x.epoch == 0)) && (decide (2 ≤ x.kind ∧ x.kind ≤ 4) || x.txn == 0) && (decide (x.kind ≤ 2) || (x.log == 0 && decide (x.r = zR))) &&
    (decide (x.kind = 2) || !x.del) && (decide (x.kind = 3) || (x.offs.length == 0 && x.order.length == 0))
def mayB (x : Ent) : Bool :=
  decide (1 ≤ x.kind) && decide (x.kind ≤ 6) && fit x.task && fit x.epoch && fit x.txn && fit x.log && timeOk x.r.t && decide (x.offs.length ≤ 8) && x.offs.all fit && decide (x.order.length ≤ 256) && x.order.all fit && useB x
theorem may_iff (x : Ent) : mayB x = true ↔ (1 ≤ x.kind ∧ x.kind ≤ 6) ∧ fit x.task = true ∧ fit x.epoch = true ∧ fit x.txn = true ∧ fit x.log = true ∧ timeOk x.r.t = true ∧ x.offs.length ≤ 8 ∧ (∀ n ∈ x.offs, fit n = true) ∧ x.order.length ≤ 256 ∧ (∀ n ∈ x.order, fit n = true) ∧ useB x = true := by
  simp only [mayB, Bool.and_eq_true, decide_eq_true_eq, List.all_eq_true, and_assoc]
theorem fit_iff (n : Int) : fit n = true ↔ 0 ≤ n ∧ n ≤ 1048576 := by simp [fit]
theorem time_iff (n : Int) : timeOk n = true ↔ 0 ≤ n ∧ n ≤ 1099511627776 := by simp [timeOk]
theorem ax_flags : arIx Tryd.prog 107 = some (8, 2, true) := by kernel_rfl
set_option maxRecDepth 10000 in
theorem pNums (l : List Int) (h : AHeap) (hl : l.length ≤ 2 ^ 47) : Pure Tryd.prog 47 [.imm l.length (i64V l)] h (.bool (l.all fit)) := by
  refine SCalls.enterI (c := _) Tryd.func47 rfl (by kernel_rfl) (by simp) ?_
  simp only [wpA_region, wpA_seq, wpA_block, wpA_loop, seqQ_normal, goI_out, goI_ops, opsA_nil, opsA_cons, stepA_move, stepA_assign, stepA_len, thenV_some, eval_tmp, eval_const, put_some, enterF_zero, enterF_succ, absV_int, absV_bool, aLen_imm, Nat.reduceEqDiff, reduceCtorEq, if_true, if_false, kt_39]
  refine SWp.loopG (α := Nat) (fun i f h' => h' = h ∧ f 5 = .imm l.length (i64V l) ∧ f 6 = .int .i64 l.length ∧ f 7 = .int .i64 (i : Nat) ∧ i ≤ l.length ∧ (l.take i).all fit = true) (fun i => l.length - i) 0
    ⟨rfl, rfl, rfl, rfl, Nat.zero_le _, rfl⟩ ?_
  rintro i f h' ⟨rfl, f5, f6, f7, hi, ha⟩
  refine wpI_sound (by kernel_rfl) ?_
  by_cases hlast : i < l.length
  · have d1 : decide ((i : Int) < ((l.length : Nat) : Int)) = true := by simp; omega
    have hx := i64V_ix (l := l) hlast ss_39
    have hall : l.all fit = true → fit l[i] = true := fun hh => List.all_eq_true.1 hh _ (List.getElem_mem hlast)
    by_cases c1 : l[i] < 0
    · have hG : l.all fit = false := by
        cases hh : l.all fit with
        | false => rfl
        | true => have := (fit_iff _).1 (hall hh); omega
      simp only [wpA_skip, wpA_region, wpA_seq, wpA_cond, wpA_block, wpA_ret, condI_true, seqQ_normal, seqQ_ret, blkQ_ret, endI_mk, goE, andThen_ret, goI_out, goI_ops, opsA_nil, opsA_cons, opsA_guardS, gvI_tf, slotAt_zero, slotAt_succ, stepA_move, stepA_assign, stepA_pick, stepA_load, stepA_binOp, stepA_indexAddr, thenV_some, pickV_true, eval_tmp, eval_const, put_some, aBin_lss, absV_int, absV_bool, aLoad_eq, loadGo_one, aPlace_at, decide_true, Nat.reduceEqDiff, if_true, if_false, lt_3, f5, f6, f7, d1, hx, c1, retA_ret, Tryd.results47, resultsA_1]
      exact hid_mk ⟨by rw [hG], rfl⟩
    by_cases c2 : 1048576 < l[i]
    · have hG : l.all fit = false := by
        cases hh : l.all fit with
        | false => rfl
        | true => have := (fit_iff _).1 (hall hh); omega
      simp only [wpA_skip, wpA_region, wpA_seq, wpA_cond, wpA_block, wpA_ret, condI_true, seqQ_normal, seqQ_ret, blkQ_ret, endI_mk, goE, andThen_ret, goI_out, goI_ops, opsA_nil, opsA_cons, opsA_guardS, gvI_same, slotAt_zero, slotAt_succ, stepA_move, stepA_assign, stepA_pick, stepA_load, stepA_binOp, stepA_indexAddr, thenV_some, pickV_false, eval_tmp, eval_const, put_some, aBin_lss, aBin_gtr, absV_int, absV_bool, aLoad_eq, loadGo_one, aPlace_at, decide_true, decide_false, Nat.reduceEqDiff, if_true, if_false, lt_3, f5, f6, f7, d1, hx, c1, c2, retA_ret, Tryd.results47, resultsA_1]
      exact hid_mk ⟨by rw [hG], rfl⟩
    · have hf : fit l[i] = true := (fit_iff _).2 (by omega)
      have hw := inc64 hlast (by omega)
      simp only [wpA_skip, wpA_region, wpA_seq, wpA_cond, wpA_block, condI_true, condI_false, seqQ_normal, blkQ_normal, endI_mk, andThen_normal, goI_out, goI_ops, opsA_nil, opsA_cons, opsA_guardS, gvI_same, slotAt_zero, slotAt_succ, stepA_move, stepA_assign, stepA_pick, stepA_load, stepA_binOp, stepA_indexAddr, thenV_some, pickV_false, eval_tmp, eval_const, put_some, aBin_add, aBin_lss, aBin_gtr, absV_int, absV_bool, aLoad_eq, loadGo_one, aPlace_at, decide_false, Nat.reduceEqDiff, if_true, if_false, lt_3, f5, f6, f7, d1, hx, c1, c2, hw]
      refine hid_mk ⟨i + 1, ⟨rfl, f5, f6, rfl, hlast, ?_⟩, by omega⟩
      rw [List.take_succ_eq_append_getElem hlast, List.all_append, ha]
      simp [hf]
  · have d1 : decide ((i : Int) < ((l.length : Nat) : Int)) = false := by simp; omega
    have hG : l.all fit = true := by rw [show i = l.length by omega, List.take_length] at ha; exact ha
    simp only [wpA_region, wpA_seq, wpA_cond, wpA_exit, wpA_ret, condI_false, seqQ_normal, seqQ_exit, blkQ_exit, endI_mk, goE, andThen_exit, goI_out, goI_ops, opsA_nil, opsA_cons, stepA_assign, stepA_binOp, thenV_some, eval_tmp, eval_const, put_some, aBin_lss, absV_bool, Nat.reduceEqDiff, if_true, if_false, f6, f7, d1, retA_ret, Tryd.results47, resultsA_1]
    exact hid_mk ⟨by rw [hG], rfl⟩
theorem pTime (t : Int) (h : AHeap) : Pure Tryd.prog 48 [.int .i64 t] h (.bool (timeOk t)) := by
  refine SCalls.enterI (c := _) Tryd.func48 rfl (by kernel_rfl) (by simp) ?_
  by_cases h1 : 0 ≤ t
  · simp only [wpA_region, wpA_seq, wpA_ret, seqQ_normal, endI_mk, goI_out, goI_ops, opsA_nil, opsA_cons, opsA_guardS, gvI_same, slotAt_zero, slotAt_succ, stepA_move, stepA_assign, stepA_pick, stepA_binOp, thenV_some, pickV_true, eval_tmp, eval_const, put_some, enterF_zero, enterF_succ, aBin_leq, aBin_geq, absV_int, absV_bool, decide_true, Nat.reduceEqDiff, reduceCtorEq, if_true, if_false, h1, retA_ret, Tryd.results48, resultsA_1]
    exact hid_mk ⟨by simp [timeOk, h1], rfl⟩
  · simp only [wpA_region, wpA_seq, wpA_ret, seqQ_normal, endI_mk, goI_out, goI_ops, opsA_nil, opsA_cons, opsA_guardS, gvI_ft, slotAt_zero, slotAt_succ, stepA_move, stepA_assign, stepA_pick, stepA_binOp, thenV_some, pickV_false, eval_tmp, eval_const, put_some, enterF_zero, enterF_succ, aBin_geq, absV_int, absV_bool, decide_false, Nat.reduceEqDiff, reduceCtorEq, if_true, if_false, h1, retA_ret, Tryd.results48, resultsA_1]
    exact hid_mk ⟨by simp [timeOk, h1], rfl⟩
end Go.Proofs.YtcdpepdjeneelaaDoor.Pk
