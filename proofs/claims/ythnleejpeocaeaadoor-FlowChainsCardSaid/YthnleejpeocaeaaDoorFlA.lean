/-
  What functions of the program do, told of abstract states. Conditions: as each theorem says.
-/
import Derived.Test.YthnleejpeocaeaaDoorExO
namespace Go.Proofs.YthnleejpeocaeaaDoor.Pk
open Go Go.Proofs Go.Proofs.YthnleejpeocaeaaDoor.Ab
set_option linter.unusedVariables false
set_option linter.unusedSimpArgs false

/-! ### Records and vertices -/
structure Rec where
  k : Int
  v : Int
  t : Int
  deriving DecidableEq
def recE (r : Rec) : List V := [.int .i64 r.k, .int .i64 r.v, .int .i64 r.t]
theorem recE_len (r : Rec) : (recE r).length = 3 := rfl
theorem recE_one (r : Rec) : (recE r).all (·.one) = true := rfl
theorem recE_clo (r : Rec) : CloL (recE r) := CloL.cons (Clo.int _ _) (CloL.cons (Clo.int _ _) (CloL.cons (Clo.int _ _) CloL.nil))
structure Vx where
  kind : Int
  frm : List Int
  e : Ex
  n : Int
def encX (v : Vx) : List V := [.int .i64 v.kind, .imm v.frm.length (i64V v.frm)] ++ encE v.e ++ [.int .i64 v.n]
theorem encX_len (v : Vx) : (encX v).length = 6 := by simp [encX, encE_len]
theorem encX_one (v : Vx) : (encX v).all (·.one) = true := by
  have := encE_one v.e
  simp only [encX, List.all_append, this]
  rfl
theorem litR1 (h : AHeap) (k v t : Int) : aBuildSlice Tryd.prog 28 1 [(0, .agg [.int .i64 k, .int .i64 v, .int .i64 t])] h = some (.sl h.n 0 1 1, h.push (.cells [.int .i64 k, .int .i64 v, .int .i64 t] 24 none)) := by rw [buildSlice_go sl_28]; rfl
theorem litR2 (h : AHeap) (a b : Rec) : aBuildSlice Tryd.prog 28 2 [(0, .agg (recE a)), (1, .agg (recE b))] h = some (.sl h.n 0 2 2, h.push (.cells ([a, b].flatMap recE) 24 none)) := by rw [buildSlice_go sl_28]; rfl

/-- So many copies. -/
def copR (r : Rec) : Nat → List Rec
  | 0 => []
  | i + 1 => copR r i ++ [⟨r.k, w64 (r.v + i), r.t⟩]
theorem copR_len (r : Rec) : ∀ i, (copR r i).length = i
  | 0 => rfl
  | i + 1 => by simp [copR, copR_len r i]

set_option maxHeartbeats 1000000 in
set_option maxRecDepth 10000 in
theorem pCopies (n : Int) (hn : n ≤ 4) (r : Rec) (h : AHeap) : Pure Tryd.prog 20 [.int .i64 n, .agg (recE r)] h (.imm n.toNat ((copR r n.toNat).flatMap recE)) := by
  refine Pure.of (Clo.imm (rows_clo recE_clo _)) ?_
  refine SCalls.enterI (c := _) Tryd.func20 rfl (by kernel_rfl) (by simp) ?_
  simp only [wpA_region, wpA_seq, wpA_block, wpA_loop, seqQ_normal, goI_out, goI_ops, opsA_nil, opsA_cons, stepA_assign, stepA_box, thenH_some, eval_tmp, eval_const, enterF_zero, enterF_succ, absV_int, absV_snil, cells_agg, aBox_eq, Option.map_some, recE]
  obtain ⟨H, hH⟩ : ∃ x, x = h.push (.cells [.int .i64 r.k, .int .i64 r.v, .int .i64 r.t] 24 none) := ⟨_, rfl⟩
  have g3 : H.get h.n = .cells [.int .i64 r.k, .int .i64 r.v, .int .i64 r.t] 24 none := by rw [hH]; exact get_push_new
  have kH : Keep h H none_ := by rw [hH]; exact Keep.push _ _ _
  have nH : h.n < H.n := by rw [hH, push_n]; omega
  rw [← hH]
  refine SWp.loopG (α := Nat × V) (fun x f h' => f 0 = .int .i64 n ∧ f 3 = .ptr h.n 0 ∧ f 5 = x.2 ∧ f 6 = .int .i64 (x.1 : Nat) ∧ x.1 ≤ n.toNat ∧ Acc H h' 24 3 x.2 ((copR r x.1).flatMap recE)) (fun x => n.toNat - x.1) (0, .snil) ⟨rfl, rfl, rfl, rfl, Nat.zero_le _, Acc.nil (Keep.refl _ _)⟩ ?_
  rintro ⟨i, v⟩ f h1 ⟨f0, f3, f5, f6, hi, a1⟩
  simp only at f5 f6 hi a1
  refine wpI_sound (by kernel_rfl) ?_
  by_cases hlt : (i : Int) < n
  rotate_left
  · have c3 : decide ((i : Int) < n) = false := by simpa using hlt
    have hin : i = n.toNat := by omega
    obtain ⟨h2, c, k⟩ := a1.cast (n := n.toNat) (by rw [rows_len recE_len, copR_len, hin]) (by decide)
    simp only [wpA_region, wpA_seq, wpA_cond, wpA_exit, wpA_ret, condI_false, seqQ_normal, seqQ_exit, blkQ_exit, endI_mk, goE, andThen_exit, goI_out, goI_ops, opsA_nil, opsA_cons, stepA_move, stepA_assign, stepA_binOp, thenV_some, eval_tmp, put_some, aBin_lss, Nat.reduceEqDiff, reduceCtorEq, if_true, if_false, f0, f5, f6, c3, retA_ret, Tryd.results20, resultsA_1]
    exact hid_mk ⟨h2, by rw [hin] at c; exact c, kH.trans' k⟩
  · have c3 : decide ((i : Int) < n) = true := by simpa using hlt
    have g1 := (a1.keep.get h.n nH (by simp [none_])).trans g3
    have w2 : IntKind.i64.wrap (((i : Nat) : Int) + 1) = ((i + 1 : Nat) : Int) := by rw [Go.IntWalk.i64_in _ (by omega)]; omega
    obtain ⟨v', h2, q1, q2⟩ := Acc.elemM (P := Tryd.prog) sl_28 (a1.on (Keep.push h1 (.cells [.int .i64 r.k, .int .i64 (w64 (r.v + i)), .int .i64 r.t] 24 none) _)) (xs := [.int .i64 r.k, .int .i64 (w64 (r.v + i)), .int .i64 r.t]) (by decide) rfl rfl (fun m hm => by
      rw [rows_len recE_len, copR_len] at hm
      have hm' : m * 3 = i * 3 + 3 := hm
      show m * 24 ≤ 140737488355328 ∧ m ≤ 140737488355328
      omega)
    have lit := litR1 (h1.push (.cells [.int .i64 r.k, .int .i64 (w64 (r.v + i)), .int .i64 r.t] 24 none)) r.k (w64 (r.v + i)) r.t
    unfold w64 at q1 q2 lit
    simp only [push_n] at q1 lit
    simp only [wpA_skip, wpA_region, wpA_seq, wpA_cond, wpA_block, condI_true, seqQ_normal, blkQ_normal, endI_mk, andThen_normal, goI_out, goI_ops, opsA_nil, opsA_cons, stepA_move, stepA_assign, stepA_alloc, stepA_buildSlice, stepA_load, stepA_store, stepA_binOp, stepA_fieldAddr, stepA_append, thenV_some, thenH_some, thenS_some, eval_tmp, eval_const, put_some, put_none, aBin_add, aBin_lss, absV_int, cells_int, cells_agg, one_int, all_nil, all_cons, aField_eq, fieldGo_ptr, aLoad_eq, loadGo_one, loadGo_row, aPlace_ptr, dropC_cells, aStore_eq, storeGo_ptr, setC_row, setAll_nil, setAll_cons, aAlloc_eq, get_push_new, set_push, Nat.reduceEqDiff, Nat.reduceAdd, Nat.reduceLeDiff, reduceCtorEq, List.map_cons, List.map_nil, Option.map_some, Nat.zero_add, Nat.zero_le, List.length_cons, List.length_nil, List.drop_zero, List.drop_succ_cons, List.take_succ_cons, List.take_nil, List.set_cons_zero, List.set_cons_succ, if_true, if_false, Bool.and_self, Nat.le_refl, ft_24_1, lt_2, lt_24, zc_24, zt_2, zt_24, f0, f3, f5, f6, c3, g1, lit, q1, w2]
    exact hid_mk ⟨(i + 1, v'), ⟨f0, f3, rfl, rfl, by simp only; omega, by simp only [copR, List.flatMap_append, List.flatMap_cons, List.flatMap_nil, List.append_nil]; exact q2⟩, by simp only; omega⟩
end Go.Proofs.YthnleejpeocaeaaDoor.Pk
