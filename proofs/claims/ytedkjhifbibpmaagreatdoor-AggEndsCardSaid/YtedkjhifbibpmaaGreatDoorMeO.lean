/-
  What functions of the program do, told of abstract states. Conditions: as each theorem says.
-/
import Derived.Shelf.SlSortCmp.WholeK
import Derived.Test.YtedkjhifbibpmaaGreatDoorProg
import Derived.Test.YtedkjhifbibpmaaGreatDoorMeK
import Derived.Test.YtedkjhifbibpmaaGreatDoorAbD
import Derived.Test.YtedkjhifbibpmaaGreatDoorMeV
namespace Go.Proofs.YtedkjhifbibpmaaGreatDoor.Pk
open Go.Shelf
def sfW_ren : Go.Shelf.Ren := ⟨fun | 6 => 163 | 15 => 190 | 14 => 201 | 28 => 225 | 29 => 226 | 20 => 243 | 21 => 244 | 22 => 245 | 23 => 246 | 24 => 247 | 25 => 248 | 26 => 249 | 27 => 250 | 46 => 269 | 47 => 259 | 48 => 260 | 49 => 270 | 50 => 271 | 57 => 278 | n => n, fun | 22 => 35 | 24 => 40 | 25 => 289 | 3 => 3 | 39 => 312 | 0 => 0 | 53 => 353 | 55 => 221 | 4 => 4 | 46 => 346 | 45 => 345 | 50 => 265 | 5 => 5 | 9 => 9 | 66 => 375 | 70 => 379 | 76 => 388 | 77 => 172 | n => n, fun | n => n⟩
theorem sfW : Go.Proofs.SlLaysF0.n6 Tryz.prog sfW_ren := {
  mixed := by kernel_rfl
  f6 := ⟨Tryz.f163.name, by decide, Tryz.func163.trans (congrArg some (by kernel_rfl))⟩
  f14 := ⟨Tryz.f201.name, by decide, Tryz.func201.trans (congrArg some (by kernel_rfl))⟩
  f15 := Tryz.func190.trans (congrArg some (by kernel_rfl))
  f20 := ⟨Tryz.f243.name, by decide, Tryz.func243.trans (congrArg some (by kernel_rfl))⟩
  f21 := ⟨Tryz.f244.name, by decide, Tryz.func244.trans (congrArg some (by kernel_rfl))⟩
  f22 := ⟨Tryz.f245.name, by decide, Tryz.func245.trans (congrArg some (by kernel_rfl))⟩
  f23 := ⟨Tryz.f246.name, by decide, Tryz.func246.trans (congrArg some (by kernel_rfl))⟩
  f24 := ⟨Tryz.f247.name, by decide, Tryz.func247.trans (congrArg some (by kernel_rfl))⟩
  f25 := ⟨Tryz.f248.name, by decide, Tryz.func248.trans (congrArg some (by kernel_rfl))⟩
  f26 := ⟨Tryz.f249.name, by decide, Tryz.func249.trans (congrArg some (by kernel_rfl))⟩
  f27 := ⟨Tryz.f250.name, by decide, Tryz.func250.trans (congrArg some (by kernel_rfl))⟩
  f28 := Tryz.func225.trans (congrArg some (by kernel_rfl))
  f29 := Tryz.func226.trans (congrArg some (by kernel_rfl))
  f46 := ⟨Tryz.f269.name, by decide, Tryz.func269.trans (congrArg some (by kernel_rfl))⟩
  f47 := Tryz.func259.trans (congrArg some (by kernel_rfl))
  f48 := Tryz.func260.trans (congrArg some (by kernel_rfl))
  f49 := ⟨Tryz.f270.name, by decide, Tryz.func270.trans (congrArg some (by kernel_rfl))⟩
  f50 := ⟨Tryz.f271.name, by decide, Tryz.func271.trans (congrArg some (by kernel_rfl))⟩
  f57 := ⟨Tryz.f278.name, by decide, Tryz.func278.trans (congrArg some (by kernel_rfl))⟩
  t0 := Tryz.underlying0
  a0 := Tryz.isAgg0
  z0 := Tryz.sizeOf0
  v0 := Tryz.zeroValue0
  t3 := Tryz.underlying3
  a3 := Tryz.isAgg3
  z3 := Tryz.sizeOf3
  v3 := Tryz.zeroValue3
  t4 := Tryz.underlying4
  a4 := Tryz.isAgg4
  z4 := Tryz.sizeOf4
  v4 := Tryz.zeroValue4
  t5 := Tryz.underlying5
  a5 := Tryz.isAgg5
  z5 := Tryz.sizeOf5
  v5 := Tryz.zeroValue5
  t9 := Tryz.underlying9
  a9 := Tryz.isAgg9
  z9 := Tryz.sizeOf9
  v9 := Tryz.zeroValue9
  t22 := Tryz.underlying35
  a22 := Tryz.isAgg35
  z22 := Tryz.sizeOf35
  v22 := Tryz.zeroValue35
  t25 := Tryz.underlying289
  a25 := Tryz.isAgg289
  z25 := Tryz.sizeOf289
  v25 := Tryz.zeroValue289
  t39 := Tryz.underlying312
  a39 := Tryz.isAgg312
  z39 := Tryz.sizeOf312
  v39 := Tryz.zeroValue312
  t45 := Tryz.underlying345
  a45 := Tryz.isAgg345
  z45 := Tryz.sizeOf345
  v45 := Tryz.zeroValue345
  t46 := Tryz.underlying346
  a46 := Tryz.isAgg346
  z46 := Tryz.sizeOf346
  v46 := Tryz.zeroValue346
  t50 := Tryz.underlying265
  a50 := Tryz.isAgg265
  z50 := Tryz.sizeOf265
  v50 := Tryz.zeroValue265
  t53 := Tryz.underlying353
  a53 := Tryz.isAgg353
  z53 := Tryz.sizeOf353
  v53 := Tryz.zeroValue353
  t55 := Tryz.underlying221
  a55 := Tryz.isAgg221
  z55 := Tryz.sizeOf221
  v55 := Tryz.zeroValue221
  t66 := Tryz.underlying375
  a66 := Tryz.isAgg375
  z66 := Tryz.sizeOf375
  v66 := Tryz.zeroValue375
  t70 := Tryz.underlying379
  a70 := Tryz.isAgg379
  z70 := Tryz.sizeOf379
  v70 := Tryz.zeroValue379
  t76 := Tryz.underlying388
  a76 := Tryz.isAgg388
  z76 := Tryz.sizeOf388
  v76 := Tryz.zeroValue388
  t77 := Tryz.underlying172
  a77 := Tryz.isAgg172
  z77 := Tryz.sizeOf172
  v77 := Tryz.zeroValue172 }
end Go.Proofs.YtedkjhifbibpmaaGreatDoor.Pk
namespace Go.Proofs.YtedkjhifbibpmaaGreatDoor.Pk
open Go Go.Proofs Go.Proofs.YtedkjhifbibpmaaGreatDoor.Ab Go.Sort
set_option linter.unusedVariables false
set_option linter.unusedSimpArgs false
set_option maxRecDepth 20000 in
theorem then_eq {K : Kt} {x : Option V} {v : V} {d : Option Tmp} {f : AFrame} {h : AHeap} (e : x = some v) (g : @thenV (some v) d K f h) : @thenV x d K f h := e ▸ g
set_option maxRecDepth 20000 in
theorem len64 (h : AHeap) (n : Int) (hn : n = 0 ∨ n = 1) : Pure Tryz.prog 226 [.int .u64 n] h (.int .i64 n) := by
  refine Pure.val (Clo.int _ _) ?_
  refine SCalls.enterI (c := _) Tryz.func226 rfl (by kernel_rfl) (by simp) ?_
  have w00 : IntKind.u8.wrap 0 = 0 := by decide
  have w01 : IntKind.u8.wrap 1 = 1 := by decide
  have w1 : IntKind.i64.wrap 1 = 1 := by decide
  have w0 : IntKind.i64.wrap 0 = 0 := by decide
  have w2 : IntKind.i64.wrap (0 + 0) = 0 := by decide
  have w3 : IntKind.i64.wrap (0 + 1) = 1 := by decide
  rcases hn with rfl | rfl
  · simp only [wpA_skip, wpA_region, wpA_seq, wpA_cond, condI_false, seqQ_normal, goI_out, goI_ops, opsA_nil, opsA_cons, stepA_move, stepA_assign, stepA_binOp, stepA_convert, stepA_index, thenV_some, thenC_some, eval_tmp, eval_const, put_some, enterF_zero, enterF_succ, aBin_geq, aConv_int, absV_int, absV_str, Int.reduceLE, Option.some.injEq, decide_false, Nat.reduceEqDiff, reduceCtorEq, if_true, if_false, it_221, it_5, w00]
    refine then_eq (v := .int .u8 0) (by kernel_rfl) ?_
    simp only [wpA_ret, seqQ_normal, endI_mk, goI_out, goI_ops, opsA_nil, opsA_cons, stepA_assign, stepA_binOp, stepA_convert, thenV_some, thenC_some, eval_tmp, put_some, enterF_succ, aBin_add, aConv_int, Option.some.injEq, Nat.reduceEqDiff, if_true, if_false, it_3, it_5, w0, w2, retA_ret, Tryz.results226, resultsA_1]
    exact hid_mk ⟨rfl, Keep.refl _ _⟩
  · simp only [wpA_skip, wpA_region, wpA_seq, wpA_cond, condI_false, seqQ_normal, goI_out, goI_ops, opsA_nil, opsA_cons, stepA_move, stepA_assign, stepA_binOp, stepA_convert, stepA_index, thenV_some, thenC_some, eval_tmp, eval_const, put_some, enterF_zero, enterF_succ, aBin_geq, aConv_int, absV_int, absV_str, Int.reduceLE, Option.some.injEq, decide_false, Nat.reduceEqDiff, reduceCtorEq, if_true, if_false, it_221, it_5, w01]
    refine then_eq (v := .int .u8 1) (by kernel_rfl) ?_
    simp only [wpA_ret, seqQ_normal, endI_mk, goI_out, goI_ops, opsA_nil, opsA_cons, stepA_assign, stepA_binOp, stepA_convert, thenV_some, thenC_some, eval_tmp, put_some, enterF_succ, aBin_add, aConv_int, Option.some.injEq, Nat.reduceEqDiff, if_true, if_false, it_3, it_5, w1, w3, retA_ret, Tryz.results226, resultsA_1]
    exact hid_mk ⟨rfl, Keep.refl _ _⟩
set_option maxRecDepth 20000 in
theorem len1 (h : AHeap) (n : Int) (hn : n = 0 ∨ n = 1) : Pure Tryz.prog 190 [.int .u64 n] h (.int .i64 n) := by
  refine Pure.val (Clo.int _ _) ?_
  refine SCalls.enterI (c := _) Tryz.func190 rfl (by kernel_rfl) (by simp) ?_
  have hw : IntKind.u64.wrap n = n := by rcases hn with rfl | rfl <;> decide
  simp only [wpA_skip, wpA_region, wpA_seq, wpA_cond, condI_false, seqQ_normal, goI_out, goI_ops, opsA_nil, opsA_cons, stepA_move, stepA_assign, stepA_call, eval_tmp, eval_const, put_some, enterF_zero, enterF_succ, absV_int, absV_bool, Nat.reduceEqDiff, reduceCtorEq, List.map_cons, List.map_nil, if_true, if_false]
  refine callI_pure cal226 (len64 h n hn) ?_
  simp only [wpA_ret, seqQ_normal, endI_mk, goI_out, goI_ops, opsA_nil, opsA_cons, stepA_assign, eval_tmp, put_some, enterF_succ, Nat.reduceEqDiff, if_true, if_false, retA_ret, Tryz.results190, resultsA_1]
  exact hid_mk ⟨rfl, Keep.refl _ _⟩
end Go.Proofs.YtedkjhifbibpmaaGreatDoor.Pk
namespace Go.Proofs.YtedkjhifbibpmaaGreatDoor.Pk
open Go Go.Proofs Go.Proofs.YtedkjhifbibpmaaGreatDoor.Ab Go.Sort
set_option linter.unusedVariables false
set_option linter.unusedSimpArgs false
set_option maxRecDepth 20000 in
theorem ins1W (h : AHeap) (x c : V) (n lim : Int) (hn : n ≤ 1) (h0 : 0 ≤ n) : Pure Tryz.prog 243 [x, .int .i64 0, .int .i64 n, c] h (.tuple []) := by
  refine Pure.val (Clo.tuple CloL.nil) ?_
  refine SCalls.enterI (c := _) Tryz.func243 rfl (by kernel_rfl) (by simp) ?_
  have hz : IntKind.i64.wrap (0 + 1) = 1 := by decide
  simp only [wpA_region, wpA_seq, wpA_block, wpA_loop, seqQ_normal, goI_out, goI_ops, opsA_nil, opsA_cons, stepA_move, stepA_assign, stepA_binOp, thenV_some, eval_tmp, eval_const, put_some, enterF_zero, enterF_succ, aBin_add, absV_int, Nat.reduceEqDiff, if_true, if_false, hz]
  refine SWp.loopG (α := Unit) (fun _ f h' => f 8 = .int .i64 1 ∧ f 2 = .int .i64 n ∧ h' = h) (fun _ => 0) () ⟨rfl, rfl, rfl⟩ ?_
  rintro _ f h' ⟨f8, f2, rfl⟩
  refine wpI_sound (by kernel_rfl) ?_
  have d1 : decide (1 < n) = false := decide_eq_false (by omega)
  simp only [wpA_region, wpA_seq, wpA_cond, wpA_exit, condI_false, seqQ_normal, seqQ_exit, blkQ_exit, endI_mk, goE, andThen_exit, goI_out, goI_ops, opsA_nil, opsA_cons, stepA_move, stepA_binOp, thenV_some, eval_tmp, put_some, aBin_lss, Nat.reduceEqDiff, if_true, if_false, f8, f2, d1, retA_normal, Tryz.results243, resultsA_0]
  exact hid_mk ⟨rfl, Keep.refl _ _⟩
set_option maxRecDepth 20000 in
theorem pdq1W (h : AHeap) (x c : V) (n l : Int) (hn : n ≤ 1) (h0 : 0 ≤ n) : Pure Tryz.prog 201 [x, .int .i64 0, .int .i64 n, .int .i64 l, c] h (.tuple []) := by
  refine Pure.val (Clo.tuple CloL.nil) ?_
  refine SCalls.enterI (c := _) Tryz.func201 rfl (by kernel_rfl) (by simp) ?_
  simp only [wpA_region, wpA_seq, wpA_block, wpA_loop, seqQ_normal, goI_out, goI_ops, opsA_nil, opsA_cons, stepA_assign, eval_const, absV_bool]
  refine SWp.loopG (α := Unit) (fun _ f h' => f 0 = x ∧ f 1 = .int .i64 0 ∧ f 2 = .int .i64 n ∧ f 4 = c ∧ h' = h) (fun _ => 0) () ⟨rfl, rfl, rfl, rfl, rfl⟩ ?_
  rintro _ f h' ⟨f0, f1, f2, f4, rfl⟩
  refine wpI_sound (by kernel_rfl) ?_
  have hw : IntKind.i64.wrap (n - 0) = n := by rw [Go.IntWalk.i64_in _ (by omega)]; omega
  have d1 : decide (n ≤ 12) = true := decide_eq_true (by omega)
  simp only [wpA_region, wpA_seq, wpA_cond, wpA_block, condI_true, seqQ_normal, goI_out, goI_ops, opsA_nil, opsA_cons, stepA_move, stepA_assign, stepA_binOp, stepA_call, thenV_some, eval_tmp, eval_const, put_some, aBin_sub, aBin_leq, absV_int, Nat.reduceEqDiff, reduceCtorEq, List.map_cons, List.map_nil, if_true, if_false, f0, f1, f2, f4, hw, d1]
  refine callI_pure cal243 (ins1W _ x c n 0 hn h0) ?_
  simp only [wpA_ret, seqQ_normal, seqQ_ret, blkQ_ret, endI_mk, goE, andThen_ret, goI_out, goI_ops, opsA_nil, retA_ret, Tryz.results201, resultsA_0]
  exact hid_mk ⟨rfl, Keep.refl _ _⟩
set_option maxRecDepth 20000 in
theorem sort1W (h : AHeap) (x c : V) (n : Int) (hn : n = 0 ∨ n = 1) (hl : aLen Tryz.prog 35 x h = some (.int .i64 n)) : Pure Tryz.prog 163 [x, c] h (.tuple []) := by
  refine Pure.val (Clo.tuple CloL.nil) ?_
  refine SCalls.enterI (c := _) Tryz.func163 rfl (by kernel_rfl) (by simp) ?_
  have hw : IntKind.u64.wrap n = n := by rcases hn with rfl | rfl <;> decide
  simp only [wpA_region, wpA_seq, seqQ_normal, goI_out, goI_ops, opsA_nil, opsA_cons, stepA_move, stepA_assign, stepA_convert, stepA_len, stepA_call, thenV_some, thenC_some, eval_tmp, put_some, enterF_zero, enterF_succ, aConv_int, Option.some.injEq, Nat.reduceEqDiff, reduceCtorEq, List.map_cons, List.map_nil, if_true, if_false, it_3, it_312, hl, hw]
  refine callI_pure cal190 (len1 h n hn) ?_
  simp only [goI_ops, opsA_cons, stepA_move, stepA_call, eval_tmp, eval_const, put_some, enterF_zero, enterF_succ, absV_int, Nat.reduceEqDiff, List.map_cons, List.map_nil, if_true, if_false]
  refine callI_pure cal201 (pdq1W h x c n n (by omega) (by omega)) ?_
  simp only [endI_mk, goI_out, goI_ops, opsA_nil, retA_normal, Tryz.results163, resultsA_0]
  exact hid_mk ⟨rfl, Keep.refl _ _⟩
/-! ### SortFunc, whatever the comparator -/
theorem sortOfW {g : FuncId} {cf : Chg → Chg → Int} (hO : SWO (ltOf cf)) (hcmp : ∀ a b, SCalls Tryz.prog g [.agg (chgE a), .agg (chgE b)] noHeap fun r _ => r = .int .i64 (cf a b))
    (eg : ∀ args w, (callFunc g args).run Tryz.prog w = .ok (.enter g args) w) (h : AHeap) (x : V) (l : List Chg) (ho : Own h 40 5 x (l.flatMap chgE)) (hl : l.length ≤ 2 ^ 40) :
    SCalls Tryz.prog 163 [x, .func (.func g) [] []] h fun r h' => r = .tuple [] ∧ Keep h h' (isId x) ∧ ∃ l' : List Chg, l'.Perm l ∧ (l'.Pairwise fun a b => ltOf cf b a = false) ∧ Own h' 40 5 x (l'.flatMap chgE) := by
  refine sortF_own (by decide) chgE_len (fun x => rfl) chgE_clo hO hcmp
    (fun n enc hk h1 cf hO blk cap d w hc hH hb hs => AnyQ.slices_SortFunc sfW 5 Tryz.isAgg40 Tryz.sizeOf40 enc hk h1 cf hO g #[] blk 0 cap d w eg hc hH hb hs) (fun hn => ?_) ho (by omega)
  subst hn
  have hlen : aLen Tryz.prog 35 x h = some (.int .i64 0) := by
    rcases ho with ⟨rfl | rfl, _⟩ | ⟨i, len, cap, c, ex, rfl, _, _, hl, _⟩
    · exact aLen_snil kt_35
    · exact aLen_z0 kt_35
    · have : len = 0 := by simp at hl; omega
      subst this
      exact aLen_sl kt_35
  exact sort1W h x _ 0 (.inl rfl) hlen
end Go.Proofs.YtedkjhifbibpmaaGreatDoor.Pk
namespace Go.Proofs.YtedkjhifbibpmaaGreatDoor.Pk
open Go Go.Proofs Go.Proofs.YtedkjhifbibpmaaGreatDoor.Ab Go.Sort
set_option linter.unusedVariables false
theorem ltW (a b : Chg) : ltOf cfW a b = aheadW a b := cfW_lt a b
theorem sortByW : SortC byW := fun h x l ho hl => by
  refine (sortOfW (cf := cfW) ⟨fun a => by rw [ltW]; exact ahead_irr a, fun a b c h1 h2 => by rw [ltW] at *; exact ahead_trans a b c h1 h2, fun a b c h1 h2 => by rw [ltW] at *; exact ahead_ntrans a b c h1 h2⟩
    (fun a b => (byWin noHeap a b).mono fun r h' hh => hh.1) (enters_of Tryz.func164 (by kernel_rfl) rfl) h x l ho hl).mono fun r h' ⟨h1, h2, l', hp, hs, ho⟩ => ⟨h1, h2, l', hp, hs.imp fun {a b} hab => by rwa [ltW] at hab, ho⟩
end Go.Proofs.YtedkjhifbibpmaaGreatDoor.Pk
