/-
  What functions of the program do, told of abstract states. Conditions: as each theorem says.
-/
import Derived.Test.YtpjfhfmbhjghcaaDoorMeG
import Derived.Test.YtpjfhfmbhjghcaaDoorMeA
namespace Go.Proofs.YtpjfhfmbhjghcaaDoor.Pk
open Go Go.Proofs Go.Proofs.YtpjfhfmbhjghcaaDoor.Ab
set_option linter.unusedVariables false
set_option linter.unusedSimpArgs false
set_option maxRecDepth 10000
/-- The frame is told in short. -/
theorem SWp.frameG {P : Program} {n : Nat} {c : Code} {Q : AExit → AFrame → AHeap → Prop} {f : AFrame} {h : AHeap} (R : AFrame → Prop) (hR : R f) (hk : ∀ f', R f' → SWp P n c Q f' h) : SWp P n c Q f h := hk f hR
/-! ### Arithmetic -/
theorem frW_mul {t g : Int} (h0 : 0 ≤ t) : frW g t = t.tdiv g * g := by
  unfold frW
  rw [Int.tmod_eq_emod_of_nonneg h0, Int.tdiv_eq_ediv_of_nonneg h0]
  have := Int.emod_add_mul_ediv t g
  rw [Int.mul_comm]
  omega
theorem frW_same {a b g : Int} (ha : 0 ≤ a) (hb : 0 ≤ b) (hg : 1 ≤ g) : frW g b = frW g a ↔ a.tdiv g = b.tdiv g := by
  rw [frW_mul ha, frW_mul hb]
  constructor
  · intro h
    exact (Int.eq_of_mul_eq_mul_right (by omega) h).symm
  · intro h; rw [h]
theorem kgetA {key fa fb x y : Int} : w64 ((kget [((0 : Nat), (key, fa), x)] (key, fb)).getD 0 + y) = if fb = fa then w64 (x + y) else w64 (0 + y) := by
  by_cases h : fb = fa
  · subst h; simp [kget]
  · simp [kget, h]
theorem found1 {g key a b x : Int} : found g [⟨key, a, a, x, false⟩] key b = if a - b ≤ g ∧ b - a ≤ g then [⟨key, a, a, x, false⟩] else [] := by
  unfold found
  by_cases h : a - b ≤ g ∧ b - a ≤ g
  · have ht : touch g key b ⟨key, a, a, x, false⟩ = true := touch_iff.2 ⟨rfl, by show a - g ≤ b; omega, by show b ≤ a + g; omega⟩
    rw [if_pos h, List.filter_cons_of_pos ht]; rfl
  · have ht : ¬ touch g key b ⟨key, a, a, x, false⟩ = true := fun q => by
      obtain ⟨_, q1, q2⟩ := touch_iff.1 q
      have q1 : a - g ≤ b := q1
      have q2 : b ≤ a + g := q2
      omega
    rw [if_neg h, List.filter_cons_of_neg ht]; rfl
theorem w64_in {x : Int} (h : -2 ^ 63 ≤ x ∧ x < 2 ^ 63) : w64 x = x := Go.IntWalk.i64_in _ (by omega)
set_option maxHeartbeats 4000000 in
theorem aggKinds (n : Nat) (key : Int) (a b : Nat) (x y : Int) (hn : n < 256) (ha : a < 65536) (hb : b < 65536) (hx : -2 ^ 63 ≤ x ∧ x < 2 ^ 63) (hy : -2 ^ 63 ≤ y ∧ y < 2 ^ 63) (h : AHeap) (hg : KG h) :
    SCalls Tryd.prog 4 [.int .u8 (n : Nat), .int .i64 key, .int .u16 (a : Nat), .int .u16 (b : Nat), .int .i64 x, .int .i64 y] h (fun r h' => r = .bool true) := by
  refine SCalls.enterI (c := _) Tryd.func4 rfl (by kernel_rfl) (by simp) ?_
  simp only [wpA_region, wpA_seq, seqQ_normal, goI_out, goI_ops, opsA_nil, opsA_cons, stepA_assign, stepA_call, eval_const, absV_bool, List.map_nil]
  refine callI_pure cal5 (pShown18 h hg) ?_
  simp only [wpA_region, wpA_seq, seqQ_normal, goI_out, goI_ops, opsA_nil, opsA_cons, stepA_move, stepA_assign, stepA_call, eval_tmp, eval_const, put_some, enterF_zero, enterF_succ, absV_int, Nat.reduceEqDiff, reduceCtorEq, List.map_cons, List.map_nil, if_true, if_false]
  have hu1 := pUsual 1 n (by decide) hn h
  rw [show kindN 1 = 7 from rfl, show ((1 : Nat) : Int) = 1 from rfl] at hu1
  refine callI_pure cal7 hu1 ?_
  simp only [goI_ops, opsA_cons, stepA_call, eval_tmp, put_some, enterF_succ, Nat.reduceEqDiff, List.map_cons, List.map_nil, if_true, if_false]
  refine callI_of cal6 (agNewG ⟨7, [], sumE, 1 + (n : Int)⟩ sum_may sum_ok h hg 71 (fun H h' i => ∃ m, H.n ≤ i ∧ H.n ≤ m ∧ IsWin h' i m 1024 (1 + (n : Int)) [] 0) fun H _ => pKeeper7 ⟨7, [], sumE, 1 + (n : Int)⟩ rfl (by simp only; omega) (by simp only; omega) H)
    fun r h1 ⟨a1, i1, H1, h1', e1, kH1, ⟨m, hi1, hm, kw0⟩, k01, k1, hla1, hla1', s1⟩ => ?_
  subst e1
  have kw1 := kw0.keepN k01
  have ham : a1 ≠ m := by have := kw0.ml; omega
  have hu2 := pUsual 2 n (by decide) hn h1
  rw [show kindN 2 = 8 from rfl, show ((2 : Nat) : Int) = 2 from rfl] at hu2
  simp only [wpA_region, wpA_seq, seqQ_normal, goI_out, goI_ops, opsA_nil, opsA_cons, stepA_move, stepA_assign, stepA_extract, stepA_call, thenV_some, extV_zero, extV_succ, eval_tmp, eval_const, put_some, enterF_zero, enterF_succ, absV_int, Nat.reduceEqDiff, reduceCtorEq, List.map_cons, List.map_nil, if_true, if_false]
  refine callI_pure cal7 hu2 ?_
  simp only [goI_ops, opsA_cons, stepA_call, eval_tmp, put_some, enterF_succ, Nat.reduceEqDiff, List.map_cons, List.map_nil, if_true, if_false]
  refine callI_of cal6 (agNewG ⟨8, [], sumE, 1 + (n : Int)⟩ sum_may sum_ok h1 (hg.keep k1) 74 (fun H h' i => H.n ≤ i ∧ IsSes h' i .snil 1024 (1 + (n : Int)) []) fun H _ => pKeeper8 ⟨8, [], sumE, 1 + (n : Int)⟩ rfl (by simp only; omega) (by simp only; omega) H)
    fun r h2 ⟨a2, i2, H2, h2', e2, kH2, ⟨hi2, ks0⟩, k02, k2, hla2, hla2', s2⟩ => ?_
  subst e2
  have ks2 := ks0.keepN k02
  have kw2 := kw1.keepN k2
  have sw2 := s1.keep k2 (by simp [none_])
  have ml1 := kw1.ml
  have il1 := kw1.lt
  have al1 := s1.lt
  have hi2' : h1.n ≤ i2 := Nat.le_trans kH2.n hi2
  have il2 := ks0.lt
  have hw1 : IntKind.i64.wrap (n : Int) = (n : Int) := Go.IntWalk.i64_in _ (by omega)
  have hw2 : IntKind.i64.wrap (1 + (n : Int)) = 1 + (n : Int) := Go.IntWalk.i64_in _ (by omega)
  have wa : IntKind.i64.wrap (a : Int) = (a : Int) := Go.IntWalk.i64_in _ (by omega)
  have wb : IntKind.i64.wrap (b : Int) = (b : Int) := Go.IntWalk.i64_in _ (by omega)
  have c8 := @aConv_int Tryd.prog 
  simp only [wpA_skip, wpA_region, wpA_seq, wpA_cond, condI_false, seqQ_normal, goI_out, goI_ops, opsA_nil, opsA_cons, opsA_guardS, gvI_same, slotAt_zero, slotAt_succ, stepA_move, stepA_assign, stepA_pick, stepA_build, stepA_binOp, stepA_convert, stepA_extract, stepA_call, thenV_some, thenC_some, pickV_false, extV_zero, extV_succ, eval_tmp, eval_const, put_some, enterF_zero, enterF_succ, aBin_add, aBin_neq, ptr_nil_eql, absV_int, absV_bool, absV_pnil, cells_int, setAll_nil, setAll_cons, aBuild_go, aFill_nil, aFill_cons, fillGo_some, buildGo_struct, List.getElem?_cons_zero, List.getElem?_cons_succ, bne_self_eq_false, Nat.reduceEqDiff, Nat.reduceAdd, Nat.reduceLeDiff, reduceCtorEq, List.map_cons, List.map_nil, Option.map_some, Nat.zero_add, List.length_cons, List.length_nil, List.set_cons_zero, List.set_cons_succ, and_self, if_true, if_false, Nat.le_refl, kt_24, pl_36, zc_36, aConv_int it_5 it_2, aConv_int it_42 it_2, hw1, hw2, wa]
  refine callI_of cal8 (agApply7 (l := []) sw2 kw2 ham ((hg.keep k1).keep k2) ⟨key, x, (a : Int)⟩ (by simp only; omega) (by simp only; omega) (by decide)) fun r h3 ⟨j3, e3, kw3, sw3, k3⟩ => ?_
  subst e3
  have hX : w64 (0 + x) = x := by unfold w64; rw [Int.zero_add]; exact Go.IntWalk.i64_in _ (by omega)
  have kw3 : IsWin h3 i1 m 1024 (1 + (n : Int)) (wE [(0, (key, frW (1 + (n : Int)) (a : Int)), w64 (0 + x))]) 1 := kw3
  rw [hX] at kw3
  have hg3 := ((hg.keep k1).keep k2).keep k3
  have s3 := s2.keep k3 (by omega)
  have ks3 := ks2.keep k3 (by omega) (by simp [idOf])
  simp only [wpA_region, wpA_seq, seqQ_normal, goI_out, goI_ops, opsA_nil, opsA_cons, stepA_move, stepA_build, stepA_convert, stepA_call, thenV_some, thenC_some, eval_tmp, put_some, enterF_zero, enterF_succ, cells_int, setAll_nil, setAll_cons, aBuild_go, aFill_nil, aFill_cons, fillGo_some, buildGo_struct, List.getElem?_cons_zero, List.getElem?_cons_succ, Nat.reduceEqDiff, Nat.reduceAdd, Nat.reduceLeDiff, List.map_cons, List.map_nil, Option.map_some, Nat.zero_add, List.length_cons, List.length_nil, List.set_cons_zero, List.set_cons_succ, and_self, if_true, if_false, Nat.le_refl, pl_36, zc_36, aConv_int it_42 it_2, okA, wa]
  have n0 : ∀ q, ¬ isId .snil q := fun q hq => by simp [isId, idOf] at hq
  refine callI_of cal8 (agApply8 s3 ks3 (by rintro (hh | hh); omega; exact n0 _ hh) hg3 ⟨key, x, (a : Int)⟩ (by simp only; omega) (by simp only; omega) (by decide)) fun r h4 ⟨c4, v4, e4, ks4, s4, k4, d4⟩ => ?_
  subst e4
  have ks4 : IsSes h4 i2 v4 1024 (1 + (n : Int)) [⟨key, (a : Int), (a : Int), w64 (0 + x), false⟩] := ks4
  rw [hX] at ks4
  have hg4 := hg3.keep k4
  have f4 : ∀ q, q < h1.n → ¬ sesO i2 .snil q := fun q hq hh => by
    rcases hh with hh | hh
    · omega
    · exact n0 _ hh
  have sw4 := sw3.keep k4 (f4 _ al1)
  have kw4 := kw3.keep k4 (f4 _ il1) (f4 _ ml1)
  have hv4 : ∀ j, idOf v4 = some j → h3.n ≤ j := fun j hj => by
    rcases d4 with d4 | d4
    · rw [d4] at hj; cases hj
    · exact d4 j hj
  simp only [wpA_region, wpA_seq, seqQ_normal, goI_out, goI_ops, opsA_nil, opsA_cons, stepA_move, stepA_build, stepA_convert, stepA_call, thenV_some, thenC_some, eval_tmp, put_some, enterF_zero, enterF_succ, cells_int, setAll_nil, setAll_cons, aBuild_go, aFill_nil, aFill_cons, fillGo_some, buildGo_struct, List.getElem?_cons_zero, List.getElem?_cons_succ, Nat.reduceEqDiff, Nat.reduceAdd, Nat.reduceLeDiff, List.map_cons, List.map_nil, Option.map_some, Nat.zero_add, List.length_cons, List.length_nil, List.set_cons_zero, List.set_cons_succ, and_self, if_true, if_false, Nat.le_refl, pl_36, zc_36, aConv_int it_42 it_2, okA, wb]
  refine callI_of cal8 (agApply7 sw4 kw4 ham hg4 ⟨key, y, (b : Int)⟩ (by simp only; omega) (by simp only; omega) (by simp)) fun r h5 ⟨j5, e5, kw5, sw5, k5⟩ => ?_
  subst e5
  have hg5 := hg4.keep k5
  have nn4 : h2.n ≤ h4.n := Nat.le_trans k3.n k4.n
  have hv4m : ∀ j, idOf v4 = some j → j ≠ m := fun j hj => by have := hv4 j hj; have := k3.n; have := k2.n; omega
  have s5 := s4.keep k5 (by omega)
  have ks5 := ks4.keep k5 (by omega) hv4m
  have v4lt := ks4.own.lt
  obtain ⟨A, hA⟩ : ∃ A, A = w64 ((kget [((0 : Nat), (key, frW (1 + (n : Int)) (a : Int)), x)] (key, frW (1 + (n : Int)) (b : Int))).getD 0 + y) := ⟨_, rfl⟩
  obtain ⟨F, hF⟩ : ∃ F, F = frW (1 + (n : Int)) (b : Int) := ⟨_, rfl⟩

  simp only [okA]
  simp only [← hA]
  rw [← hF]
  obtain ⟨H5, hH5⟩ : ∃ z, z = h5.push (.cells [.int .i64 key, .int .i64 A, .int .i64 F] 36 none) := ⟨_, rfl⟩
  have kk5 : Keep h5 H5 none_ := by rw [hH5]; exact Keep.push _ _ _
  have gp5 : H5.get h5.n = .cells [.int .i64 key, .int .i64 A, .int .i64 F] 36 none := by rw [hH5]; exact get_push_new
  have nH5 : H5.n = h5.n + 1 := by rw [hH5]; rfl
  have cc : ∀ a b c : Int, (V.agg [V.int .i64 a, .int .i64 b, .int .i64 c]).cells = some [V.int .i64 a, .int .i64 b, .int .i64 c] := fun _ _ _ => rfl
  have hst : ∀ a b c : Int, setC (some 3) (AObj.cells [V.int .i64 0, .int .i64 0, .int .i64 0] 36 none) 0 [V.int .i64 a, .int .i64 b, .int .i64 c] = some (.cells [V.int .i64 a, .int .i64 b, .int .i64 c] 36 none) := fun _ _ _ => rfl
  simp only [wpA_region, wpA_seq, seqQ_normal, goI_out, goI_ops, opsA_nil, opsA_cons, stepA_move, stepA_assign, stepA_alloc, stepA_build, stepA_store, stepA_convert, stepA_extract, stepA_call, thenV_some, thenC_some, thenH_some, thenS_some, extV_zero, extV_succ, eval_tmp, put_some, put_none, enterF_zero, enterF_succ, cells_int, aStore_eq, storeGo_ptr, setAll_nil, setAll_cons, aAlloc_eq, aBuild_go, aFill_nil, aFill_cons, fillGo_some, buildGo_struct, get_push_new, set_push, List.getElem?_cons_zero, List.getElem?_cons_succ, Nat.reduceEqDiff, Nat.reduceAdd, Nat.reduceLeDiff, List.map_cons, List.map_nil, Option.map_some, Nat.zero_add, List.length_cons, List.length_nil, List.set_cons_zero, List.set_cons_succ, and_self, if_true, if_false, Nat.le_refl, pl_36, zc_36, zt_36, aConv_int it_42 it_2, cc, hst, wb]
  rw [← hH5]
  clear hH5
  have ks5' := ks5.keepN kk5
  have nn5 := k5.n
  have i2lt := ks4.lt
  refine callI_of cal8 (agApply8 (s5.keep kk5 (by simp [none_])) ks5' (by
    rintro (hh | hh)
    · omega
    · have := hv4 _ hh; have := k3.n; have := s2.lt; omega) (hg5.keep kk5) ⟨key, y, (b : Int)⟩ (by simp only; omega) (by simp only; omega) (by simp)) fun r h6 ⟨c6, v6, e6, ks6, s6, k6, d6⟩ => ?_
  subst e6
  have gp6 := (k6.get h5.n (by omega) (by
    rintro (hh | hh)
    · omega
    · have := v4lt _ hh; omega)).trans gp5
  obtain ⟨B, hB⟩ : ∃ B, B = w64 (sumC (found (1 + (n : Int)) [⟨key, (a : Int), (a : Int), x, false⟩] key (b : Int)) + y) := ⟨_, rfl⟩
  obtain ⟨G, hG⟩ : ∃ G, G = loF (b : Int) (found (1 + (n : Int)) [⟨key, (a : Int), (a : Int), x, false⟩] key (b : Int)) := ⟨_, rfl⟩
  simp only [okA]
  simp only [← hB, ← hG]
  obtain ⟨H6, hH6⟩ : ∃ z, z = h6.push (.cells [.int .i64 key, .int .i64 B, .int .i64 G] 36 none) := ⟨_, rfl⟩
  have kk6 : Keep h6 H6 none_ := by rw [hH6]; exact Keep.push _ _ _
  have gq6 : H6.get h6.n = .cells [.int .i64 key, .int .i64 B, .int .i64 G] 36 none := by rw [hH6]; exact get_push_new
  have n6 := k6.n
  have gp7 := (kk6.get h5.n (by omega) (by simp [none_])).trans gp6
  simp only [wpA_seq, wpA_draw, seqQ_normal, goI_out, goI_ops, opsA_nil, opsA_cons, stepA_move, stepA_assign, stepA_alloc, stepA_store, stepA_extract, thenV_some, thenH_some, thenS_some, extV_zero, extV_succ, eval_tmp, put_some, put_none, enterF_succ, aStore_eq, storeGo_ptr, aAlloc_eq, get_push_new, set_push, Nat.reduceEqDiff, Option.map_some, if_true, if_false, zc_36, zt_36, cc, hst]
  rw [← hH6]
  clear hH6
  have hF2 : F = (b : Int).tdiv (1 + (n : Int)) * (1 + (n : Int)) := by rw [hF]; exact frW_mul (by omega)
  have hFr : 0 ≤ F ∧ F ≤ b := by have := frW_rng (size := 1 + (n : Int)) (time := (b : Int)) (by omega) (by omega); rw [hF]; omega
  have tdr : ∀ t : Nat, t < 65536 → 0 ≤ (t : Int).tdiv (1 + (n : Int)) ∧ (t : Int).tdiv (1 + (n : Int)) ≤ t := fun t ht => by
    rw [Int.tdiv_eq_ediv_of_nonneg (by omega)]
    exact ⟨Int.ediv_nonneg (by omega) (by omega), Int.ediv_le_self _ (by omega)⟩
  have w1 : IntKind.i64.wrap ((a : Int).tdiv (1 + (n : Int))) = (a : Int).tdiv (1 + (n : Int)) := Go.IntWalk.i64_in _ (by have := tdr a ha; omega)
  have w2 : IntKind.i64.wrap ((b : Int).tdiv (1 + (n : Int))) = (b : Int).tdiv (1 + (n : Int)) := Go.IntWalk.i64_in _ (by have := tdr b hb; omega)
  have w3 : IntKind.i64.wrap ((b : Int).tdiv (1 + (n : Int)) * (1 + (n : Int))) = F := by rw [← hF2]; exact Go.IntWalk.i64_in _ (by omega)
  have w4 : IntKind.i64.wrap ((a : Int) - (b : Int)) = (a : Int) - (b : Int) := Go.IntWalk.i64_in _ (by omega)
  have w5 : IntKind.i64.wrap ((b : Int) - (a : Int)) = (b : Int) - (a : Int) := Go.IntWalk.i64_in _ (by omega)
  have hq0 : (1 + (n : Int)) ≠ 0 := by omega
  have hA2 : A = if (a : Int).tdiv (1 + (n : Int)) = (b : Int).tdiv (1 + (n : Int)) then IntKind.i64.wrap (x + y) else y := by
    rw [hA, kgetA]
    by_cases hs : (a : Int).tdiv (1 + (n : Int)) = (b : Int).tdiv (1 + (n : Int))
    · rw [if_pos hs, if_pos ((frW_same (by omega) (by omega) (by omega)).2 hs)]; rfl
    · rw [if_neg hs, if_neg (fun q => hs ((frW_same (by omega) (by omega) (by omega)).1 q)), Int.zero_add, w64_in hy]
  have hB2 : B = if (a : Int) - (b : Int) ≤ 1 + (n : Int) ∧ (b : Int) - (a : Int) ≤ 1 + (n : Int) then IntKind.i64.wrap (x + y) else y := by
    rw [hB, found1]
    by_cases hs : (a : Int) - (b : Int) ≤ 1 + (n : Int) ∧ (b : Int) - (a : Int) ≤ 1 + (n : Int)
    · rw [if_pos hs, if_pos hs]
      show w64 (w64 (0 + x) + y) = _
      rw [hX]; rfl
    · rw [if_neg hs, if_neg hs]
      show w64 (0 + y) = y
      rw [Int.zero_add, w64_in hy]
  have hG2 : G = if (a : Int) - (b : Int) ≤ 1 + (n : Int) ∧ (b : Int) - (a : Int) ≤ 1 + (n : Int) then min (b : Int) (a : Int) else (b : Int) := by
    rw [hG, found1]
    by_cases hs : (a : Int) - (b : Int) ≤ 1 + (n : Int) ∧ (b : Int) - (a : Int) ≤ 1 + (n : Int)
    · rw [if_pos hs, if_pos hs]; rfl
    · rw [if_neg hs, if_neg hs]; rfl
  clear hA hB hG hF
  have hmin : (min (b : Int) (a : Int) == min (a : Int) (b : Int)) = true := by rw [Int.min_comm]; simp
  have zz : ∀ v : Int, (v == v) = true := fun v => by simp
  have hs3 : (a : Int).tdiv (1 + (n : Int)) = (b : Int).tdiv (1 + (n : Int)) ∨ ¬ (a : Int).tdiv (1 + (n : Int)) = (b : Int).tdiv (1 + (n : Int)) := Classical.em _
  have hn3 : ((a : Int) - (b : Int) ≤ 1 + (n : Int) ∧ (b : Int) - (a : Int) ≤ 1 + (n : Int)) ∨ (¬ (a : Int) - (b : Int) ≤ 1 + (n : Int)) ∨ ((a : Int) - (b : Int) ≤ 1 + (n : Int) ∧ ¬ (b : Int) - (a : Int) ≤ 1 + (n : Int)) := by omega
  refine SWp.frameG (fun f => f 2 = .int .u16 (a : Nat) ∧ f 3 = .int .u16 (b : Nat) ∧ f 4 = .int .i64 x ∧ f 5 = .int .i64 y ∧ f 13 = .bool true ∧ f 18 = .int .i64 (1 + (n : Int)) ∧ f 19 = .ptr h5.n 0 ∧ f 21 = .int .i64 0 ∧ f 22 = .ptr h6.n 0 ∧ f 24 = .int .i64 0) ⟨rfl, rfl, rfl, rfl, rfl, rfl, rfl, rfl, rfl, rfl⟩ ?_
  rintro f ⟨f2, f3, f4, f5, f13, f18, f19, f21, f22, f24⟩
  rcases hs3 with hs | hs
  · have es : ((a : Int).tdiv (1 + (n : Int)) == (b : Int).tdiv (1 + (n : Int))) = true := by simp [hs]
    rw [if_pos hs] at hA2
    rcases hn3 with hn | hn | hn
    · rw [if_pos hn] at hB2 hG2
      have d1 := decide_eq_true hn.1
      have d2 := decide_eq_true hn.2
      subst hA2 hB2 hG2
      refine SWp.drawnS none_ [] (.q 0 (.q 1 (.q 2 (.q 3 (.q 4 (.q 5 (.q 6 (.q 7 (.q 8 (.q 9 .done)))))))))) (by kernel_rfl) (by kernel_rfl) (by kernel_rfl) ?_
      simp only [siI_done, siI_q, sqI_some, mOk_none', implies_true, qI_nil, qI_cons, thenQ_some, q_move, q_assign, q_binOp, q_convert, wpA_region, wpA_seq, wpA_cond, wpA_draw, condI_true, seqQ_normal, goI_out, goI_ops, goI_mk, opsA_nil, opsA_cons, opsA_guardS, gvI_same, slotAt_zero, slotAt_succ, stepA_move, stepA_assign, stepA_pick, stepA_binOp, stepA_convert, stepA_min, thenV_some, thenC_some, pickV_true, eval_tmp, eval_const, put_some, aBin_add, aBin_sub, aBin_eql, aBin_leq, mmV_min, absV_bool, List.getElem?_cons_zero, List.getElem?_cons_succ, Nat.reduceEqDiff, true_and, if_true, if_false, aBin_quo hq0, aConv_int it_42 it_2, wa, wb, w1, w2, w4, w5, es, d1, d2, f2, f3, f4, f5, f18]
      refine SWp.drawnS none_ [] (.q 0 (.q 1 (.q 2 (.q 3 (.q 4 (.q 5 (.q 6 (.q 7 (.q 8 (.q 9 (.q 10 (.q 11 (.q 12 (.q 13 (.q 14 (.q 15 (.q 16 (.q 17 (.q 18 (.q 19 (.q 20 (.q 21 (.q 22 (.q 23 (.q 24 (.q 25 (.q 26 (.q 27 (.q 28 (.q 29 (.q 30 (.q 31 (.q 32 (.q 33 (.q 34 (.q 35 (.q 36 (.q 37 (.q 38 .done))))))))))))))))))))))))))))))))))))))) (by kernel_rfl) (by kernel_rfl) (by kernel_rfl) ?_
      simp only [siI_done, siI_q, sqI_some, mOk_none', implies_true, qI_nil, qI_cons, qI_guard, qgI_same, thenQ_some, q_move, q_assign, q_pick, q_load, q_binOp, q_convert, q_fieldAddr, wpA_ret, seqQ_normal, endI_mk, goI_out, goI_mk, slotAt_zero, slotAt_succ, pickV_true, eval_tmp, eval_const, put_some, aBin_mul, aBin_eql, absV_int, absV_bool, aField_eq, fieldGo_ptr, aLoad_eq, loadGo_one, aPlace_ptr, dropC_cells, List.getElem?_cons_zero, List.getElem?_cons_succ, beq_self_eq_true, Nat.reduceEqDiff, Nat.reduceAdd, Nat.reduceLeDiff, Nat.zero_add, List.length_cons, List.length_nil, List.drop_zero, List.drop_succ_cons, true_and, if_true, if_false, ft_36_1, ft_36_2, lt_2, aBin_quo hq0, aConv_int it_42 it_2, wb, w2, w3, gp7, gq6, hmin, f3, f13, f18, f19, f21, f22, f24, retA_ret, Tryd.results4, resultsA_1]
      exact hid_mk rfl
    · rw [if_neg (fun q => hn q.1)] at hB2 hG2
      have d1 := decide_eq_false hn
      have d2 : True := trivial
      subst hA2 hB2 hG2
      refine SWp.drawnS none_ [] (.q 0 (.q 1 (.q 2 (.q 3 (.q 4 (.q 5 (.q 6 (.q 7 (.q 8 (.q 9 .done)))))))))) (by kernel_rfl) (by kernel_rfl) (by kernel_rfl) ?_
      simp only [siI_done, siI_q, sqI_some, mOk_none', implies_true, qI_nil, qI_cons, thenQ_some, q_move, q_assign, q_binOp, q_convert, wpA_skip, wpA_region, wpA_seq, wpA_cond, wpA_draw, condI_true, condI_false, seqQ_normal, goI_out, goI_ops, goI_mk, opsA_nil, opsA_cons, opsA_guardS, gvI_ft, slotAt_zero, slotAt_succ, stepA_move, stepA_assign, stepA_pick, stepA_binOp, stepA_convert, thenV_some, thenC_some, pickV_false, eval_tmp, eval_const, put_some, aBin_add, aBin_sub, aBin_eql, aBin_leq, absV_bool, List.getElem?_cons_zero, List.getElem?_cons_succ, Nat.reduceEqDiff, true_and, if_true, if_false, aBin_quo hq0, aConv_int it_42 it_2, wa, wb, w1, w2, w4, es, d1, f2, f3, f4, f5, f18]
      refine SWp.drawnS none_ [] (.q 0 (.q 1 (.q 2 (.q 3 (.q 4 (.q 5 (.q 6 (.q 7 (.q 8 (.q 9 (.q 10 (.q 11 (.q 12 (.q 13 (.q 14 (.q 15 (.q 16 (.q 17 (.q 18 (.q 19 (.q 20 (.q 21 (.q 22 (.q 23 (.q 24 (.q 25 (.q 26 (.q 27 (.q 28 (.q 29 (.q 30 (.q 31 (.q 32 (.q 33 (.q 34 (.q 35 (.q 36 (.q 37 (.q 38 .done))))))))))))))))))))))))))))))))))))))) (by kernel_rfl) (by kernel_rfl) (by kernel_rfl) ?_
      simp only [siI_done, siI_q, sqI_some, mOk_none', implies_true, qI_nil, qI_cons, qI_guard, qgI_same, thenQ_some, q_move, q_assign, q_pick, q_load, q_binOp, q_convert, q_fieldAddr, wpA_ret, seqQ_normal, endI_mk, goI_out, goI_mk, slotAt_zero, slotAt_succ, pickV_true, eval_tmp, eval_const, put_some, aBin_mul, aBin_eql, absV_int, absV_bool, aField_eq, fieldGo_ptr, aLoad_eq, loadGo_one, aPlace_ptr, dropC_cells, List.getElem?_cons_zero, List.getElem?_cons_succ, beq_self_eq_true, Nat.reduceEqDiff, Nat.reduceAdd, Nat.reduceLeDiff, Nat.zero_add, List.length_cons, List.length_nil, List.drop_zero, List.drop_succ_cons, true_and, if_true, if_false, ft_36_1, ft_36_2, lt_2, aBin_quo hq0, aConv_int it_42 it_2, wb, w2, w3, gp7, gq6, f3, f13, f18, f19, f21, f22, f24, retA_ret, Tryd.results4, resultsA_1]
      exact hid_mk rfl
    · rw [if_neg (fun q => hn.2 q.2)] at hB2 hG2
      have d1 := decide_eq_true hn.1
      have d2 := decide_eq_false hn.2
      subst hA2 hB2 hG2
      refine SWp.drawnS none_ [] (.q 0 (.q 1 (.q 2 (.q 3 (.q 4 (.q 5 (.q 6 (.q 7 (.q 8 (.q 9 .done)))))))))) (by kernel_rfl) (by kernel_rfl) (by kernel_rfl) ?_
      simp only [siI_done, siI_q, sqI_some, mOk_none', implies_true, qI_nil, qI_cons, thenQ_some, q_move, q_assign, q_binOp, q_convert, wpA_skip, wpA_region, wpA_seq, wpA_cond, wpA_draw, condI_true, condI_false, seqQ_normal, goI_out, goI_ops, goI_mk, opsA_nil, opsA_cons, opsA_guardS, gvI_same, slotAt_zero, slotAt_succ, stepA_move, stepA_assign, stepA_pick, stepA_binOp, stepA_convert, thenV_some, thenC_some, pickV_true, eval_tmp, eval_const, put_some, aBin_add, aBin_sub, aBin_eql, aBin_leq, absV_bool, List.getElem?_cons_zero, List.getElem?_cons_succ, Nat.reduceEqDiff, true_and, if_true, if_false, aBin_quo hq0, aConv_int it_42 it_2, wa, wb, w1, w2, w4, w5, es, d1, d2, f2, f3, f4, f5, f18]
      refine SWp.drawnS none_ [] (.q 0 (.q 1 (.q 2 (.q 3 (.q 4 (.q 5 (.q 6 (.q 7 (.q 8 (.q 9 (.q 10 (.q 11 (.q 12 (.q 13 (.q 14 (.q 15 (.q 16 (.q 17 (.q 18 (.q 19 (.q 20 (.q 21 (.q 22 (.q 23 (.q 24 (.q 25 (.q 26 (.q 27 (.q 28 (.q 29 (.q 30 (.q 31 (.q 32 (.q 33 (.q 34 (.q 35 (.q 36 (.q 37 (.q 38 .done))))))))))))))))))))))))))))))))))))))) (by kernel_rfl) (by kernel_rfl) (by kernel_rfl) ?_
      simp only [siI_done, siI_q, sqI_some, mOk_none', implies_true, qI_nil, qI_cons, qI_guard, qgI_same, thenQ_some, q_move, q_assign, q_pick, q_load, q_binOp, q_convert, q_fieldAddr, wpA_ret, seqQ_normal, endI_mk, goI_out, goI_mk, slotAt_zero, slotAt_succ, pickV_true, eval_tmp, eval_const, put_some, aBin_mul, aBin_eql, absV_int, absV_bool, aField_eq, fieldGo_ptr, aLoad_eq, loadGo_one, aPlace_ptr, dropC_cells, List.getElem?_cons_zero, List.getElem?_cons_succ, beq_self_eq_true, Nat.reduceEqDiff, Nat.reduceAdd, Nat.reduceLeDiff, Nat.zero_add, List.length_cons, List.length_nil, List.drop_zero, List.drop_succ_cons, true_and, if_true, if_false, ft_36_1, ft_36_2, lt_2, aBin_quo hq0, aConv_int it_42 it_2, wb, w2, w3, gp7, gq6, f3, f13, f18, f19, f21, f22, f24, retA_ret, Tryd.results4, resultsA_1]
      exact hid_mk rfl
  · have es : ((a : Int).tdiv (1 + (n : Int)) == (b : Int).tdiv (1 + (n : Int))) = false := beq_eq_false_iff_ne.2 hs
    rw [if_neg hs] at hA2
    rcases hn3 with hn | hn | hn
    · rw [if_pos hn] at hB2 hG2
      have d1 := decide_eq_true hn.1
      have d2 := decide_eq_true hn.2
      subst hA2 hB2 hG2
      refine SWp.drawnS none_ [] (.q 0 (.q 1 (.q 2 (.q 3 (.q 4 (.q 5 (.q 6 (.q 7 (.q 8 (.q 9 .done)))))))))) (by kernel_rfl) (by kernel_rfl) (by kernel_rfl) ?_
      simp only [siI_done, siI_q, sqI_some, mOk_none', implies_true, qI_nil, qI_cons, thenQ_some, q_move, q_assign, q_binOp, q_convert, wpA_skip, wpA_region, wpA_seq, wpA_cond, wpA_draw, condI_true, condI_false, seqQ_normal, goI_out, goI_ops, goI_mk, opsA_nil, opsA_cons, opsA_guardS, gvI_same, slotAt_zero, slotAt_succ, stepA_move, stepA_assign, stepA_pick, stepA_binOp, stepA_convert, stepA_min, thenV_some, thenC_some, pickV_true, eval_tmp, eval_const, put_some, aBin_add, aBin_sub, aBin_eql, aBin_leq, mmV_min, absV_bool, List.getElem?_cons_zero, List.getElem?_cons_succ, Nat.reduceEqDiff, true_and, if_true, if_false, aBin_quo hq0, aConv_int it_42 it_2, wa, wb, w1, w2, w4, w5, es, d1, d2, f2, f3, f4, f5, f18]
      refine SWp.drawnS none_ [] (.q 0 (.q 1 (.q 2 (.q 3 (.q 4 (.q 5 (.q 6 (.q 7 (.q 8 (.q 9 (.q 10 (.q 11 (.q 12 (.q 13 (.q 14 (.q 15 (.q 16 (.q 17 (.q 18 (.q 19 (.q 20 (.q 21 (.q 22 (.q 23 (.q 24 (.q 25 (.q 26 (.q 27 (.q 28 (.q 29 (.q 30 (.q 31 (.q 32 (.q 33 (.q 34 (.q 35 (.q 36 (.q 37 (.q 38 .done))))))))))))))))))))))))))))))))))))))) (by kernel_rfl) (by kernel_rfl) (by kernel_rfl) ?_
      simp only [siI_done, siI_q, sqI_some, mOk_none', implies_true, qI_nil, qI_cons, qI_guard, qgI_same, thenQ_some, q_move, q_assign, q_pick, q_load, q_binOp, q_convert, q_fieldAddr, wpA_ret, seqQ_normal, endI_mk, goI_out, goI_mk, slotAt_zero, slotAt_succ, pickV_true, eval_tmp, eval_const, put_some, aBin_mul, aBin_eql, absV_int, absV_bool, aField_eq, fieldGo_ptr, aLoad_eq, loadGo_one, aPlace_ptr, dropC_cells, List.getElem?_cons_zero, List.getElem?_cons_succ, beq_self_eq_true, Nat.reduceEqDiff, Nat.reduceAdd, Nat.reduceLeDiff, Nat.zero_add, List.length_cons, List.length_nil, List.drop_zero, List.drop_succ_cons, true_and, if_true, if_false, ft_36_1, ft_36_2, lt_2, aBin_quo hq0, aConv_int it_42 it_2, wb, w2, w3, gp7, gq6, hmin, f3, f13, f18, f19, f21, f22, f24, retA_ret, Tryd.results4, resultsA_1]
      exact hid_mk rfl
    · rw [if_neg (fun q => hn q.1)] at hB2 hG2
      have d1 := decide_eq_false hn
      have d2 : True := trivial
      subst hA2 hB2 hG2
      refine SWp.drawnS none_ [] (.q 0 (.q 1 (.q 2 (.q 3 (.q 4 (.q 5 (.q 6 (.q 7 (.q 8 (.q 9 .done)))))))))) (by kernel_rfl) (by kernel_rfl) (by kernel_rfl) ?_
      simp only [siI_done, siI_q, sqI_some, mOk_none', implies_true, qI_nil, qI_cons, thenQ_some, q_move, q_assign, q_binOp, q_convert, wpA_skip, wpA_region, wpA_seq, wpA_cond, wpA_draw, condI_false, seqQ_normal, goI_out, goI_ops, goI_mk, opsA_nil, opsA_cons, opsA_guardS, gvI_ft, slotAt_zero, slotAt_succ, stepA_move, stepA_assign, stepA_pick, stepA_binOp, stepA_convert, thenV_some, thenC_some, pickV_false, eval_tmp, eval_const, put_some, aBin_sub, aBin_eql, aBin_leq, absV_bool, List.getElem?_cons_zero, List.getElem?_cons_succ, Nat.reduceEqDiff, true_and, if_true, if_false, aBin_quo hq0, aConv_int it_42 it_2, wa, wb, w1, w2, w4, es, d1, f2, f3, f5, f18]
      refine SWp.drawnS none_ [] (.q 0 (.q 1 (.q 2 (.q 3 (.q 4 (.q 5 (.q 6 (.q 7 (.q 8 (.q 9 (.q 10 (.q 11 (.q 12 (.q 13 (.q 14 (.q 15 (.q 16 (.q 17 (.q 18 (.q 19 (.q 20 (.q 21 (.q 22 (.q 23 (.q 24 (.q 25 (.q 26 (.q 27 (.q 28 (.q 29 (.q 30 (.q 31 (.q 32 (.q 33 (.q 34 (.q 35 (.q 36 (.q 37 (.q 38 .done))))))))))))))))))))))))))))))))))))))) (by kernel_rfl) (by kernel_rfl) (by kernel_rfl) ?_
      simp only [siI_done, siI_q, sqI_some, mOk_none', implies_true, qI_nil, qI_cons, qI_guard, qgI_same, thenQ_some, q_move, q_assign, q_pick, q_load, q_binOp, q_convert, q_fieldAddr, wpA_ret, seqQ_normal, endI_mk, goI_out, goI_mk, slotAt_zero, slotAt_succ, pickV_true, eval_tmp, eval_const, put_some, aBin_mul, aBin_eql, absV_int, absV_bool, aField_eq, fieldGo_ptr, aLoad_eq, loadGo_one, aPlace_ptr, dropC_cells, List.getElem?_cons_zero, List.getElem?_cons_succ, beq_self_eq_true, Nat.reduceEqDiff, Nat.reduceAdd, Nat.reduceLeDiff, Nat.zero_add, List.length_cons, List.length_nil, List.drop_zero, List.drop_succ_cons, true_and, if_true, if_false, ft_36_1, ft_36_2, lt_2, aBin_quo hq0, aConv_int it_42 it_2, wb, w2, w3, gp7, gq6, f3, f13, f18, f19, f21, f22, f24, retA_ret, Tryd.results4, resultsA_1]
      exact hid_mk rfl
    · rw [if_neg (fun q => hn.2 q.2)] at hB2 hG2
      have d1 := decide_eq_true hn.1
      have d2 := decide_eq_false hn.2
      subst hA2 hB2 hG2
      refine SWp.drawnS none_ [] (.q 0 (.q 1 (.q 2 (.q 3 (.q 4 (.q 5 (.q 6 (.q 7 (.q 8 (.q 9 .done)))))))))) (by kernel_rfl) (by kernel_rfl) (by kernel_rfl) ?_
      simp only [siI_done, siI_q, sqI_some, mOk_none', implies_true, qI_nil, qI_cons, thenQ_some, q_move, q_assign, q_binOp, q_convert, wpA_skip, wpA_region, wpA_seq, wpA_cond, wpA_draw, condI_false, seqQ_normal, goI_out, goI_ops, goI_mk, opsA_nil, opsA_cons, opsA_guardS, gvI_same, slotAt_zero, slotAt_succ, stepA_move, stepA_assign, stepA_pick, stepA_binOp, stepA_convert, thenV_some, thenC_some, pickV_true, eval_tmp, eval_const, put_some, aBin_sub, aBin_eql, aBin_leq, absV_bool, List.getElem?_cons_zero, List.getElem?_cons_succ, Nat.reduceEqDiff, true_and, if_true, if_false, aBin_quo hq0, aConv_int it_42 it_2, wa, wb, w1, w2, w4, w5, es, d1, d2, f2, f3, f5, f18]
      refine SWp.drawnS none_ [] (.q 0 (.q 1 (.q 2 (.q 3 (.q 4 (.q 5 (.q 6 (.q 7 (.q 8 (.q 9 (.q 10 (.q 11 (.q 12 (.q 13 (.q 14 (.q 15 (.q 16 (.q 17 (.q 18 (.q 19 (.q 20 (.q 21 (.q 22 (.q 23 (.q 24 (.q 25 (.q 26 (.q 27 (.q 28 (.q 29 (.q 30 (.q 31 (.q 32 (.q 33 (.q 34 (.q 35 (.q 36 (.q 37 (.q 38 .done))))))))))))))))))))))))))))))))))))))) (by kernel_rfl) (by kernel_rfl) (by kernel_rfl) ?_
      simp only [siI_done, siI_q, sqI_some, mOk_none', implies_true, qI_nil, qI_cons, qI_guard, qgI_same, thenQ_some, q_move, q_assign, q_pick, q_load, q_binOp, q_convert, q_fieldAddr, wpA_ret, seqQ_normal, endI_mk, goI_out, goI_mk, slotAt_zero, slotAt_succ, pickV_true, eval_tmp, eval_const, put_some, aBin_mul, aBin_eql, absV_int, absV_bool, aField_eq, fieldGo_ptr, aLoad_eq, loadGo_one, aPlace_ptr, dropC_cells, List.getElem?_cons_zero, List.getElem?_cons_succ, beq_self_eq_true, Nat.reduceEqDiff, Nat.reduceAdd, Nat.reduceLeDiff, Nat.zero_add, List.length_cons, List.length_nil, List.drop_zero, List.drop_succ_cons, true_and, if_true, if_false, ft_36_1, ft_36_2, lt_2, aBin_quo hq0, aConv_int it_42 it_2, wb, w2, w3, gp7, gq6, f3, f13, f18, f19, f21, f22, f24, retA_ret, Tryd.results4, resultsA_1]
      exact hid_mk rfl
end Go.Proofs.YtpjfhfmbhjghcaaDoor.Pk
