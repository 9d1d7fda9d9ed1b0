/-
  What functions of the program do, told of abstract states. Conditions: as each theorem says.
-/
import Derived.Test.YteegfdinghnoiaaMeC
import Derived.Test.YteegfdinghnoiaaMeO
import Derived.Test.YteegfdinghnoiaaMeS
import Derived.Test.YteegfdinghnoiaaAbD
namespace Go.Proofs.Yteegfdinghnoiaa.Pk
set_option linter.unusedVariables false
set_option linter.unusedSimpArgs false
/-! ### The last change of each place -/
def pl (c : Chg) : Chg := ⟨c.key, c.fr, c.to, 0, false⟩
def lastOf (l : List Chg) (p : Chg) : Option Chg := l.foldl (fun o c => if pl c = p then some c else o) none
theorem lastOf_nil (p : Chg) : lastOf [] p = none := rfl
theorem lastOf_snoc (l : List Chg) (c p : Chg) : lastOf (l ++ [c]) p = if pl c = p then some c else lastOf l p := by
  unfold lastOf
  rw [List.foldl_append]
  rfl
theorem lastOf_from (p : Chg) : ∀ (l : List Chg) (o : Option Chg), l.foldl (fun o c => if pl c = p then some c else o) o = (lastOf l p).or o
  | [], o => rfl
  | c :: l, o => by
    unfold lastOf
    rw [List.foldl_cons, List.foldl_cons, lastOf_from p l, lastOf_from p l]
    by_cases h : pl c = p
    · rw [if_pos h, if_pos h]; cases lastOf l p <;> rfl
    · rw [if_neg h, if_neg h]; cases lastOf l p <;> rfl
theorem lastOf_append (a b : List Chg) (p : Chg) : lastOf (a ++ b) p = (lastOf b p).or (lastOf a p) := by
  unfold lastOf
  rw [List.foldl_append]
  exact lastOf_from p b _
theorem lastOf_cons (c : Chg) (l : List Chg) (p : Chg) : lastOf (c :: l) p = (lastOf l p).or (if pl c = p then some c else none) := by
  rw [show c :: l = [c] ++ l from rfl, lastOf_append]
  rfl
theorem lastOf_some : ∀ {l : List Chg} {p c : Chg}, lastOf l p = some c → c ∈ l ∧ pl c = p
  | [], p, c, h => by cases h
  | x :: l, p, c, h => by
    rw [lastOf_cons] at h
    cases hl : lastOf l p with
    | some y =>
      rw [hl] at h
      cases h
      obtain ⟨h1, h2⟩ := lastOf_some hl
      exact ⟨List.mem_cons_of_mem _ h1, h2⟩
    | none =>
      rw [hl] at h
      by_cases hp : pl x = p
      · rw [if_pos hp] at h; cases h; exact ⟨List.mem_cons_self, hp⟩
      · rw [if_neg hp] at h; cases h
theorem lastOf_none : ∀ {l : List Chg} {p : Chg}, lastOf l p = none ↔ ∀ c ∈ l, pl c ≠ p
  | [], p => by simp [lastOf_nil]
  | x :: l, p => by
    rw [lastOf_cons]
    constructor
    · intro h c hc
      cases hl : lastOf l p with
      | some y => rw [hl] at h; cases h
      | none =>
        rw [hl] at h
        rcases List.mem_cons.1 hc with rfl | hc
        · intro hp; rw [if_pos hp] at h; cases h
        · exact lastOf_none.1 hl c hc
    · intro h
      rw [lastOf_none.2 fun c hc => h c (List.mem_cons_of_mem _ hc), if_neg (h x List.mem_cons_self)]
      rfl
def aheadO (a b : Chg) : Bool := decide (a.key < b.key ∨ (a.key = b.key ∧ (a.fr < b.fr ∨ (a.fr = b.fr ∧ a.to < b.to))))
theorem aheadO_irr (a : Chg) : aheadO a a = false := by unfold aheadO; exact decide_eq_false (by omega)
theorem aheadO_trans {a b c : Chg} (h1 : aheadO a b = true) (h2 : aheadO b c = true) : aheadO a c = true := by
  unfold aheadO at *
  simp only [decide_eq_true_eq] at *
  omega
theorem aheadO_ntrans {a b c : Chg} (h1 : aheadO a b = false) (h2 : aheadO b c = false) : aheadO a c = false := by
  unfold aheadO at *
  simp only [decide_eq_false_iff_not] at *
  omega
theorem aheadO_asymm {a b : Chg} (h : aheadO a b = true) : aheadO b a = false := by
  unfold aheadO at *
  simp only [decide_eq_false_iff_not, decide_eq_true_eq] at *
  omega
theorem aheadO_total {a b : Chg} (h : pl a ≠ pl b) (hn : aheadO b a = false) : aheadO a b = true := by
  unfold aheadO at *
  simp only [decide_eq_false_iff_not, decide_eq_true_eq] at *
  have : ¬ (a.key = b.key ∧ a.fr = b.fr ∧ a.to = b.to) := fun e => h (by unfold pl; rw [e.1, e.2.1, e.2.2])
  omega
abbrev Rising (l : List Chg) : Prop := l.Pairwise fun a b => aheadO a b = true
theorem rising_unique : ∀ {a b : List Chg}, Rising a → Rising b → (∀ c, c ∈ a ↔ c ∈ b) → a = b
  | [], [], _, _, _ => rfl
  | [], y :: b, _, _, h => by have := (h y).2 List.mem_cons_self; cases this
  | x :: a, [], _, _, h => by have := (h x).1 List.mem_cons_self; cases this
  | x :: a, y :: b, ha, hb, h => by
    have ha' := List.pairwise_cons.1 ha
    have hb' := List.pairwise_cons.1 hb
    have hxy : x = y := by
      apply Classical.byContradiction
      intro hne
      have hy : y ∈ a := by
        rcases List.mem_cons.1 ((h y).2 List.mem_cons_self) with e | e
        · exact absurd e.symm hne
        · exact e
      have hx : x ∈ b := by
        rcases List.mem_cons.1 ((h x).1 List.mem_cons_self) with e | e
        · exact absurd e hne
        · exact e
      have h1 := aheadO_asymm (ha'.1 y hy)
      have h2 := hb'.1 x hx
      rw [h1] at h2
      cases h2
    subst hxy
    rw [rising_unique ha'.2 hb'.2 fun c => ?_]
    constructor
    · intro hc
      rcases List.mem_cons.1 ((h c).1 (List.mem_cons_of_mem _ hc)) with e | e
      · subst e
        have := ha'.1 c hc
        rw [aheadO_irr] at this
        cases this
      · exact e
    · intro hc
      rcases List.mem_cons.1 ((h c).2 (List.mem_cons_of_mem _ hc)) with e | e
      · subst e
        have := hb'.1 c hc
        rw [aheadO_irr] at this
        cases this
      · exact e
/-- What Last tells of changes. -/
structure IsLast (l out : List Chg) : Prop where
  mem : ∀ c, c ∈ out ↔ lastOf l (pl c) = some c ∧ c.del = false
  up : Rising out
def live (l : List Chg) (p : Chg) : Option Chg := (lastOf l p).filter fun c => !c.del
theorem live_some {l : List Chg} {p c : Chg} : live l p = some c ↔ lastOf l p = some c ∧ c.del = false := by
  unfold live
  rw [Option.filter_eq_some_iff]
  simp
theorem IsLast.unique {l m a b : List Chg} (ha : IsLast l a) (hb : IsLast m b) (h : ∀ p, live l p = live m p) : a = b :=
  rising_unique ha.up hb.up fun c => by
    rw [ha.mem, hb.mem, ← live_some, ← live_some, h]
theorem IsLast.len {l out : List Chg} (h : IsLast l out) : out.length ≤ l.length := by
  have hn : out.Nodup := h.up.imp fun {a b} hab e => by subst e; rw [aheadO_irr] at hab; cases hab
  exact hn.length_le_of_subset fun c hc => (lastOf_some ((h.mem c).1 hc).1).1
theorem IsLast.lastOf {l out : List Chg} (h : IsLast l out) (p : Chg) : Pk.lastOf out p = live l p := by
  cases hl : live l p with
  | some c =>
    obtain ⟨h1, h2⟩ := live_some.1 hl
    have hp := (lastOf_some h1).2
    have hc : c ∈ out := (h.mem c).2 ⟨by rw [hp]; exact h1, h2⟩
    cases ho : Pk.lastOf out p with
    | none => exact absurd hp (lastOf_none.1 ho c hc)
    | some d =>
      obtain ⟨h3, h4⟩ := lastOf_some ho
      have h5 := ((h.mem d).1 h3).1
      rw [h4, h1] at h5
      exact h5.symm
  | none =>
    rw [lastOf_none]
    intro c hc hp
    have := (h.mem c).1 hc
    rw [hp, ← live_some, hl] at this
    cases this
theorem IsLast.live {l out : List Chg} (h : IsLast l out) (p : Chg) : Pk.live out p = Pk.live l p := by
  rw [Pk.live, h.lastOf, Pk.live]
  cases Pk.lastOf l p with
  | none => rfl
  | some c => cases hc : c.del <;> simp [Option.filter, hc]
/-! ### One more, at its place -/
def insO (c : Chg) : List Chg → List Chg
  | [] => [c]
  | x :: r => if aheadO c x then c :: x :: r else x :: insO c r
theorem insO_app {c : Chg} : ∀ {a : List Chg} (b : List Chg), (∃ x ∈ a, aheadO c x = true) → insO c (a ++ b) = insO c a ++ b
  | [], b, h => by obtain ⟨x, hx, _⟩ := h; cases hx
  | y :: a, b, h => by
    rw [List.cons_append, insO, insO]
    by_cases hy : aheadO c y = true
    · rw [if_pos hy, if_pos hy]; rfl
    · rw [if_neg hy, if_neg hy, insO_app b, List.cons_append]
      obtain ⟨x, hx, h2⟩ := h
      rcases List.mem_cons.1 hx with rfl | hx
      · exact absurd h2 hy
      · exact ⟨x, hx, h2⟩
theorem insO_skip {c : Chg} : ∀ {a : List Chg} (b : List Chg), (∀ x ∈ a, aheadO c x = false) → insO c (a ++ b) = a ++ insO c b
  | [], b, h => rfl
  | y :: a, b, h => by
    rw [List.cons_append, insO, if_neg (by rw [h y List.mem_cons_self]; decide), insO_skip b fun x hx => h x (List.mem_cons_of_mem _ hx), List.cons_append]
theorem insO_mem {c d : Chg} : ∀ {l : List Chg}, d ∈ insO c l ↔ d = c ∨ d ∈ l
  | [] => by simp [insO]
  | x :: l => by
    rw [insO]
    split
    · simp
    · rw [List.mem_cons, insO_mem, List.mem_cons]
      constructor
      · rintro (h | h | h) <;> simp [h]
      · rintro (h | h | h) <;> simp [h]
theorem insO_len {c : Chg} : ∀ {l : List Chg}, (insO c l).length = l.length + 1
  | [] => rfl
  | x :: l => by
    rw [insO]
    split
    · rfl
    · rw [List.length_cons, insO_len, List.length_cons]
theorem insO_up {c : Chg} : ∀ {l : List Chg}, Rising l → (∀ x ∈ l, pl x ≠ pl c) → Rising (insO c l)
  | [], _, _ => List.pairwise_singleton _ _
  | x :: l, h, hn => by
    have h' := List.pairwise_cons.1 h
    rw [insO]
    split
    · rename_i hc
      exact List.pairwise_cons.2 ⟨fun y hy => by
        rcases List.mem_cons.1 hy with rfl | hy
        · exact hc
        · exact aheadO_trans hc (h'.1 y hy), h⟩
    · rename_i hc
      refine List.pairwise_cons.2 ⟨fun y hy => ?_, insO_up h'.2 fun y hy => hn y (List.mem_cons_of_mem _ hy)⟩
      rcases insO_mem.1 hy with rfl | hy
      · exact aheadO_total (hn x List.mem_cons_self) (by simpa using hc)
      · exact h'.1 y hy
end Go.Proofs.Yteegfdinghnoiaa.Pk
namespace Go.Proofs.Yteegfdinghnoiaa.Pk
open Go Go.Proofs Go.Proofs.Yteegfdinghnoiaa.Ab Go.Sort
set_option linter.unusedVariables false
set_option linter.unusedSimpArgs false
theorem chg_cells (c : Chg) : (V.agg (chgE c)).cells = some (chgE c) := rfl
set_option maxHeartbeats 1000000 in
set_option maxRecDepth 10000 in
theorem pPlace (c : Chg) (h : AHeap) : Pure Try.prog 57 [.agg (chgE c)] h (.agg (chgE (pl c))) := by
  refine Pure.of (Clo.agg (chgE_clo _)) ?_
  refine SCalls.enterI (c := _) Try.func57 rfl (by kernel_rfl) (by simp) ?_
  have cc := chg_cells
  have cd1 : List.drop 1 (chgE c) = [.int .i64 c.fr, .int .i64 c.to, .int .i64 c.val, .bool c.del] := rfl
  have cd2 : List.drop 2 (chgE c) = [.int .i64 c.to, .int .i64 c.val, .bool c.del] := rfl
  have ck0 : loadGo (some none) (some (chgE c)) = some (.int .i64 c.key) := rfl
  have cl : (chgE c).length = 5 := rfl
  simp only [wpA_region, wpA_seq, wpA_ret, seqQ_normal, endI_mk, goI_out, goI_ops, opsA_nil, opsA_cons, stepA_alloc, stepA_box, stepA_build, stepA_load, stepA_store, stepA_fieldAddr, thenV_some, thenH_some, thenS_some, eval_tmp, put_some, put_none, enterF_zero, enterF_succ, cells_int, cells_agg, one_int, one_bool, all_nil, all_cons, aField_eq, fieldGo_ptr, aLoad_eq, loadGo_one, loadGo_row, aPlace_ptr, dropC_cells, aStore_eq, storeGo_ptr, setC_row, setAll_nil, setAll_cons, aAlloc_eq, aBox_eq, aBuild_go, aFill_nil, aFill_cons, fillGo_some, buildGo_struct, push_n, get_push2, get_push2', set_push2, List.getElem?_cons_zero, List.getElem?_cons_succ, Nat.reduceEqDiff, Nat.reduceAdd, Nat.reduceLeDiff, List.map_cons, List.map_nil, Option.map_some, Nat.add_zero, Nat.zero_add, Nat.zero_le, List.length_cons, List.length_nil, List.drop_zero, List.take_succ_cons, List.take_nil, List.set_cons_zero, List.set_cons_succ, and_self, if_true, if_false, Bool.and_self, Nat.le_refl, ft_38_0, ft_38_1, ft_38_2, lt_2, lt_38, pl_38, zc_38, zt_38, cc, cd1, cd2, ck0, cl, retA_ret, Try.results57, resultsC_1, resultA_cell]
  exact hid_mk ⟨_, Cast.refl _ _, (Keep.push _ _ _).then_push _⟩
set_option maxHeartbeats 1000000 in
set_option maxRecDepth 10000 in
theorem inOrd (h : AHeap) (a b : Chg) : SCalls Try.prog 58 [.agg (chgE a), .agg (chgE b)] h (fun r h' => r = .int .i64 (orI [cmpI a.key b.key, cmpI a.fr b.fr, cmpI a.to b.to]) ∧ Keep h h' none_) := by
  refine SCalls.enterI (c := _) Try.func58 rfl (by kernel_rfl) (by simp) ?_
  have cc := chg_cells
  have cl : ∀ c : Chg, (chgE c).length = 5 := chgE_len
  have cd1 : ∀ c : Chg, List.drop 1 (chgE c) = [.int .i64 c.fr, .int .i64 c.to, .int .i64 c.val, .bool c.del] := fun _ => rfl
  have cd2 : ∀ c : Chg, List.drop 2 (chgE c) = [.int .i64 c.to, .int .i64 c.val, .bool c.del] := fun _ => rfl
  have ck0 : ∀ c : Chg, loadGo (some none) (some (chgE c)) = some (.int .i64 c.key) := fun _ => rfl
  simp only [wpA_region, wpA_seq, wpA_draw, seqQ_normal, goI_out, goI_ops, opsA_nil, opsA_cons, stepA_assign, stepA_box, thenH_some, eval_tmp, eval_const, put_some, enterF_zero, enterF_succ, absV_int, aBox_eq, push_n, Nat.reduceEqDiff, Option.map_some, if_false, cc]
  refine SWp.drawnS none_ [15, 16] (.q 0 (.q 1 (.q 2 (.q 3 (.c 4 (.q 5 (.q 6 (.q 7 (.q 8 (.c 9 (.q 10 (.q 11 (.q 12 (.q 13 (.c 14 (.e 15 (.a 16 (.q 17 .done)) .stop)))))))))))))))) (by kernel_rfl) (by kernel_rfl) (by kernel_rfl) ?_
  simp only [siI_q, sqI_some, mOk_none', implies_true, qI_nil, qI_cons, thenQ_some, q_load, q_fieldAddr, goI_mk, eval_tmp, put_some, enterF_succ, aField_eq, fieldGo_ptr, aLoad_eq, aPlace_ptr, dropC_cells, get_push2, get_push2', List.getElem?_cons_zero, List.getElem?_cons_succ, Nat.reduceEqDiff, Nat.add_zero, Nat.zero_le, List.drop_zero, true_and, if_true, if_false, ft_38_0, lt_2, cl, ck0]
  refine siI_c rfl rfl rfl (fun h' _ => cmp64 h' a.key b.key) ?_
  simp only [siI_q, sqI_some, mOk_none', implies_true, qI_nil, qI_cons, thenQ_some, q_load, q_fieldAddr, goI_mk, eval_tmp, put_some, enterF_succ, aField_eq, fieldGo_ptr, aLoad_eq, loadGo_one, aPlace_ptr, dropC_cells, get_push2, get_push2', List.getElem?_cons_zero, List.getElem?_cons_succ, Nat.reduceEqDiff, Nat.reduceLeDiff, Nat.zero_add, true_and, if_true, if_false, ft_38_1, lt_2, cl, cd1]
  refine siI_c rfl rfl rfl (fun h' _ => cmp64 h' a.fr b.fr) ?_
  simp only [siI_q, sqI_some, mOk_none', implies_true, qI_nil, qI_cons, thenQ_some, q_load, q_fieldAddr, goI_mk, eval_tmp, put_some, enterF_succ, aField_eq, fieldGo_ptr, aLoad_eq, loadGo_one, aPlace_ptr, dropC_cells, get_push2, get_push2', List.getElem?_cons_zero, List.getElem?_cons_succ, Nat.reduceEqDiff, Nat.reduceLeDiff, Nat.zero_add, true_and, if_true, if_false, ft_38_2, lt_2, cl, cd2]
  refine siI_c rfl rfl rfl (fun h' _ => cmp64 h' a.to b.to) ?_
  generalize cmpI a.key b.key = x
  generalize cmpI a.fr b.fr = y
  generalize cmpI a.to b.to = z
  have lit3 : ∀ H : AHeap, aBuildSlice Try.prog 119 3 [(0, .int .i64 x), (1, .int .i64 y), (2, .int .i64 z)] H = some (.sl H.n 0 3 3, H.push (.cells (i64V [x, y, z]) 3 none)) := fun H => by rw [buildSlice_go sl_119]; rfl
  simp only [siI_stop, siI_a, siI_e, saI_some, seI_some, keepT1, goI_ops, goI_mk, opsA_nil, opsA_cons, stepA_buildSlice, stepA_call, thenH_some, eval_tmp, put_some, enterF_succ, push_n, List.getElem?_cons_zero, List.getElem?_cons_succ, Nat.reduceEqDiff, List.map_cons, List.map_nil, and_true, true_and, if_true, if_false, lit3]
  obtain ⟨h2, c2, k2⟩ := Cast.lit (h := (h.push (.cells (chgE a) 38 none)).push (.cells (chgE b) 38 none)) (c := i64V [x, y, z]) (e := 3) (n := 3) (sz := 1) rfl (by decide) (by decide)
  refine callI_of cal49 (SCalls.args (CastL.cons c2 (CastL.refl _ _)) (cmpOr h2 [x, y, z] (by simp only [List.length_cons, List.length_nil]; omega))) fun r h3 ⟨e3, e4⟩ => ?_
  subst e3
  simp only [siI_done, siI_q, sqI_some, mOk_none', implies_true, qI_nil, qI_cons, q_assign, wpA_ret, seqQ_normal, endI_mk, goI_out, goI_ops, goI_mk, opsA_nil, eval_tmp, put_some, enterF_succ, List.getElem?_cons_zero, List.getElem?_cons_succ, Bool.false_eq_true, Nat.reduceEqDiff, true_and, if_true, if_false, retA_ret, Try.results58, resultsA_1]
  refine hid_mk ⟨rfl, ?_⟩
  rw [e4]
  exact ((Keep.push _ _ _).then_push _).trans' k2
def cfO (a b : Chg) : Int := orI [cmpI a.key b.key, cmpI a.fr b.fr, cmpI a.to b.to]
theorem ltO (a b : Chg) : ltOf cfO a b = aheadO a b := by
  unfold ltOf cfO orI orI orI orI cmpI aheadO
  rw [Bool.eq_iff_iff]
  simp only [decide_eq_true_eq]
  split <;> split <;> (try split) <;> (try split) <;> (try split) <;> (try split) <;> (try split) <;> (try split) <;> omega
theorem sortO (h : AHeap) (x : V) (l : List Chg) (ho : Own h 38 5 x (l.flatMap chgE)) (hl : l.length ≤ 2 ^ 40) :
    SCalls Try.prog 24 [x, .func (.func 58) [] []] h fun r h' => r = .tuple [] ∧ Keep h h' (isId x) ∧ ∃ l' : List Chg, l'.Perm l ∧ (l'.Pairwise fun a b => aheadO b a = false) ∧ Own h' 38 5 x (l'.flatMap chgE) := by
  refine (sortOfW (cf := cfO) ⟨fun a => by rw [ltO]; exact aheadO_irr a, fun a b c h1 h2 => by rw [ltO] at *; exact aheadO_trans h1 h2, fun a b c h1 h2 => by rw [ltO] at *; exact aheadO_ntrans h1 h2⟩
    (fun a b => (inOrd noHeap a b).mono fun r h' hh => hh.1) (enters_of Try.func58 (by kernel_rfl) rfl) h x l ho hl).mono fun r h' ⟨h1, h2, l', hp, hs, ho⟩ => ⟨h1, h2, l', hp, hs.imp fun {a b} hab => by rwa [ltO] at hab, ho⟩
end Go.Proofs.Yteegfdinghnoiaa.Pk
namespace Go.Proofs.Yteegfdinghnoiaa.Pk
open Go Go.Proofs Go.Proofs.Yteegfdinghnoiaa.Ab Go.Sort
set_option linter.unusedVariables false
set_option linter.unusedSimpArgs false
/-! ### A map from places to changes -/
def ckE (c : Chg) : V := .agg (chgE c)
abbrev EntC := List (Nat × Chg × Chg)
def cE (l : EntC) : List (Nat × V × V) := mapK ckE ckE l
theorem sk_ch : structK Try.prog 38 = some [0, 0, 0, 0, 1] := by kernel_rfl
theorem keyOk_ch (e : Bool) (c : Chg) : keyOk Try.prog e 38 (ckE c) = true := by
  cases e <;> kernel_rfl
theorem mpc_d : ∃ d, mapT Try.prog 105 = some (38, 38, d) ∧ scalarKind d = false := by
  have h : (mapT Try.prog 105).map (fun q => (q.1, q.2.1, scalarKind q.2.2)) = some (38, 38, false) := by kernel_rfl
  cases hm : mapT Try.prog 105 with
  | none => rw [hm] at h; cases h
  | some q =>
    rw [hm] at h
    obtain ⟨a, b, d⟩ := q
    simp only [Option.map_some, Option.some.injEq, Prod.mk.injEq] at h
    obtain ⟨rfl, rfl, h⟩ := h
    exact ⟨d, rfl, h⟩
theorem eqK_ch (a b : Chg) : eqK [0, 0, 0, 0, 1] (chgE a) (chgE b) = some (decide (a = b)) := by
  obtain ⟨a1, a2, a3, a4, a5⟩ := a
  obtain ⟨b1, b2, b3, b4, b5⟩ := b
  simp only [chgE, eqK, if_true, Option.map_some, Option.some.injEq]
  rw [Bool.eq_iff_iff]
  simp [Chg.mk.injEq]
theorem kChg {d : TypeDesc} (hd : scalarKind d = false) : KeyEnc Try.prog 38 d ckE where
  eq a b := by
    have h := eqK_ch a b
    obtain ⟨vx, vy, hx, hy⟩ := eqK_flat h
    obtain ⟨h1, _⟩ := pr_equal_agg sk_ch h hx hy
    unfold eqKey ckE
    simp only [plainV, hx, hy, Option.map_some, hd, h1]
    rfl
  ok b a := keyOk_ch b a
  bits a := by
    refine ⟨_, rfl, ?_⟩
    simp [Instr.sameBits]
theorem updC {h : AHeap} {i cl : Nat} (l : EntC) (p c : Chg) (hg : h.get i = .map (cE l) cl) : aUpdate Try.prog 105 (.map i) (.agg (chgE p)) (.agg (chgE c)) h = some (h.set i (.map (cE (kset cl l p c)) (kclk cl l p))) := by
  obtain ⟨d, hm, hd⟩ := mpc_d
  exact update_k (enc := ckE) (kChg hd) (k := p) hm hg rfl
theorem ldC (c : Chg) (r : List V) : (if 5 ≤ (chgE c ++ r).length then some (V.agg (List.take 5 (chgE c ++ r))) else none) = some (.agg (chgE c)) := by rw [if_pos (by rw [List.length_append, chgE_len]; omega)]; rfl
theorem ldc (c : Chg) : (if 5 ≤ (chgE c).length then some (V.agg (List.take 5 (chgE c))) else none) = some (.agg (chgE c)) := rfl
theorem chg_store (c : Chg) : setC (some 5) (AObj.cells [V.int .i64 0, V.int .i64 0, V.int .i64 0, V.int .i64 0, V.bool false] 38 none) 0 (chgE c) = some (.cells (chgE c) 38 none) := rfl
/-- What the map has behind some changes. -/
structure LastM (l : List Chg) (m : EntC) (cl : Nat) : Prop where
  st : Stamps (cE m) cl
  nd : KNodup m
  get : ∀ p, kget m p = lastOf l p
  len : m.length ≤ l.length
theorem LastM.nil : LastM [] [] 0 := ⟨Stamps.nil 0, KNodup.nil, fun _ => rfl, Nat.le_refl _⟩
theorem LastM.snoc {l : List Chg} {m : EntC} {cl : Nat} (w : LastM l m cl) (c : Chg) : LastM (l ++ [c]) (kset cl m (pl c) c) (kclk cl m (pl c)) := by
  refine ⟨w.st.kset _ _, w.nd.set _ _ _, fun p => ?_, ?_⟩
  · rw [kget_kset, lastOf_snoc, w.get]
    by_cases h : p = pl c
    · subst h; simp
    · rw [if_neg h, if_neg fun e => h e.symm]
  · rw [klen_set, List.length_append]
    have := w.len
    split <;> simp <;> omega
/-- What is not deleted, sorted. -/
theorem LastM.last {l : List Chg} {m vis : EntC} {cl : Nat} (w : LastM l m cl) (hp : vis.Perm m) {out : List Chg} (ho : out.Perm ((vis.filter fun e => !e.2.2.del).map (·.2.2))) (hs : out.Pairwise fun a b => aheadO b a = false) : IsLast l out := by
  have hkey : ∀ e ∈ m, e.2.1 = pl e.2.2 := fun e he => by
    have := kmem w.nd he
    rw [w.get] at this
    exact (lastOf_some this).2.symm
  have hmem : ∀ c, c ∈ out ↔ lastOf l (pl c) = some c ∧ c.del = false := fun c => by
    rw [ho.mem_iff, List.mem_map]
    constructor
    · rintro ⟨e, he, rfl⟩
      obtain ⟨h1, h2⟩ := List.mem_filter.1 he
      have h3 := hp.subset h1
      refine ⟨?_, by simpa using h2⟩
      rw [← hkey e h3, ← w.get]
      exact kmem w.nd h3
    · rintro ⟨h1, h2⟩
      rw [← w.get] at h1
      obtain ⟨e, he, hee⟩ := kget_mem h1
      have : e.2.2 = c := congrArg Prod.snd hee
      exact ⟨e, List.mem_filter.2 ⟨hp.symm.subset he, by rw [this, h2]; rfl⟩, this⟩
  refine ⟨hmem, ?_⟩
  have hnd : (out.map pl).Nodup := by
    rw [(ho.map pl).nodup_iff, List.map_map]
    have e1 : ((vis.filter fun e => !e.2.2.del).map (pl ∘ fun e => e.2.2)) = (vis.filter fun e => !e.2.2.del).map (·.2.1) := by
      apply List.map_congr_left
      intro e he
      exact (hkey e (hp.subset (List.mem_filter.1 he).1)).symm
    rw [e1]
    have : (vis.map (fun e : Nat × Chg × Chg => e.2.1)).Nodup := ((hp.map (fun e : Nat × Chg × Chg => e.2.1)).nodup_iff).2 w.nd
    exact this.sublist (List.filter_sublist.map _)
  have h2 := List.pairwise_map.1 hnd
  exact (hs.and h2).imp fun {a b} ⟨h1, h2⟩ => aheadO_total h2 h1
set_option maxHeartbeats 2000000 in
set_option maxRecDepth 20000 in
theorem chgLast (l : List Chg) (hl : l.length ≤ 2 ^ 30) (h : AHeap) : SCalls Try.prog 40 [.imm l.length (l.flatMap chgE)] h (fun r h' => ∃ out, IsLast l out ∧ Acc h h' 38 5 r (out.flatMap chgE)) := by
  refine SCalls.enterI (c := _) Try.func40 rfl (by kernel_rfl) (by simp) ?_
  simp only [wpA_region, wpA_seq, wpA_block, wpA_loop, seqQ_normal, goI_out, goI_ops, opsA_nil, opsA_cons, stepA_move, stepA_assign, stepA_makeMap, stepA_len, thenV_some, thenH_some, eval_tmp, eval_const, put_some, enterF_zero, enterF_succ, absV_int, absV_snil, aLen_imm, makeMap_nil, Nat.reduceEqDiff, reduceCtorEq, Option.map_none, if_true, if_false, kt_34]
  refine SWp.loopG (α := Nat × EntC × Nat) (fun x f h' => f 3 = .map h.n ∧ f 10 = .imm l.length (l.flatMap chgE) ∧ f 11 = .int .i64 (l.length : Nat) ∧ f 12 = .int .i64 (x.1 : Nat) ∧ x.1 ≤ l.length ∧ Keep h h' none_ ∧ h.n < h'.n ∧ h'.get h.n = .map (cE x.2.1) x.2.2 ∧ LastM (l.take x.1) x.2.1 x.2.2) (fun x => l.length - x.1) (0, [], 0)
    ⟨rfl, rfl, rfl, rfl, Nat.zero_le _, Keep.push _ _ _, Nat.lt_succ_self _, get_push_new, LastM.nil⟩ ?_
  rintro ⟨t, m, cl⟩ f h1 ⟨f3, f10, f11, f12, ht, k1, n1, g1, w⟩
  simp only at f12 ht g1 w
  refine wpI_sound (by kernel_rfl) ?_
  by_cases hlt : t < l.length
  · have d1 : decide ((t : Int) < ((l.length : Nat) : Int)) = true := decide_eq_true (by omega)
    have hw : IntKind.i64.wrap ((t : Int) + 1) = ((t + 1 : Nat) : Int) := by rw [Go.IntWalk.i64_in _ (by omega)]; omega
    have x1 := chg_ix (kk := .i64) hlt
    have w2 := w.snoc l[t]
    rw [← List.take_succ_eq_append_getElem hlt] at w2
    generalize l[t] = c at x1 w2
    have cc := chg_cells
    have st := chg_store
    have kP := k1.then_push (.cells (chgE c) 38 none)
    have gP : (h1.push (.cells (chgE c) 38 none)).get h.n = .map (cE m) cl := (get_push_lt n1).trans g1
    have gC : (h1.push (.cells (chgE c) 38 none)).get h1.n = .cells (chgE c) 38 none := get_push_new
    simp only [wpA_skip, wpA_region, wpA_seq, wpA_cond, wpA_block, wpA_draw, condI_true, seqQ_normal, goI_out, goI_ops, opsA_nil, opsA_cons, stepA_alloc, stepA_load, stepA_store, stepA_binOp, stepA_indexAddr, thenV_some, thenH_some, thenS_some, eval_tmp, put_some, aBin_lss, aLoad_eq, loadGo_row, aPlace_at, aStore_eq, storeGo_ptr, aAlloc_eq, get_push_new, set_push, Nat.reduceEqDiff, Option.map_some, if_true, if_false, lt_38, zc_38, zt_38, f10, f11, f12, d1, x1, ldC, cc, st]
    refine SWp.drawnS none_ [4] (.q 0 (.q 1 (.c 2 (.q 3 (.a 4 .done))))) (by kernel_rfl) (by kernel_rfl) (by kernel_rfl) ?_
    simp only [siI_q, sqI_some, mOk_none', implies_true, qI_nil, qI_cons, thenQ_some, q_move, q_load, goI_mk, eval_tmp, put_some, put_none, aLoad_eq, loadGo_row, aPlace_ptr, dropC_cells, List.getElem?_cons_zero, List.getElem?_cons_succ, Nat.reduceEqDiff, Nat.zero_le, List.drop_zero, true_and, if_true, if_false, lt_38, f3, gC, ldc]
    refine siI_c rfl rfl rfl (fun h' _ => pPlace c h') ?_
    have hu := updC m (pl c) c gP
    simp only [siI_done, siI_q, siI_a, sqI_some, saI_some, mOk_none', implies_true, qI_nil, qI_cons, thenQ_some, q_load, wpA_region, seqQ_normal, blkQ_normal, endI_mk, andThen_normal, goI_out, goI_ops, goI_mk, opsA_nil, opsA_cons, stepA_move, stepA_binOp, stepA_mapUpdate, thenV_some, thenS_some, eval_tmp, eval_const, put_some, put_none, aBin_add, absV_int, aLoad_eq, loadGo_row, aPlace_ptr, dropC_cells, List.getElem?_cons_zero, List.getElem?_cons_succ, Nat.reduceEqDiff, Nat.zero_le, List.drop_zero, true_and, if_true, if_false, lt_38, f12, gC, ldc, hu, hw]
    refine hid_mk ⟨(t + 1, kset cl m (pl c) c, kclk cl m (pl c)), ⟨f3, f10, f11, rfl, hlt, kP.setNew (Nat.le_refl _) _, by show h.n < h1.n + 1; omega, get_set_same, w2⟩, by simp only; omega⟩
  · have d1 : decide ((t : Int) < ((l.length : Nat) : Int)) = false := decide_eq_false (by omega)
    rw [List.take_of_length_le (by omega)] at w
    obtain ⟨q, hq⟩ : ∃ q, mapT Try.prog 105 = some q := by
      obtain ⟨d, hm, _⟩ := mpc_d
      exact ⟨_, hm⟩
    have hrg := range_map hq g1
    simp only [wpA_region, wpA_seq, wpA_cond, wpA_block, wpA_exit, wpA_loop, condI_false, seqQ_normal, seqQ_exit, blkQ_exit, endI_mk, goE, andThen_exit, goI_out, goI_ops, opsA_nil, opsA_cons, stepA_move, stepA_assign, stepA_binOp, stepA_range, thenV_some, thenH_some, eval_tmp, eval_const, put_some, aBin_lss, absV_snil, Nat.reduceEqDiff, if_true, if_false, f3, f11, f12, d1, hrg]
    refine SWp.loopG (α := EntC) (fun vis f h' => f 22 = .ptr h1.n 0 ∧ h1.n < h'.n ∧ h'.get h1.n = .iter h.n cl (vis.map (·.1)) cl ∧ h'.get h.n = .map (cE m) cl ∧ Acc h h' 38 5 (f 6) (((vis.filter fun e => !e.2.2.del).map (·.2.2)).flatMap chgE) ∧
      idOf (f 6) ≠ some h1.n ∧ idOf (f 6) ≠ some h.n ∧ (∀ e ∈ vis, e ∈ m) ∧ (vis.map (·.1)).Nodup) (fun vis => (remOf (cE m) (vis.map (·.1))).length) []
      ⟨rfl, by simp only [push_n]; omega, get_push_new, (get_push_lt n1).trans g1, Acc.nil (k1.then_push _), (show idOf V.snil ≠ some h1.n by simp [idOf]), (show idOf V.snil ≠ some h.n by simp [idOf]), by simp, by simp⟩ ?_
    rintro vis f h2 ⟨f22, n2, gi, gm, acc, hd1, hd2, hvl, hvn⟩
    refine wpI_sound (by kernel_rfl) ?_
    have hsn : (m.map (·.1)).Nodup := by
      have := w.st.2
      rwa [show (cE m).map (·.1) = m.map (·.1) from mapK_stamps m] at this
    have hml := w.len
    simp only [wpA_region, wpA_seq, opsA_cons, stepA_next, eval_tmp, f22]
    refine alts_ro gi gm w.st (fun hleft => ?_) fun e he => ?_
    · have hp := kvis_perm hsn hvn hvl (kvis_all hleft)
      have hpl := hp.length_eq
      have hfl := (List.filter_sublist (p := fun e : Nat × Chg × Chg => !e.2.2.del) (l := vis)).length_le
      simp only [wpA_region, wpA_seq, wpA_cond, wpA_exit, condI_false, seqQ_normal, seqQ_exit, blkQ_exit, endI_mk, goE, andThen_exit, goI_out, goI_ops, opsA_nil, opsA_cons, stepA_move, stepA_extract, stepA_call, thenV_some, extV_zero, eval_tmp, eval_func, put_some, Nat.reduceEqDiff, List.map_cons, List.map_nil, if_true, if_false]
      refine callI_of cal24 (sortO h2 (f 6) _ acc.own (by rw [List.length_map]; omega)) fun r h3 ⟨e1, k3, out, pl, sl, o2⟩ => ?_
      subst e1
      simp only [wpA_region, wpA_seq, wpA_ret, seqQ_normal, endI_mk, goI_out, goI_ops, opsA_nil, opsA_cons, stepA_move, stepA_assign, eval_tmp, put_some, Nat.reduceEqDiff, if_true, if_false, retA_ret, Try.results40, resultsA_1]
      exact hid_mk ⟨out, w.last hp pl sl, o2, acc.keep.trans k3 fun q hq e => by have := acc.new q e; omega, acc.new⟩
    · obtain ⟨x, hx, rfl, hxn⟩ := kvis_next he
      have less := remOf_snoc he
      obtain ⟨n3, hvl2, hvlen⟩ := kvis_snoc hvn hvl hx hxn
      obtain ⟨xs, xk, c⟩ := x
      simp only at less he hxn
      generalize hH : h2.set h1.n (.iter h.n cl (vis.map (·.1) ++ [xs]) cl) = H
      have hge : h.n ≤ h1.n := by omega
      have aS : Acc h H 38 5 (f 6) (((vis.filter fun e => !e.2.2.del).map (·.2.2)).flatMap chgE) := by rw [← hH]; exact acc.set hge hd1 _
      have nH : H.n = h2.n := by rw [← hH]; rfl
      have gr : H.get h1.n = .iter h.n cl (vis.map (·.1) ++ [xs]) cl := by rw [← hH]; exact get_set_same
      have gmH : H.get h.n = .map (cE m) cl := by rw [← hH]; exact (get_set_ne (by omega)).trans gm
      have hen := entry_ro gr gmH w.st (List.mem_filter.1 he).1
      simp only at hen
      have cc := chg_cells
      have st := chg_store
      have ce : ckE c = .agg (chgE c) := rfl
      rw [ce] at hen
      have aP := aS.on (Keep.push H (.cells (chgE c) 38 none) none_)
      have gP : (H.push (.cells (chgE c) 38 none)).get h1.n = .iter h.n cl (vis.map (·.1) ++ [xs]) cl := (get_push_lt (by omega)).trans gr
      have gPm : (H.push (.cells (chgE c) 38 none)).get h.n = .map (cE m) cl := (get_push_lt (by omega)).trans gmH
      have gC : (H.push (.cells (chgE c) 38 none)).get H.n = .cells (chgE c) 38 none := get_push_new
      have cl4 : (if 4 ≤ (chgE c).length then some (List.drop 4 (chgE c)) else none) = some [.bool c.del] := rfl
      have nP : (H.push (.cells (chgE c) 38 none)).n = H.n + 1 := rfl
      cases hdel : c.del
      · rw [hdel] at cl4
        simp only [wpA_skip, wpA_region, wpA_seq, wpA_cond, wpA_block, condI_true, seqQ_normal, goI_out, goI_ops, opsA_nil, opsA_cons, stepA_move, stepA_alloc, stepA_buildSlice, stepA_load, stepA_store, stepA_unOp, stepA_fieldAddr, stepA_entry, stepA_extract, thenV_some, thenH_some, thenS_some, extV_zero, extV_succ, eval_tmp, put_some, put_none, aUn_not, aField_eq, fieldGo_ptr, aLoad_eq, loadGo_one, loadGo_row, aPlace_ptr, dropC_cells, aStore_eq, storeGo_ptr, aAlloc_eq, get_push_new, set_push, Nat.reduceEqDiff, List.map_cons, List.map_nil, Option.map_some, Nat.zero_add, Nat.zero_le, List.drop_zero, if_true, if_false, Bool.not_false, ft_38_4, lt_38, lt_4, zc_38, zt_38, f22, hen, cc, st, gC, cl4, ldc]
        generalize H.push (.cells (chgE c) 38 none) = HP at aP gP gPm gC nP ⊢
        have hfl := (List.filter_sublist (p := fun e : Nat × Chg × Chg => !e.2.2.del) (l := vis)).length_le
        obtain ⟨s', h3, ea, o2, kp2, d2⟩ := append_elemM (P := Try.prog) sl_34 (by decide) aP.own (xs := chgE c) rfl rfl (fun m hm => by
          change m * 5 = _ + 5 at hm
          rw [rows_len chgE_len, List.length_map] at hm
          exact ⟨by simp only [lim]; omega, by simp only [lim]; omega⟩)
        have hlit := lit1c HP c
        have a2 := aP.step o2 kp2 d2
        have n3' := kp2.n
        have hne : ∀ k, k < HP.n → idOf (f 6) ≠ some k → idOf s' ≠ some k := fun k hk hh e => by
          rcases d2 with d | d
          · exact hh (d ▸ e)
          · have := d _ e; omega
        simp only [blkQ_normal, endI_mk, andThen_normal, goI_out, goI_ops, opsA_nil, opsA_cons, stepA_assign, stepA_append, thenH_some, eval_tmp, put_some, put_none, Nat.reduceEqDiff, if_true, if_false, hlit, ea]
        refine hid_mk ⟨vis ++ [(xs, xk, c)], ⟨f22, by omega, ?_, (kp2.get h.n (by omega) (fun hh => hd2 hh)).trans gPm, ?_, hne h1.n (by omega) hd1, hne h.n (by omega) hd2, hvl2, n3⟩, ?_⟩
        · rw [kp2.get h1.n (by omega) (fun hh => hd1 hh), gP]; simp
        · refine a2.conv ?_
          rw [List.filter_append, List.filter_cons_of_pos (by simp [hdel]), List.filter_nil, List.map_append, List.flatMap_append]
          simp
        · rw [List.map_append]; exact less
      · rw [hdel] at cl4
        simp only [wpA_skip, wpA_region, wpA_seq, wpA_cond, wpA_block, condI_true, condI_false, seqQ_normal, blkQ_normal, endI_mk, andThen_normal, goI_out, goI_ops, opsA_nil, opsA_cons, stepA_alloc, stepA_load, stepA_store, stepA_unOp, stepA_fieldAddr, stepA_entry, stepA_extract, thenV_some, thenH_some, thenS_some, extV_zero, extV_succ, eval_tmp, put_some, put_none, aUn_not, aField_eq, fieldGo_ptr, aLoad_eq, loadGo_one, aPlace_ptr, dropC_cells, aStore_eq, storeGo_ptr, aAlloc_eq, get_push_new, set_push, Nat.reduceEqDiff, Option.map_some, Nat.zero_add, if_true, if_false, Bool.not_true, ft_38_4, lt_4, zc_38, zt_38, f22, hen, cc, st, gC, cl4]
        generalize H.push (.cells (chgE c) 38 none) = HP at aP gP gPm gC nP ⊢
        refine hid_mk ⟨vis ++ [(xs, xk, c)], ⟨f22, by omega, ?_, gPm, ?_, hd1, hd2, hvl2, n3⟩, ?_⟩
        · rw [gP]; simp
        · refine aP.conv ?_
          rw [List.filter_append, List.filter_cons_of_neg (by simp [hdel]), List.filter_nil, List.append_nil]
        · rw [List.map_append]; exact less
end Go.Proofs.Yteegfdinghnoiaa.Pk
namespace Go.Proofs.Yteegfdinghnoiaa.Pk
open Go Go.Proofs Go.Proofs.Yteegfdinghnoiaa.Ab Go.Sort
set_option linter.unusedVariables false
set_option linter.unusedSimpArgs false
/-! ### Last, as a function -/
def lastOnes : List Chg → List Chg
  | [] => []
  | c :: r => if (r.any fun d => decide (pl c = pl d)) || c.del then lastOnes r else c :: lastOnes r
def insAll (acc : List Chg) (l : List Chg) : List Chg := l.foldl (fun a c => insO c a) acc
def lastL (l : List Chg) : List Chg := insAll [] (lastOnes l)
theorem any_none {r : List Chg} {c : Chg} : (r.any fun d => decide (pl c = pl d)) = false ↔ lastOf r (pl c) = none := by
  rw [lastOf_none, List.any_eq_false]
  constructor
  · intro h d hd e
    exact h d hd (decide_eq_true e.symm)
  · intro h d hd e
    exact h d hd (of_decide_eq_true e).symm
theorem lastOnes_mem : ∀ {l : List Chg} {c : Chg}, c ∈ lastOnes l ↔ lastOf l (pl c) = some c ∧ c.del = false
  | [], c => by simp [lastOnes, lastOf_nil]
  | x :: r, c => by
    rw [lastOnes, lastOf_cons]
    have ih := lastOnes_mem (l := r) (c := c)
    cases hl : lastOf r (pl c) with
    | some d =>
      rw [hl] at ih
      split
      · rw [ih]; rfl
      · rename_i hx
        rw [List.mem_cons, ih]
        constructor
        · rintro (rfl | h)
          · simp only [Bool.or_eq_true, not_or, Bool.not_eq_true] at hx
            rw [any_none] at hx
            rw [hx.1] at hl; cases hl
          · exact h
        · exact fun h => .inr h
    | none =>
      rw [hl] at ih
      have hn : c ∉ lastOnes r := fun h => by have := (ih.1 h).1; cases this
      split
      · rename_i hx
        refine ⟨fun h => absurd h hn, fun ⟨h1, h2⟩ => ?_⟩
        by_cases hp : pl x = pl c
        · rw [if_pos hp] at h1
          have e : x = c := Option.some.inj h1
          subst e
          rw [any_none.2 hl, h2] at hx
          cases hx
        · rw [if_neg hp] at h1; cases h1
      · rename_i hx
        simp only [Bool.or_eq_true, not_or, Bool.not_eq_true] at hx
        rw [List.mem_cons]
        constructor
        · rintro (rfl | h)
          · exact ⟨by rw [if_pos rfl]; rfl, hx.2⟩
          · exact absurd h hn
        · rintro ⟨h1, h2⟩
          by_cases hp : pl x = pl c
          · rw [if_pos hp] at h1
            exact .inl (Option.some.inj h1).symm
          · rw [if_neg hp] at h1; cases h1
theorem lastOnes_apart : ∀ l : List Chg, (lastOnes l).Pairwise fun a b => pl a ≠ pl b
  | [] => List.Pairwise.nil
  | x :: r => by
    rw [lastOnes]
    split
    · exact lastOnes_apart r
    · rename_i hx
      simp only [Bool.or_eq_true, not_or, Bool.not_eq_true] at hx
      refine List.pairwise_cons.2 ⟨fun y hy e => ?_, lastOnes_apart r⟩
      have h1 := (lastOnes_mem.1 hy).1
      rw [← e, any_none.1 hx.1] at h1
      cases h1
theorem insAll_mem {c : Chg} : ∀ {l acc : List Chg}, c ∈ insAll acc l ↔ c ∈ acc ∨ c ∈ l
  | [], acc => by simp [insAll]
  | x :: l, acc => by
    show c ∈ insAll (insO x acc) l ↔ _
    rw [insAll_mem, insO_mem, List.mem_cons]
    constructor
    · rintro ((h | h) | h) <;> simp [h]
    · rintro (h | h | h) <;> simp [h]
theorem insAll_up : ∀ {l acc : List Chg}, Rising acc → (l.Pairwise fun a b => pl a ≠ pl b) → (∀ a ∈ acc, ∀ b ∈ l, pl a ≠ pl b) → Rising (insAll acc l)
  | [], acc, h, _, _ => h
  | x :: l, acc, h, hp, hn => by
    have hp' := List.pairwise_cons.1 hp
    show Rising (insAll (insO x acc) l)
    refine insAll_up (insO_up h fun a ha => hn a ha x List.mem_cons_self) hp'.2 fun a ha b hb => ?_
    rcases insO_mem.1 ha with rfl | ha
    · exact hp'.1 b hb
    · exact hn a ha b (List.mem_cons_of_mem _ hb)
theorem isLast (l : List Chg) : IsLast l (lastL l) :=
  ⟨fun c => by unfold lastL; rw [insAll_mem, lastOnes_mem]; simp, insAll_up List.Pairwise.nil (lastOnes_apart l) (by simp)⟩
theorem lastL_len (l : List Chg) : (lastL l).length ≤ l.length := (isLast l).len
theorem pLast (l : List Chg) (hl : l.length ≤ 2 ^ 30) (h : AHeap) : Pure Try.prog 40 [.imm l.length (l.flatMap chgE)] h (.imm (lastL l).length ((lastL l).flatMap chgE)) := by
  refine Pure.of (Clo.imm (rows_clo chgE_clo _)) ((chgLast l hl h).mono fun r h' ⟨out, io, acc⟩ => ?_)
  have e : out = lastL l := io.unique (isLast l) fun _ => rfl
  subst e
  obtain ⟨h2, c, k2⟩ := Cast.own acc.own (n := (lastL l).length) (rows_len chgE_len _) (by decide)
  exact ⟨h2, c, acc.keep.trans k2 fun q hq e => by have := acc.new q e; omega⟩
end Go.Proofs.Yteegfdinghnoiaa.Pk
namespace Go.Proofs.Yteegfdinghnoiaa.Pk
open Go Go.Proofs Go.Proofs.Yteegfdinghnoiaa.Ab Go.Sort
set_option linter.unusedVariables false
set_option linter.unusedSimpArgs false
theorem accOne {h0 h : AHeap} {s : V} {a : List Chg} (c : Chg) (w : Acc h0 h 38 5 s (a.flatMap chgE)) (hl : a.length ≤ 2 ^ 30) :
    ∃ v h', aAppend Try.prog 34 34 s (.sl h.n 0 1 1) (h.push (.cells (chgE c) 38 none)) = some (v, h') ∧ Acc h0 h' 38 5 v ((a ++ [c]).flatMap chgE) := by
  obtain ⟨v, h', e, w'⟩ := Acc.elemM (P := Try.prog) sl_34 w (by decide) (chgE_len c) (chgE_one c) (fun m hm => by
    rw [rows_len chgE_len] at hm
    change m * 5 = _ + 5 at hm
    exact ⟨by simp only [lim]; omega, by simp only [lim]; omega⟩)
  exact ⟨v, h', e, w'.conv (by rw [List.flatMap_append]; simp)⟩
end Go.Proofs.Yteegfdinghnoiaa.Pk
namespace Go.Proofs.Yteegfdinghnoiaa.Pk
open Go Go.Proofs Go.Proofs.Yteegfdinghnoiaa.Ab Go.Sort
set_option linter.unusedVariables false
set_option linter.unusedSimpArgs false
set_option maxHeartbeats 1000000 in
set_option maxRecDepth 10000 in
theorem rPlace (a b : Chg) (h : AHeap) : Pure Try.prog 59 [.agg (chgE a), .agg (chgE b)] h (.bool (decide (pl a = pl b))) := by
  refine Pure.val (Clo.bool _) ?_
  refine SCalls.enterI (c := _) Try.func59 rfl (by kernel_rfl) (by simp) ?_
  have cc := chg_cells
  have cl : ∀ c : Chg, (chgE c).length = 5 := chgE_len
  have cd1 : ∀ c : Chg, List.drop 1 (chgE c) = [.int .i64 c.fr, .int .i64 c.to, .int .i64 c.val, .bool c.del] := fun _ => rfl
  have cd2 : ∀ c : Chg, List.drop 2 (chgE c) = [.int .i64 c.to, .int .i64 c.val, .bool c.del] := fun _ => rfl
  have ck0 : ∀ c : Chg, loadGo (some none) (some (chgE c)) = some (.int .i64 c.key) := fun _ => rfl
  have kk : Keep h ((h.push (.cells (chgE a) 38 none)).push (.cells (chgE b) 38 none)) none_ := (Keep.push _ _ _).then_push _
  have e : decide (pl a = pl b) = ((a.key == b.key) && (a.fr == b.fr) && (a.to == b.to)) := by
    rw [Bool.eq_iff_iff]
    simp [pl, Chg.mk.injEq, and_assoc]
  rw [e]
  generalize hk1 : (a.key == b.key) = b1
  generalize hk2 : (a.fr == b.fr) = b2
  generalize hk3 : (a.to == b.to) = b3
  cases b1 <;> cases b2 <;> cases b3
  all_goals
    simp only [wpA_region, wpA_seq, wpA_ret, seqQ_normal, endI_mk, goI_out, goI_ops, opsA_nil, opsA_cons, opsA_guardS, gvI_same, gvI_ft, slotAt_zero, slotAt_succ, stepA_move, stepA_assign, stepA_pick, stepA_box, stepA_load, stepA_binOp, stepA_fieldAddr, thenV_some, thenH_some, pickV_true, pickV_false, eval_tmp, eval_const, put_some, enterF_zero, enterF_succ, aBin_eql, absV_bool, aField_eq, fieldGo_ptr, aLoad_eq, loadGo_one, aPlace_ptr, dropC_cells, aBox_eq, push_n, get_push2, get_push2', Nat.reduceEqDiff, Nat.reduceLeDiff, Option.map_some, Nat.add_zero, Nat.zero_add, Nat.zero_le, List.drop_zero, if_true, if_false, ft_38_0, ft_38_1, ft_38_2, lt_2, cc, cl, cd1, cd2, ck0, hk1, hk2, hk3, retA_ret, Try.results59, resultsA_1]
    exact hid_mk ⟨rfl, kk⟩
set_option maxHeartbeats 1000000 in
set_option maxRecDepth 10000 in
theorem rAhead (a b : Chg) (h : AHeap) : Pure Try.prog 60 [.agg (chgE a), .agg (chgE b)] h (.bool (aheadO a b)) := by
  refine Pure.val (Clo.bool _) ?_
  refine SCalls.enterI (c := _) Try.func60 rfl (by kernel_rfl) (by simp) ?_
  have cc := chg_cells
  have cl : ∀ c : Chg, (chgE c).length = 5 := chgE_len
  have cd1 : ∀ c : Chg, List.drop 1 (chgE c) = [.int .i64 c.fr, .int .i64 c.to, .int .i64 c.val, .bool c.del] := fun _ => rfl
  have cd2 : ∀ c : Chg, List.drop 2 (chgE c) = [.int .i64 c.to, .int .i64 c.val, .bool c.del] := fun _ => rfl
  have ck0 : ∀ c : Chg, loadGo (some none) (some (chgE c)) = some (.int .i64 c.key) := fun _ => rfl
  have kk : Keep h ((h.push (.cells (chgE a) 38 none)).push (.cells (chgE b) 38 none)) none_ := (Keep.push _ _ _).then_push _
  by_cases e1 : a.key = b.key
  · have n1 : (a.key != b.key) = false := by simp [e1]
    by_cases e2 : a.fr = b.fr
    · have n2 : (a.fr != b.fr) = false := by simp [e2]
      simp only [wpA_skip, wpA_region, wpA_seq, wpA_cond, wpA_ret, condI_false, seqQ_normal, endI_mk, goI_out, goI_ops, opsA_nil, opsA_cons, stepA_assign, stepA_box, stepA_load, stepA_binOp, stepA_fieldAddr, thenV_some, thenH_some, eval_tmp, eval_const, put_some, enterF_zero, enterF_succ, aBin_neq, aBin_lss, absV_bool, aField_eq, fieldGo_ptr, aLoad_eq, loadGo_one, aPlace_ptr, dropC_cells, aBox_eq, push_n, get_push2, get_push2', Nat.reduceEqDiff, Nat.reduceLeDiff, Option.map_some, Nat.add_zero, Nat.zero_add, Nat.zero_le, List.drop_zero, if_true, if_false, ft_38_0, ft_38_1, ft_38_2, lt_2, cc, cl, cd1, cd2, ck0, n1, n2, retA_ret, Try.results60, resultsA_1]
      refine hid_mk ⟨congrArg V.bool ?_, kk⟩
      unfold aheadO
      rw [Bool.eq_iff_iff]; simp only [decide_eq_true_eq]; omega
    · have n2 : (a.fr != b.fr) = true := by simp [e2]
      simp only [wpA_skip, wpA_region, wpA_seq, wpA_cond, wpA_ret, condI_true, condI_false, seqQ_normal, seqQ_ret, endI_mk, goI_out, goI_ops, opsA_nil, opsA_cons, stepA_assign, stepA_box, stepA_load, stepA_binOp, stepA_fieldAddr, thenV_some, thenH_some, eval_tmp, eval_const, put_some, enterF_zero, enterF_succ, aBin_neq, aBin_lss, absV_bool, aField_eq, fieldGo_ptr, aLoad_eq, loadGo_one, aPlace_ptr, dropC_cells, aBox_eq, push_n, get_push2, get_push2', Nat.reduceEqDiff, Nat.reduceLeDiff, Option.map_some, Nat.add_zero, Nat.zero_add, Nat.zero_le, List.drop_zero, if_true, if_false, ft_38_0, ft_38_1, lt_2, cc, cl, cd1, ck0, n1, n2, retA_ret, Try.results60, resultsA_1]
      refine hid_mk ⟨congrArg V.bool ?_, kk⟩
      unfold aheadO
      rw [Bool.eq_iff_iff]; simp only [decide_eq_true_eq]; omega
  · have n1 : (a.key != b.key) = true := by simp [e1]
    simp only [wpA_region, wpA_seq, wpA_cond, wpA_ret, condI_true, seqQ_normal, seqQ_ret, endI_mk, goI_out, goI_ops, opsA_nil, opsA_cons, stepA_assign, stepA_box, stepA_load, stepA_binOp, stepA_fieldAddr, thenV_some, thenH_some, eval_tmp, eval_const, put_some, enterF_zero, enterF_succ, aBin_neq, aBin_lss, absV_bool, aField_eq, fieldGo_ptr, aLoad_eq, aPlace_ptr, dropC_cells, aBox_eq, push_n, get_push2, get_push2', Nat.reduceEqDiff, Option.map_some, Nat.add_zero, Nat.zero_le, List.drop_zero, if_true, if_false, ft_38_0, lt_2, cc, cl, ck0, n1, retA_ret, Try.results60, resultsA_1]
    refine hid_mk ⟨congrArg V.bool ?_, kk⟩
    unfold aheadO
    rw [Bool.eq_iff_iff]; simp only [decide_eq_true_eq]; omega
end Go.Proofs.Yteegfdinghnoiaa.Pk
namespace Go.Proofs.Yteegfdinghnoiaa.Pk
open Go Go.Proofs Go.Proofs.Yteegfdinghnoiaa.Ab Go.Sort
set_option linter.unusedVariables false
set_option linter.unusedSimpArgs false
theorem insO_before {c x : Chg} {a r : List Chg} (h : ∀ y ∈ a, aheadO c y = false) (hx : aheadO c x = true) : insO c (a ++ x :: r) = a ++ c :: x :: r := by
  rw [insO_skip _ h, insO, if_pos hx]
theorem mem_take_succ {l : List Chg} {k : Nat} (hk : k < l.length) : l[k] ∈ l.take (k + 1) := by
  rw [List.take_succ_eq_append_getElem hk]; exact List.mem_append_right _ (List.mem_singleton.2 rfl)
/-- How far an insertion has come. -/
inductive InsAt (c : Chg) (out : List Chg) (k : Nat) : Bool → List Chg → Prop
  | yet (h : ∀ y ∈ out.take k, aheadO c y = false) : InsAt c out k false (out.take k)
  | done (h : ∃ y ∈ out.take k, aheadO c y = true) : InsAt c out k true (insO c (out.take k))
theorem InsAt.step_yes {c : Chg} {out : List Chg} {k : Nat} {n : List Chg} (hk : k < out.length) (w : InsAt c out k false n) (ha : aheadO c out[k] = true) : InsAt c out (k + 1) true (n ++ [c] ++ [out[k]]) := by
  cases w with
  | yet h =>
    have e : insO c (out.take (k + 1)) = out.take k ++ [c] ++ [out[k]] := by
      rw [List.take_succ_eq_append_getElem hk, insO_before h ha]; simp
    rw [← e]
    exact .done ⟨out[k], mem_take_succ hk, ha⟩
theorem InsAt.step_no {c : Chg} {out : List Chg} {k : Nat} {n : List Chg} (hk : k < out.length) (w : InsAt c out k false n) (ha : aheadO c out[k] = false) : InsAt c out (k + 1) false (n ++ [out[k]]) := by
  cases w with
  | yet h =>
    rw [← List.take_succ_eq_append_getElem hk]
    refine .yet fun y hy => ?_
    rw [List.take_succ_eq_append_getElem hk] at hy
    rcases List.mem_append.1 hy with hy | hy
    · exact h y hy
    · simp at hy; subst hy; exact ha
theorem InsAt.step_done {c : Chg} {out : List Chg} {k : Nat} {n : List Chg} (hk : k < out.length) (w : InsAt c out k true n) : InsAt c out (k + 1) true (n ++ [out[k]]) := by
  cases w with
  | done h =>
    rw [← insO_app _ h, ← List.take_succ_eq_append_getElem hk]
    obtain ⟨y, hy, h2⟩ := h
    exact .done ⟨y, by rw [List.take_succ_eq_append_getElem hk]; exact List.mem_append_left _ hy, h2⟩
theorem InsAt.len {c : Chg} {out : List Chg} {k : Nat} {b : Bool} {n : List Chg} (w : InsAt c out k b n) : n.length ≤ out.length + 1 := by
  cases w with
  | yet h => rw [List.length_take]; omega
  | done h => rw [insO_len, List.length_take]; omega
set_option maxHeartbeats 4000000 in
set_option maxRecDepth 20000 in
theorem rLast (l : List Chg) (hl : l.length ≤ 2 ^ 28) (h : AHeap) : Pure Try.prog 41 [.imm l.length (l.flatMap chgE)] h (.imm (lastL l).length ((lastL l).flatMap chgE)) := by
  refine Pure.of (Clo.imm (rows_clo chgE_clo _)) ?_
  refine SCalls.enterI (c := _) Try.func41 rfl (by kernel_rfl) (by simp) ?_
  simp only [wpA_region, wpA_seq, wpA_block, wpA_loop, seqQ_normal, goI_out, goI_ops, opsA_nil, opsA_cons, stepA_assign, eval_const, absV_int, absV_snil]
  obtain ⟨hc, c0, k0⟩ := Cast.own (Own.snil h 38 5) (n := 0) rfl (by decide)
  refine SWp.loopG (α := Nat × List Chg) (fun x f h' => ∃ f2 h2, CastF f h' f2 h2 ∧ f2 0 = .imm l.length (l.flatMap chgE) ∧ f2 3 = .imm x.2.length (x.2.flatMap chgE) ∧ f2 4 = .int .i64 (x.1 : Nat) ∧ x.1 ≤ l.length ∧ Keep h h2 none_ ∧ insAll x.2 (lastOnes (l.drop x.1)) = lastL l ∧ x.2.length ≤ x.1)
    (fun x => l.length - x.1) (0, [])
    ⟨_, _, CastF.slot (t := 3) (v := .imm 0 []) c0, rfl, rfl, rfl, Nat.zero_le _, k0.mono fun q hq => by simp [isId, idOf] at hq, rfl, Nat.le_refl _⟩ ?_
  rintro ⟨t, out⟩ f0' h0' ⟨f, h1, hcast, f0, f3, f4, ht, k1, hins, hout⟩
  simp only at f3 f4 ht hins hout
  refine SWp.cast hcast ?_
  refine wpI_sound (by kernel_rfl) ?_
  by_cases hlt : t < l.length
  · have d1 : decide ((t : Int) < ((l.length : Nat) : Int)) = true := decide_eq_true (by omega)
    have hw : IntKind.i64.wrap ((t : Int) + 1) = ((t + 1 : Nat) : Int) := by rw [Go.IntWalk.i64_in _ (by omega)]; omega
    have x1 := chg_ix (kk := .i64) hlt
    rw [List.drop_eq_getElem_cons hlt] at hins
    generalize hcdef : l[t] = c at x1 hins
    simp only [wpA_skip, wpA_region, wpA_seq, wpA_cond, wpA_block, wpA_loop, condI_true, seqQ_normal, goI_out, goI_ops, opsA_nil, opsA_cons, stepA_move, stepA_assign, stepA_binOp, stepA_len, thenV_some, eval_tmp, eval_const, put_some, aBin_add, aBin_lss, absV_int, absV_bool, aLen_imm, Nat.reduceEqDiff, reduceCtorEq, if_true, if_false, kt_34, f0, f4, d1, hw]
    refine SWp.loopG (α := Nat) (fun v f h' => f 0 = .imm l.length (l.flatMap chgE) ∧ f 3 = .imm out.length (out.flatMap chgE) ∧ f 4 = .int .i64 (t : Nat) ∧ f 5 = .bool (((l.drop (t + 1)).take v).any fun d => decide (pl c = pl d)) ∧ f 6 = .int .i64 ((t + 1 + v : Nat) : Int) ∧ t + 1 + v ≤ l.length ∧ h' = h1)
      (fun v => l.length - (t + 1 + v)) 0 ⟨f0, f3, f4, rfl, rfl, by omega, rfl⟩ ?_
    clear f0 f3 f4 hcast
    rintro v f h2 ⟨f0, f3, f4, f5, f6, hv, rfl⟩
    refine wpI_sound (by kernel_rfl) ?_
    by_cases hlv : t + 1 + v < l.length
    · have d2 : decide (((t + 1 + v : Nat) : Int) < ((l.length : Nat) : Int)) = true := decide_eq_true (by omega)
      have hw2 : IntKind.i64.wrap (((t + 1 + v : Nat) : Int) + 1) = ((t + 1 + (v + 1) : Nat) : Int) := by rw [Go.IntWalk.i64_in _ (by omega)]; omega
      have x2 := chg_ix (l := l) (kk := .i64) hlv
      have hX : v < (l.drop (t + 1)).length := by rw [List.length_drop]; omega
      have hel : (l.drop (t + 1))[v] = l[t + 1 + v] := by rw [List.getElem_drop]
      have hany : (((l.drop (t + 1)).take (v + 1)).any fun d => decide (pl c = pl d)) = ((((l.drop (t + 1)).take v).any fun d => decide (pl c = pl d)) || decide (pl c = pl l[t + 1 + v])) := by
        rw [List.take_succ_eq_append_getElem hX, List.any_append, hel]; simp
      generalize l[t + 1 + v] = d at x2 hany
      generalize (((l.drop (t + 1)).take v).any fun d => decide (pl c = pl d)) = ag at f5 hany
      cases ag
      · simp only [wpA_skip, wpA_region, wpA_seq, wpA_cond, wpA_block, wpA_draw, condI_true, seqQ_normal, goI_out, goI_ops, opsA_nil, opsA_cons, stepA_move, stepA_binOp, stepA_len, thenV_some, eval_tmp, put_some, aBin_lss, aLen_imm, Nat.reduceEqDiff, reduceCtorEq, if_true, if_false, kt_34, f0, f6, d2]
        refine SWp.drawnS none_ [] (.q 0 (.q 1 (.q 2 (.q 3 (.q 4 (.q 5 (.q 6 (.q 7 (.q 8 (.q 9 (.c 10 (.q 11 (.q 12 .done))))))))))))) (by kernel_rfl) (by kernel_rfl) (by kernel_rfl) ?_
        simp only [siI_q, sqI_some, mOk_none', implies_true, qI_nil, qI_cons, qI_guard, qgI_same, thenQ_some, q_move, q_load, q_indexAddr, goI_mk, slotAt_zero, slotAt_succ, eval_tmp, put_some, aLoad_eq, loadGo_row, aPlace_at, List.getElem?_cons_zero, List.getElem?_cons_succ, Nat.reduceEqDiff, reduceCtorEq, true_and, if_true, if_false, lt_38, f0, f4, f5, f6, x1, x2, ldC]
        refine siI_c rfl rfl rfl (fun h' _ => rPlace c d h') ?_
        simp only [siI_done, siI_q, sqI_some, mOk_none', implies_true, qI_nil, qI_cons, thenQ_some, q_assign, q_pick, wpA_region, seqQ_normal, blkQ_normal, endI_mk, andThen_normal, goI_out, goI_ops, goI_mk, opsA_nil, opsA_cons, stepA_move, stepA_assign, stepA_binOp, thenV_some, pickV_false, eval_tmp, eval_const, put_some, aBin_add, absV_int, absV_bool, List.getElem?_cons_zero, List.getElem?_cons_succ, Nat.reduceEqDiff, true_and, if_true, if_false, f6, hw2]
        exact hid_mk ⟨v + 1, ⟨f0, f3, f4, by rw [hany]; rfl, rfl, by omega, rfl⟩, by omega⟩
      · simp only [wpA_skip, wpA_region, wpA_seq, wpA_cond, wpA_block, wpA_draw, condI_true, seqQ_normal, goI_out, goI_ops, opsA_nil, opsA_cons, stepA_move, stepA_binOp, stepA_len, thenV_some, eval_tmp, put_some, aBin_lss, aLen_imm, Nat.reduceEqDiff, reduceCtorEq, if_true, if_false, kt_34, f0, f6, d2]
        refine SWp.drawnS none_ [] (.q 0 (.q 1 (.q 2 (.q 3 (.q 4 (.q 5 (.q 6 (.q 7 (.q 8 (.q 9 (.c 10 (.q 11 (.q 12 .done))))))))))))) (by kernel_rfl) (by kernel_rfl) (by kernel_rfl) ?_
        simp only [siI_q, sqI_some, mOk_none', implies_true, qI_nil, qI_cons, qI_guard, qgI_tf, q_move, goI_mk, slotAt_zero, slotAt_succ, eval_tmp, put_some, List.getElem?_cons_zero, List.getElem?_cons_succ, Nat.reduceEqDiff, true_and, if_true, if_false, f5]
        refine siI_cskip rfl rfl ?_
        simp only [siI_done, siI_q, sqI_some, mOk_none', implies_true, qI_nil, qI_cons, thenQ_some, q_assign, q_pick, wpA_region, seqQ_normal, blkQ_normal, endI_mk, andThen_normal, goI_out, goI_ops, goI_mk, opsA_nil, opsA_cons, stepA_move, stepA_assign, stepA_binOp, thenV_some, pickV_true, eval_tmp, eval_const, put_some, aBin_add, absV_int, absV_bool, List.getElem?_cons_zero, List.getElem?_cons_succ, Nat.reduceEqDiff, true_and, if_true, if_false, f6, hw2]
        exact hid_mk ⟨v + 1, ⟨f0, f3, f4, by rw [hany]; rfl, rfl, by omega, rfl⟩, by omega⟩
    · have d2 : decide (((t + 1 + v : Nat) : Int) < ((l.length : Nat) : Int)) = false := decide_eq_false (by omega)
      rw [List.take_of_length_le (by rw [List.length_drop]; omega)] at f5
      rw [lastOnes] at hins
      have ld4 : ∀ (d : Chg) (r : List V), (if 4 ≤ (chgE d ++ r).length then some (V.at (List.drop 4 (chgE d ++ r))) else none) = some (.at (.bool d.del :: r)) := fun d r => by rw [if_pos (by rw [List.length_append, chgE_len]; omega)]; rfl
      generalize hag : ((l.drop (t + 1)).any fun d => decide (pl c = pl d)) = ag at f5 hins
      generalize hcd : c.del = cd at hins
      have skip : (ag || cd) = true → insAll out (lastOnes (l.drop (t + 1))) = lastL l := fun hh => by rw [if_pos hh] at hins; exact hins
      have take : (ag || cd) = false → insAll (insO c out) (lastOnes (l.drop (t + 1))) = lastL l := fun hh => by rw [if_neg (by rw [hh]; decide)] at hins; exact hins
      cases ag
      · cases cd
        · simp only [wpA_skip, wpA_region, wpA_seq, wpA_cond, wpA_block, wpA_exit, wpA_ret, wpA_loop, condI_false, seqQ_normal, seqQ_exit, blkQ_exit, endI_mk, goE, andThen_normal, andThen_exit, goI_out, goI_ops, opsA_nil, opsA_cons, opsA_guardS, gvI_same, slotAt_zero, slotAt_succ, stepA_move, stepA_assign, stepA_pick, stepA_load, stepA_binOp, stepA_fieldAddr, stepA_indexAddr, stepA_len, thenV_some, pickV_false, eval_tmp, eval_const, put_some, aBin_add, aBin_lss, absV_int, absV_bool, absV_snil, aField_eq, fieldGo_at, aLoad_eq, loadGo_one, aPlace_at, aLen_imm, Nat.reduceEqDiff, reduceCtorEq, if_true, if_false, ft_38_4, kt_34, lt_4, f0, f3, f4, f5, f6, d2, x1, ld4, hcd]
          refine SWp.loopG (α := Nat × Bool × List Chg) (fun x f h' => f 0 = .imm l.length (l.flatMap chgE) ∧ f 3 = .imm out.length (out.flatMap chgE) ∧ f 4 = .int .i64 (t : Nat) ∧ f 8 = .bool x.2.1 ∧ f 9 = .int .i64 (x.1 : Nat) ∧ x.1 ≤ out.length ∧ InsAt c out x.1 x.2.1 x.2.2 ∧ Acc h2 h' 38 5 (f 7) (x.2.2.flatMap chgE))
            (fun x => out.length - x.1) (0, false, []) ⟨f0, f3, f4, rfl, rfl, Nat.zero_le _, .yet (by simp), Acc.nil (Keep.refl _ _)⟩ ?_
          clear f0 f3 f4 f5 f6
          rintro ⟨u, b, nx⟩ f h3 ⟨f0, f3, f4, f8, f9, hu, wi, a3⟩
          simp only at f8 f9 hu wi a3
          refine wpI_sound (by kernel_rfl) ?_
          have hnl := wi.len
          by_cases hlu : u < out.length
          · have d3 : decide ((u : Int) < ((out.length : Nat) : Int)) = true := decide_eq_true (by omega)
            have hw3 : IntKind.i64.wrap ((u : Int) + 1) = ((u + 1 : Nat) : Int) := by rw [Go.IntWalk.i64_in _ (by omega)]; omega
            have x3 := chg_ix (l := out) (kk := .i64) hlu
            have s1 := fun hb : b = false => (hb ▸ wi : InsAt c out u false nx).step_yes hlu
            have s2 := fun hb : b = false => (hb ▸ wi : InsAt c out u false nx).step_no hlu
            have s3 := fun hb : b = true => (hb ▸ wi : InsAt c out u true nx).step_done hlu
            generalize out[u] = e at x3 s1 s2 s3
            cases b
            · cases hae : aheadO c e
              · have w2 := s2 rfl hae
                obtain ⟨v5, h5, e5, a5⟩ := accOne e a3 (by omega)
                have lit := lit1c h3 e
                simp only [wpA_skip, wpA_region, wpA_seq, wpA_cond, wpA_block, wpA_draw, condI_true, seqQ_normal, goI_out, goI_ops, opsA_nil, opsA_cons, stepA_move, stepA_binOp, stepA_len, thenV_some, eval_tmp, put_some, aBin_lss, aLen_imm, Nat.reduceEqDiff, if_true, if_false, kt_34, f3, f9, d3]
                refine SWp.drawnS none_ [] (.q 0 (.q 1 (.q 2 (.q 3 (.q 4 (.q 5 (.q 6 (.q 7 (.q 8 (.q 9 (.q 10 (.c 11 (.q 12 .done))))))))))))) (by kernel_rfl) (by kernel_rfl) (by kernel_rfl) ?_
                simp only [siI_q, sqI_some, mOk_none', implies_true, qI_nil, qI_cons, qI_guard, qgI_same, thenQ_some, q_move, q_load, q_unOp, q_indexAddr, goI_mk, slotAt_zero, slotAt_succ, eval_tmp, put_some, aUn_not, aLoad_eq, loadGo_row, aPlace_at, List.getElem?_cons_zero, List.getElem?_cons_succ, Nat.reduceEqDiff, reduceCtorEq, true_and, if_true, if_false, Bool.not_false, lt_38, f0, f3, f4, f8, f9, x1, x3, ldC]
                refine siI_c rfl rfl rfl (fun h' _ => rAhead c e h') ?_
                rw [hae]
                simp only [siI_done, siI_q, sqI_some, mOk_none', implies_true, qI_nil, qI_cons, thenQ_some, q_pick, wpA_skip, wpA_region, wpA_cond, condI_false, seqQ_normal, blkQ_normal, endI_mk, andThen_normal, goI_out, goI_ops, goI_mk, opsA_nil, opsA_cons, stepA_move, stepA_assign, stepA_buildSlice, stepA_load, stepA_binOp, stepA_indexAddr, stepA_append, thenV_some, thenH_some, pickV_true, eval_tmp, eval_const, put_some, aBin_add, absV_int, absV_bool, aLoad_eq, loadGo_row, aPlace_at, List.getElem?_cons_zero, List.getElem?_cons_succ, Nat.reduceEqDiff, List.map_cons, List.map_nil, true_and, if_true, if_false, lt_38, f3, f9, x3, ldC, lit, e5, hw3]
                exact hid_mk ⟨(u + 1, false, nx ++ [e]), ⟨f0, f3, f4, f8, rfl, hlu, w2, a5⟩, by simp only; omega⟩
              · have w2 := s1 rfl hae
                obtain ⟨v5, h5, e5, a5⟩ := accOne c a3 (by omega)
                obtain ⟨v6, h6, e6, a6⟩ := accOne e a5 (by rw [List.length_append]; simp; omega)
                have lit := lit1c h3 c
                have lit2 := lit1c h5 e
                simp only [wpA_skip, wpA_region, wpA_seq, wpA_cond, wpA_block, wpA_draw, condI_true, seqQ_normal, goI_out, goI_ops, opsA_nil, opsA_cons, stepA_move, stepA_binOp, stepA_len, thenV_some, eval_tmp, put_some, aBin_lss, aLen_imm, Nat.reduceEqDiff, if_true, if_false, kt_34, f3, f9, d3]
                refine SWp.drawnS none_ [] (.q 0 (.q 1 (.q 2 (.q 3 (.q 4 (.q 5 (.q 6 (.q 7 (.q 8 (.q 9 (.q 10 (.c 11 (.q 12 .done))))))))))))) (by kernel_rfl) (by kernel_rfl) (by kernel_rfl) ?_
                simp only [siI_q, sqI_some, mOk_none', implies_true, qI_nil, qI_cons, qI_guard, qgI_same, thenQ_some, q_move, q_load, q_unOp, q_indexAddr, goI_mk, slotAt_zero, slotAt_succ, eval_tmp, put_some, aUn_not, aLoad_eq, loadGo_row, aPlace_at, List.getElem?_cons_zero, List.getElem?_cons_succ, Nat.reduceEqDiff, reduceCtorEq, true_and, if_true, if_false, Bool.not_false, lt_38, f0, f3, f4, f8, f9, x1, x3, ldC]
                refine siI_c rfl rfl rfl (fun h' _ => rAhead c e h') ?_
                rw [hae]
                simp only [siI_done, siI_q, sqI_some, mOk_none', implies_true, qI_nil, qI_cons, thenQ_some, q_pick, wpA_region, wpA_seq, wpA_cond, condI_true, seqQ_normal, blkQ_normal, endI_mk, andThen_normal, goI_out, goI_ops, goI_mk, opsA_nil, opsA_cons, stepA_move, stepA_assign, stepA_buildSlice, stepA_load, stepA_binOp, stepA_indexAddr, stepA_append, thenV_some, thenH_some, pickV_true, eval_tmp, eval_const, put_some, aBin_add, absV_int, absV_bool, aLoad_eq, loadGo_row, aPlace_at, List.getElem?_cons_zero, List.getElem?_cons_succ, Nat.reduceEqDiff, reduceCtorEq, List.map_cons, List.map_nil, true_and, if_true, if_false, lt_38, f0, f3, f4, f9, x1, x3, ldC, lit, e5, lit2, e6, hw3]
                exact hid_mk ⟨(u + 1, true, nx ++ [c] ++ [e]), ⟨f0, f3, f4, rfl, rfl, hlu, w2, a6⟩, by simp only; omega⟩
            · have w2 := s3 rfl
              obtain ⟨v5, h5, e5, a5⟩ := accOne e a3 (by omega)
              have lit := lit1c h3 e
              simp only [wpA_skip, wpA_region, wpA_seq, wpA_cond, wpA_block, wpA_draw, condI_true, seqQ_normal, goI_out, goI_ops, opsA_nil, opsA_cons, stepA_move, stepA_binOp, stepA_len, thenV_some, eval_tmp, put_some, aBin_lss, aLen_imm, Nat.reduceEqDiff, if_true, if_false, kt_34, f3, f9, d3]
              refine SWp.drawnS none_ [] (.q 0 (.q 1 (.q 2 (.q 3 (.q 4 (.q 5 (.q 6 (.q 7 (.q 8 (.q 9 (.q 10 (.c 11 (.q 12 .done))))))))))))) (by kernel_rfl) (by kernel_rfl) (by kernel_rfl) ?_
              simp only [siI_q, sqI_some, mOk_none', implies_true, qI_nil, qI_cons, qI_guard, qgI_ft, thenQ_some, q_move, q_unOp, goI_mk, slotAt_zero, slotAt_succ, eval_tmp, put_some, aUn_not, List.getElem?_cons_zero, List.getElem?_cons_succ, Nat.reduceEqDiff, true_and, if_true, if_false, Bool.not_true, f8]
              refine siI_cskip rfl rfl ?_
              simp only [siI_done, siI_q, sqI_some, mOk_none', implies_true, qI_nil, qI_cons, thenQ_some, q_pick, wpA_skip, wpA_region, wpA_cond, condI_false, seqQ_normal, blkQ_normal, endI_mk, andThen_normal, goI_out, goI_ops, goI_mk, opsA_nil, opsA_cons, stepA_move, stepA_assign, stepA_buildSlice, stepA_load, stepA_binOp, stepA_indexAddr, stepA_append, thenV_some, thenH_some, pickV_false, eval_tmp, eval_const, put_some, aBin_add, absV_int, absV_bool, aLoad_eq, loadGo_row, aPlace_at, List.getElem?_cons_zero, List.getElem?_cons_succ, Nat.reduceEqDiff, List.map_cons, List.map_nil, true_and, if_true, if_false, lt_38, f3, f9, x3, ldC, lit, e5, hw3]
              exact hid_mk ⟨(u + 1, true, nx ++ [e]), ⟨f0, f3, f4, f8, rfl, hlu, w2, a5⟩, by simp only; omega⟩
          · have d3 : decide ((u : Int) < ((out.length : Nat) : Int)) = false := decide_eq_false (by omega)
            have hu2 : u = out.length := by omega
            subst hu2
            cases b
            · have e7 : nx ++ [c] = insO c out := by
                cases wi with
                | yet hy => rw [List.take_length] at hy ⊢; show out ++ insO c [] = _; rw [← insO_skip [] hy, List.append_nil]
              obtain ⟨v5, h5, e5, a5⟩ := accOne c a3 (by omega)
              rw [e7] at a5
              have lit := lit1c h3 c
              obtain ⟨h6, c6, k6⟩ := a5.cast (n := (insO c out).length) (rows_len chgE_len _) (by decide)
              simp only [wpA_region, wpA_seq, wpA_cond, wpA_exit, wpA_ret, condI_true, condI_false, seqQ_normal, seqQ_exit, blkQ_normal, blkQ_exit, endI_mk, goE, andThen_normal, andThen_exit, goI_out, goI_ops, opsA_nil, opsA_cons, stepA_move, stepA_assign, stepA_buildSlice, stepA_load, stepA_binOp, stepA_unOp, stepA_indexAddr, stepA_len, stepA_append, thenV_some, thenH_some, eval_tmp, eval_const, put_some, aBin_add, aBin_lss, aUn_not, absV_int, aLoad_eq, loadGo_row, aPlace_at, aLen_imm, Nat.reduceEqDiff, reduceCtorEq, List.map_cons, List.map_nil, if_true, if_false, Bool.not_false, kt_34, lt_38, f0, f3, f4, f8, f9, d3, x1, ldC, lit, e5, hw]
              exact hid_mk ⟨(t + 1, insO c out), ⟨_, h6, CastF.slot (t := 3) (v := .imm (insO c out).length ((insO c out).flatMap chgE)) c6, f0, rfl, rfl, hlt, k1.trans' k6, take rfl, by simp only [insO_len]; omega⟩, by simp only; omega⟩
            · have e7 : nx = insO c out := by
                cases wi with
                | done hy => rw [List.take_length]
              rw [e7] at a3
              obtain ⟨h6, c6, k6⟩ := a3.cast (n := (insO c out).length) (rows_len chgE_len _) (by decide)
              simp only [wpA_skip, wpA_region, wpA_seq, wpA_cond, wpA_exit, wpA_ret, condI_false, seqQ_normal, seqQ_exit, blkQ_normal, blkQ_exit, endI_mk, goE, andThen_normal, andThen_exit, goI_out, goI_ops, opsA_nil, opsA_cons, stepA_move, stepA_assign, stepA_binOp, stepA_unOp, stepA_len, thenV_some, eval_tmp, eval_const, put_some, aBin_add, aBin_lss, aUn_not, absV_int, aLen_imm, Nat.reduceEqDiff, reduceCtorEq, if_true, if_false, Bool.not_true, kt_34, f3, f4, f8, f9, d3, hw]
              exact hid_mk ⟨(t + 1, insO c out), ⟨_, h6, CastF.slot (t := 3) (v := .imm (insO c out).length ((insO c out).flatMap chgE)) c6, f0, rfl, rfl, hlt, k1.trans' k6, take rfl, by simp only [insO_len]; omega⟩, by simp only; omega⟩
        · simp only [wpA_region, wpA_seq, wpA_cond, wpA_exit, wpA_ret, condI_true, condI_false, seqQ_normal, seqQ_exit, blkQ_exit, endI_mk, goE, andThen_normal, andThen_exit, goI_out, goI_ops, opsA_nil, opsA_cons, opsA_guardS, gvI_same, slotAt_zero, slotAt_succ, stepA_move, stepA_assign, stepA_pick, stepA_load, stepA_binOp, stepA_fieldAddr, stepA_indexAddr, stepA_len, thenV_some, pickV_false, eval_tmp, eval_const, put_some, aBin_add, aBin_lss, absV_int, absV_bool, aField_eq, fieldGo_at, aLoad_eq, loadGo_one, aPlace_at, aLen_imm, Nat.reduceEqDiff, reduceCtorEq, if_true, if_false, ft_38_4, kt_34, lt_4, f0, f3, f4, f5, f6, d2, x1, ld4, hcd, hw]
          exact hid_mk ⟨(t + 1, out), ⟨_, _, CastF.refl _ _, f0, f3, rfl, hlt, k1, skip rfl, by simp only; omega⟩, by simp only; omega⟩
      · simp only [wpA_region, wpA_seq, wpA_cond, wpA_exit, wpA_ret, condI_true, condI_false, seqQ_normal, seqQ_exit, blkQ_exit, endI_mk, goE, andThen_normal, andThen_exit, goI_out, goI_ops, opsA_nil, opsA_cons, opsA_guardS, gvI_tf, slotAt_zero, slotAt_succ, stepA_move, stepA_assign, stepA_pick, stepA_binOp, stepA_len, thenV_some, pickV_true, eval_tmp, eval_const, put_some, aBin_add, aBin_lss, absV_int, absV_bool, aLen_imm, Nat.reduceEqDiff, reduceCtorEq, if_true, if_false, kt_34, f0, f3, f4, f5, f6, d2, hw]
        exact hid_mk ⟨(t + 1, out), ⟨_, _, CastF.refl _ _, f0, f3, rfl, hlt, k1, skip rfl, by simp only; omega⟩, by simp only; omega⟩
  · have d1 : decide ((t : Int) < ((l.length : Nat) : Int)) = false := decide_eq_false (by omega)
    rw [List.drop_of_length_le (by omega)] at hins
    have he : out = lastL l := hins
    subst he
    simp only [wpA_region, wpA_seq, wpA_cond, wpA_exit, wpA_ret, condI_false, seqQ_normal, seqQ_exit, blkQ_exit, endI_mk, goE, andThen_exit, goI_out, goI_ops, opsA_nil, opsA_cons, stepA_move, stepA_assign, stepA_binOp, stepA_len, thenV_some, eval_tmp, put_some, aBin_lss, aLen_imm, Nat.reduceEqDiff, reduceCtorEq, if_true, if_false, kt_34, f0, f3, f4, d1, retA_ret, Try.results41, resultsA_1]
    exact hid_mk ⟨_, Cast.refl _ _, k1⟩
end Go.Proofs.Yteegfdinghnoiaa.Pk
