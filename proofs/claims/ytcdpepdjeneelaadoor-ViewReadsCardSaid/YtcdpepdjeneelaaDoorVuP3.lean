/-
  What functions of the program do, told of abstract states. Conditions: as each theorem says.
-/
import Derived.Test.YtcdpepdjeneelaaDoorVuP2
import Derived.Test.YtcdpepdjeneelaaDoorAbD
import Derived.Test.YtcdpepdjeneelaaDoorVsE
import Derived.Test.YtcdpepdjeneelaaDoorVtB
import Derived.Test.YtcdpepdjeneelaaDoorVtG
import Derived.Test.YtcdpepdjeneelaaDoorVtH
namespace Go.Proofs.YtcdpepdjeneelaaDoor.Pk
open Go Go.Proofs Go.Proofs.YtcdpepdjeneelaaDoor.Ab Go.Proofs.Vw
set_option linter.unusedVariables false
set_option linter.unusedSimpArgs false
/-! ### The reference: Read -/
def entAt (l : List Ent) (p : Int) : Ent := (l[p.toNat]?).getD zE
def logKeys (l : List Ent) : List Int := keysK ((putL l).map fun p => (entAt l p).log)
def recsP (l : List Ent) (P : List Int) (k : Int) : List LR := (P.filter fun p => (entAt l p).log == k).map fun p => ((entAt l p).r, (entAt l p).del)
def refLogs (l : List Ent) : List (Int × List LR) := (logKeys l).map fun k => (k, recsP l (putL l) k)
def tvR (n : Int) (o : OneJ) : TV := ⟨n, o.ep, o.tx, o.offs, o.ord, o.opn.length⟩
def refTasks (l : List Ent) : List TV := (namesL l).map fun n => tvR n (ofL l n)
/-- Places that there are. -/
theorem of_in (l : List Ent) (n : Int) : (∀ p ∈ (ofL l n).opn, 0 ≤ p ∧ p < (l.length : Int)) ∧ ∀ p ∈ (ofL l n).done, 0 ≤ p ∧ p < (l.length : Int) := by
  refine snoc_ind (p := fun l => (∀ p ∈ (ofL l n).opn, 0 ≤ p ∧ p < (l.length : Int)) ∧ ∀ p ∈ (ofL l n).done, 0 ≤ p ∧ p < (l.length : Int)) ?_ (fun l x b => ?_) l
  · show (∀ p ∈ one0.opn, _) ∧ ∀ p ∈ one0.done, _
    simp [one0]
  rw [ofL_snoc, List.length_append]
  generalize ofL l n = o at b
  obtain ⟨b1, b2⟩ := b
  have c1 : ∀ p ∈ o.opn, 0 ≤ p ∧ p < ((l.length + [x].length : Nat) : Int) := fun p hp => by have := b1 p hp; simp only [List.length_singleton]; omega
  have c2 : ∀ p ∈ o.done, 0 ≤ p ∧ p < ((l.length + [x].length : Nat) : Int) := fun p hp => by have := b2 p hp; simp only [List.length_singleton]; omega
  unfold stepO
  split
  · exact ⟨c1, c2⟩
  split
  · split
    · exact ⟨by simp, c2⟩
    · exact ⟨c1, c2⟩
  split
  · exact ⟨c1, c2⟩
  split
  · refine ⟨fun p hp => ?_, c2⟩
    rcases List.mem_append.1 hp with hp | hp
    · exact c1 p hp
    · rw [List.mem_singleton.1 hp]; simp only [List.length_singleton]; omega
  split
  · refine ⟨by simp, fun p hp => ?_⟩
    rcases List.mem_append.1 hp with hp | hp
    · exact c2 p hp
    · exact c1 p hp
  · exact ⟨by simp, c2⟩
theorem pick_mem {o : OneJ} {i : Nat} {p : Int} (h : p ∈ pick o i) : p ∈ o.done := by
  unfold pick at h
  obtain ⟨z, hz, rfl⟩ := List.mem_map.1 h
  exact (List.of_mem_zip (List.mem_filter.1 hz).1).1
theorem put_in (l : List Ent) : ∀ p ∈ putL l, 0 ≤ p ∧ p < (l.length : Int) := fun p hp => by
  unfold putL at hp
  obtain ⟨i, hi, hp⟩ := List.mem_flatMap.1 hp
  have hi := List.mem_range.1 hi
  unfold putAt at hp
  rcases List.mem_append.1 hp with hp | hp
  · unfold inpI at hp
    have : ∀ b : Bool, p ∈ (if b = true then [(i : Int)] else []) → p = (i : Int) := fun b => by cases b <;> simp
    have := this _ hp
    omega
  · obtain ⟨q, hq, hp⟩ := List.mem_flatMap.1 hp
    unfold onesL at hq
    obtain ⟨n, _, rfl⟩ := List.mem_map.1 hq
    exact (of_in l n).2 p (pick_mem hp)
theorem put_le (l : List Ent) (hl : l.length ≤ 200) : (putL l).length ≤ 2 ^ 32 := by
  have h1 := flat_le (f := putAt l) (B := 1 + l.length * (l.length * l.length)) (List.range l.length) fun x _ => putAt_le l x
  rw [List.length_range] at h1
  have h2 : l.length * (1 + l.length * (l.length * l.length)) ≤ 200 * (1 + 200 * (200 * 200)) := Nat.mul_le_mul hl (Nat.add_le_add_left (Nat.mul_le_mul hl (Nat.mul_le_mul hl hl)) 1)
  unfold putL
  omega
theorem ent_at {l : List Ent} {p : Int} (h : 0 ≤ p ∧ p < (l.length : Int)) : ∃ r, aIndexAddr Tryd.prog 22 (.imm l.length (l.flatMap entE)) (.int .i64 p) = some (.at (entE (entAt l p) ++ r)) := by
  obtain ⟨q, rfl⟩ : ∃ q : Nat, p = (q : Int) := ⟨p.toNat, by omega⟩
  have hq : q < l.length := by omega
  have e : entAt l (q : Int) = l[q] := by unfold entAt; rw [Int.toNat_natCast, List.getElem?_eq_getElem hq]; rfl
  rw [e]
  exact ⟨_, ent_ix hq⟩
theorem ent_at_may {l : List Ent} {p : Int} (h : 0 ≤ p ∧ p < (l.length : Int)) : entAt l p ∈ l := by
  obtain ⟨q, rfl⟩ : ∃ q : Nat, p = (q : Int) := ⟨p.toNat, by omega⟩
  have hq : q < l.length := by omega
  unfold entAt
  rw [Int.toNat_natCast, List.getElem?_eq_getElem hq]
  exact List.getElem_mem hq
theorem CastL.pr2 : ∀ (a : List V) {r r2 : List V} {h h2 : AHeap}, CastL r h r2 h2 → CastL (a ++ r) h (a ++ r2) h2
  | [], _, _, _, _, c => c
  | x :: a, _, _, _, _, c => CastL.cons (Cast.refl _ _) (CastL.pr2 a c)
/-- What was appended last is told otherwise. -/
theorem castTail {h h1 : AHeap} {e : TypeId} {sz : Nat} {v : V} {cs xs xs2 : List V} {own1 : Nat → Prop} (o : Own h e sz v (cs ++ xs)) (hcl : ∀ r, CastL (xs ++ r) h (xs2 ++ r) h1) (hle : xs2.length = xs.length) (hne0 : xs ≠ []) (k1 : Keep h h1 own1) (hne : ∀ q, idOf v = some q → ¬ own1 q) :
    ∃ h2, Cast .top h .top h2 ∧ Own h2 e sz v (cs ++ xs2) ∧ Keep h1 h2 (isId v) := by
  rcases o with ⟨hv, hc⟩ | ⟨i, len, cap, c, ex, rfl, hi, hg, hlen, htake, hcap⟩
  · exact absurd (List.append_eq_nil_iff.1 hc).2 hne0
  · have hcc : c = (cs ++ xs) ++ c.drop (len * sz) := by rw [← htake, List.take_append_drop]
    have hgc : h.get i = .cells ((cs ++ xs) ++ c.drop (len * sz)) e ex := by rw [← hcc]; exact hg
    have hg1 : h1.get i = .cells ((cs ++ xs) ++ c.drop (len * sz)) e ex := (k1.get i hi (hne i rfl)).trans hgc
    have hl : ((cs ++ xs2) ++ c.drop (len * sz)).length = c.length := by
      conv => rhs; rw [hcc]
      rw [List.length_append, List.length_append, List.length_append, List.length_append, hle]
    have hlen2 : (cs ++ xs2).length = len * sz := by rw [← hlen, List.length_append, List.length_append, hle]
    refine ⟨h1.set i (.cells ((cs ++ xs2) ++ c.drop (len * sz)) e ex), Cast.cellC hgc (by rw [List.append_assoc, List.append_assoc]; exact CastL.pr2 _ (hcl _)) hg1 (by rw [hl]; conv => lhs; rw [hcc]) _, .inr ⟨i, len, cap, _, ex, rfl, by rw [set_n]; exact Nat.lt_of_lt_of_le hi k1.n, get_set_same, hlen2, ?_, by rw [hl]; exact hcap⟩, (Keep.set _ _ _).mono fun q hq => by rw [isId]; simp [idOf, hq]⟩
    rw [← hlen2, List.take_left']
    rfl
end Go.Proofs.YtcdpepdjeneelaaDoor.Pk
namespace Go.Proofs.YtcdpepdjeneelaaDoor.Pk
open Go Go.Proofs Go.Proofs.YtcdpepdjeneelaaDoor.Ab Go.Proofs.Vw
set_option linter.unusedVariables false
set_option linter.unusedSimpArgs false
set_option maxHeartbeats 16000000 in
set_option maxRecDepth 20000 in
theorem rRead (l : List Ent) (hl : l.length ≤ 200) (he : ∀ x ∈ l, eLen x) (h : AHeap) :
    Pure Tryd.prog 13 [.imm l.length (l.flatMap entE)] h (.agg (tdC ⟨refLogs l, refTasks l, l.length⟩)) := by
  refine Pure.of (Clo.agg (tdC_clo _)) ?_
  refine SCalls.enterI (c := _) Tryd.func13 rfl (by kernel_rfl) (by simp) ?_
  simp only [wpA_region, wpA_seq, seqQ_normal, goI_out, goI_ops, opsA_nil, opsA_cons, stepA_move, stepA_alloc, stepA_build, stepA_store, stepA_len, stepA_call, thenV_some, thenH_some, thenS_some, eval_tmp, put_some, put_none, enterF_zero, enterF_succ, cells_int, cells_agg, one_int, one_snil, all_nil, all_cons, aStore_eq, storeGo_ptr, setC_row, setAll_nil, setAll_cons, aAlloc_eq, aLen_imm, aBuild_go, aFill_nil, aFill_cons, fillGo_some, buildGo_struct, push_n, get_push2, set_push2, List.getElem?_cons_zero, List.getElem?_cons_succ, Nat.reduceEqDiff, Nat.reduceAdd, reduceCtorEq, List.map_cons, List.map_nil, Option.map_some, Nat.zero_add, List.length_cons, List.length_nil, List.set_cons_zero, List.set_cons_succ, and_self, if_true, if_false, Bool.and_self, Nat.le_refl, kt_22, pl_29, zc_29, zt_29]
  obtain ⟨H0, hH0⟩ : ∃ y, y = (h.push (.cells [.snil, .snil, .int .i64 0] 29 none)).push (.cells [.snil, .snil, .int .i64 (l.length : Nat)] 29 none) := ⟨_, rfl⟩
  have k0 : Keep h H0 none_ := by rw [hH0]; exact (Keep.push _ _ _).trans' (Keep.push _ _ _)
  have n0 : H0.n = h.n + 2 := by rw [hH0]; simp only [push_n]
  have g0 : H0.get h.n = .cells [.snil, .snil, .int .i64 0] 29 none := by rw [hH0, get_push_lt (by simp only [push_n]; omega)]; exact get_push_new
  have g1 : H0.get (h.n + 1) = .cells [.snil, .snil, .int .i64 (l.length : Nat)] 29 none := by rw [hH0]; exact get_push_new
  rw [← hH0]
  clear hH0
  refine callI_pure cal24 (rNames l (by omega) he H0) ?_
  have hnl := namesL_len l
  simp only [wpA_region, wpA_seq, wpA_block, wpA_loop, seqQ_normal, goI_out, goI_ops, opsA_nil, opsA_cons, stepA_assign, eval_tmp, eval_const, put_some, put_none, enterF_succ, absV_int, Nat.reduceEqDiff, if_true, if_false]
  refine SWp.loopG (α := Nat × V) (fun y f h' => f 0 = .imm l.length (l.flatMap entE) ∧ f 2 = .ptr h.n 0 ∧ f 3 = .ptr (h.n + 1) 0 ∧ f 4 = .imm (namesL l).length (i64V (namesL l)) ∧ f 5 = .int .i64 (y.1 : Nat) ∧ y.1 ≤ (namesL l).length ∧
      Keep h h' none_ ∧ h.n + 1 < h'.n ∧ h'.get h.n = .cells [.snil, .snil, .int .i64 0] 29 none ∧ h'.get (h.n + 1) = .cells [.snil, y.2, .int .i64 (l.length : Nat)] 29 none ∧ Own h' 41 6 y.2 (((refTasks l).take y.1).flatMap tvC) ∧ (∀ q, idOf y.2 = some q → h.n + 2 ≤ q)) (fun y => (namesL l).length - y.1) (0, .snil)
    ⟨rfl, rfl, rfl, rfl, rfl, Nat.zero_le _, k0, by omega, g0, g1, Own.snil _ _ _, fun q hq => by simp [idOf] at hq⟩ ?_
  rintro ⟨k, tv⟩ f h1 ⟨f0, f2, f3, f4, f5, hk, k1, n1, g0, g1, ot, idt⟩
  simp only at f5 hk g1 ot idt
  refine wpI_sound (by kernel_rfl) ?_
  have hrt : (refTasks l).length = (namesL l).length := by unfold refTasks; rw [List.length_map]
  by_cases hlt : k < (namesL l).length
  · have d1 : decide ((k : Int) < (((namesL l).length : Nat) : Int)) = true := decide_eq_true (by omega)
    have wk : IntKind.i64.wrap ((k : Int) + 1) = ((k + 1 : Nat) : Int) := by rw [Go.IntWalk.i64_in _ (by omega)]; omega
    obtain ⟨r, x1⟩ := int_ix (l := namesL l) (kk := .i64) hlt
    have htk : (refTasks l).take (k + 1) = (refTasks l).take k ++ [tvR (namesL l)[k] (ofL l (namesL l)[k])] := by
      rw [List.take_succ_eq_append_getElem (by omega)]
      unfold refTasks
      simp
    have hT : ((refTasks l).take k).length ≤ 200 := by rw [List.length_take]; omega
    generalize (namesL l)[k] = n at x1 htk
    simp only [wpA_skip, wpA_region, wpA_seq, wpA_cond, wpA_block, condI_true, seqQ_normal, goI_out, goI_ops, opsA_nil, opsA_cons, stepA_move, stepA_load, stepA_binOp, stepA_indexAddr, stepA_len, stepA_call, thenV_some, eval_tmp, put_some, aBin_lss, aLoad_eq, loadGo_one, aPlace_at, aLen_imm, Nat.reduceEqDiff, reduceCtorEq, List.map_cons, List.map_nil, if_true, if_false, kt_39, lt_3, f0, f4, f5, d1, x1]
    refine callI_pure cal25 (rOf l n (by omega) he h1) ?_
    have cO : (V.agg (oneC n (ofL l n) (ofL l n).opn.length)).cells = some (oneE (n, ofL l n)) := rfl
    have sO : setC (some 9) (AObj.cells [V.int .i64 0, .int .i64 0, .int .i64 0, .snil, .snil, .int .i64 0, .snil, .snil, .snil] 64 none) 0 (oneE (n, ofL l n)) = some (.cells (oneE (n, ofL l n)) 64 none) := rfl
    obtain ⟨H, hH⟩ : ∃ y, y = h1.push (.cells (oneE (n, ofL l n)) 64 none) := ⟨_, rfl⟩
    have kH : Keep h1 H none_ := by rw [hH]; exact Keep.push _ _ _
    have nH : H.n = h1.n + 1 := by rw [hH]; rfl
    have gO : H.get h1.n = .cells (oneE (n, ofL l n)) 64 none := by rw [hH]; exact get_push_new
    have gH1 := (kH.get (h.n + 1) n1 (by simp [none_])).trans g1
    have dO : dropC (AObj.cells (oneE (n, ofL l n)) 64 none) 0 = some (oneE (n, ofL l n)) := rfl
    have lO : loadGo (some (some 6)) (some (oneE (n, ofL l n))) = some (.agg (tvC (tvR n (ofL l n)))) := rfl
    have tO : (oneE (n, ofL l n)).take 6 = tvC (tvR n (ofL l n)) := rfl
    have c6 : (6 ≤ (oneE (n, ofL l n)).length) = True := eq_true (by rw [oneE_len]; omega)
    have nid : ¬ isId tv (h.n + 1) := fun hh => by have := idt _ hh; omega
    have nid0 : ¬ isId tv h.n := fun hh => by have := idt _ hh; omega
    obtain ⟨tv', h2, ea, o2, k2, d2⟩ := append_elemM (P := Tryd.prog) (t := 27) sl_27 (by decide) (ot.keepN kH) (xs := tvC (tvR n (ofL l n))) rfl rfl (fun m hm => by
      change m * 6 = _ + 6 at hm
      rw [rows_len tvC_len] at hm
      exact ⟨by simp only [lim]; omega, by simp only [lim]; omega⟩)
    have n2 := k2.n
    have g12 := (k2.get (h.n + 1) (by omega) nid).trans gH1
    have g02 := (k2.get h.n (by omega) nid0).trans ((kH.get h.n (by omega) (by simp [none_])).trans g0)
    have one2 : tv'.one = true := by rcases o2 with ⟨rfl | rfl, _⟩ | ⟨_, _, _, _, _, rfl, _⟩ <;> rfl
    have cell2 : tv'.cells = some [tv'] := by rcases o2 with ⟨rfl | rfl, _⟩ | ⟨_, _, _, _, _, rfl, _⟩ <;> rfl
    have st : setC (some 1) (AObj.cells [V.snil, tv, .int .i64 (l.length : Nat)] 29 none) 1 [tv'] = some (.cells [V.snil, tv', .int .i64 (l.length : Nat)] 29 none) := by rw [setC_one one2]; rfl
    have b1 := litT1 H (tvR n (ofL l n))
    have idt' : ∀ q, idOf tv' = some q → h.n + 2 ≤ q := fun q hq => by
      rcases d2 with d | d
      · exact idt q (d ▸ hq)
      · have := d q hq; omega
    simp only [wpA_region, seqQ_normal, goI_out, goI_ops, opsA_nil, opsA_cons, stepA_move, stepA_assign, stepA_alloc, stepA_load, stepA_store, stepA_fieldAddr, stepA_extract, thenV_some, thenH_some, thenS_some, extV_zero, extV_succ, eval_tmp, put_some, put_none, aField_eq, fieldGo_ptr, aLoad_eq, aPlace_ptr, aStore_eq, storeGo_ptr, aAlloc_eq, get_push_new, set_push, Nat.reduceEqDiff, Option.map_some, Nat.zero_add, if_true, if_false, ft_29_1, lt_27, zc_64, zt_64, f3, cO, sO]
    rw [← hH]
    clear hH
    simp only [wpA_region, seqQ_normal, blkQ_normal, endI_mk, andThen_normal, goI_out, goI_ops, opsA_nil, opsA_cons, stepA_move, stepA_assign, stepA_buildSlice, stepA_load, stepA_store, stepA_binOp, stepA_fieldAddr, stepA_append, thenV_some, thenH_some, thenS_some, eval_tmp, eval_const, put_some, put_none, aBin_add, absV_int, aField_eq, fieldGo_ptr, aLoad_eq, loadGo_one, loadGo_row, aPlace_ptr, dropC_cells, aStore_eq, storeGo_ptr, Nat.reduceEqDiff, Nat.reduceAdd, Nat.reduceLeDiff, List.map_cons, List.map_nil, Option.map_some, Nat.add_zero, Nat.zero_add, List.length_cons, List.length_nil, List.drop_zero, List.drop_succ_cons, if_true, if_false, ft_29_1, ft_64_0, lt_41, zt_27, f3, f5, gH1, gO, dO, tO, c6, b1, ea, g12, st, cell2, wk]
    have kS : ∀ o, Keep h2 (h2.set (h.n + 1) o) (· = h.n + 1) := fun o => Keep.set _ _ _
    exact hid_mk ⟨(k + 1, tv'), ⟨f0, f2, f3, f4, rfl, hlt, ((k1.trans' kH).trans k2 fun q hq hh => by have := idt q hh; omega).trans (kS _) fun q hq hh => by omega, by rw [set_n]; omega, ((kS _).get h.n (by omega) (by omega)).trans g02, get_set_same, (by
      rw [htk, List.flatMap_append]
      simpa using o2.keep (kS _) fun q hq hh => by have := idt' q hq; omega), idt'⟩, by simp only; omega⟩
  · have d1 : decide ((k : Int) < (((namesL l).length : Nat) : Int)) = false := decide_eq_false (by omega)
    rw [List.take_of_length_le (by omega)] at ot
    simp only [wpA_region, wpA_seq, wpA_cond, wpA_exit, condI_false, seqQ_normal, seqQ_exit, blkQ_exit, endI_mk, goE, andThen_exit, goI_out, goI_ops, opsA_nil, opsA_cons, stepA_move, stepA_binOp, stepA_len, stepA_call, thenV_some, eval_tmp, put_some, aBin_lss, aLen_imm, Nat.reduceEqDiff, reduceCtorEq, List.map_cons, List.map_nil, if_true, if_false, kt_39, f0, f4, f5, d1]
    refine callI_pure cal26 (rPut l hl he h1) ?_
    have hpl := put_le l hl
    have hpin := put_in l
    simp only [wpA_region, wpA_seq, wpA_block, wpA_loop, seqQ_normal, goI_out, goI_ops, opsA_nil, opsA_cons, stepA_assign, eval_tmp, eval_const, put_some, absV_int, absV_snil, Nat.reduceEqDiff, if_true, if_false]
    refine SWp.loopG (α := Nat) (fun i f h' => f 0 = .imm l.length (l.flatMap entE) ∧ f 2 = .ptr h.n 0 ∧ f 3 = .ptr (h.n + 1) 0 ∧ f 8 = .imm (putL l).length (i64V (putL l)) ∧
        ((keysK (((putL l).take i).map fun p => (entAt l p).log) = [] ∧ f 9 = .snil) ∨ f 9 = .imm (keysK (((putL l).take i).map fun p => (entAt l p).log)).length (i64V (keysK (((putL l).take i).map fun p => (entAt l p).log)))) ∧ f 10 = .int .i64 (i : Nat) ∧ i ≤ (putL l).length ∧ h' = h1) (fun i => (putL l).length - i) 0
      ⟨f0, f2, f3, rfl, .inl ⟨rfl, rfl⟩, rfl, Nat.zero_le _, rfl⟩ ?_
    clear f0 f2 f3 f4 f5 d1
    rintro i f h1' ⟨f0, f2, f3, f8, f9, f10, hi, rfl⟩
    refine wpI_sound (by kernel_rfl) ?_
    by_cases hil : i < (putL l).length
    · have d1 : decide ((i : Int) < (((putL l).length : Nat) : Int)) = true := decide_eq_true (by omega)
      have wi : IntKind.i64.wrap ((i : Int) + 1) = ((i + 1 : Nat) : Int) := by rw [Go.IntWalk.i64_in _ (by omega)]; omega
      obtain ⟨r, x1⟩ := int_ix (l := putL l) (kk := .i64) hil
      have hp := hpin _ (List.getElem_mem hil)
      have hks : keysK (((putL l).take (i + 1)).map fun p => (entAt l p).log) = insK (entAt l (putL l)[i]).log (keysK (((putL l).take i).map fun p => (entAt l p).log)) := by
        rw [List.take_succ_eq_append_getElem hil, List.map_append]
        unfold keysK
        rw [List.foldl_append]
        rfl
      have hup := keysK_up (((putL l).take i).map fun p => (entAt l p).log)
      have hkl : (keysK (((putL l).take i).map fun p => (entAt l p).log)).length ≤ 2 ^ 30 := by
        have h1 : (keysK (((putL l).take i).map fun p => (entAt l p).log)).length ≤ (l.map (·.log)).length := List.Nodup.length_le_of_subset (hup.imp fun h => by omega) fun k hk => by
          obtain ⟨p, hp, rfl⟩ := List.mem_map.1 (keysK_mem.1 hk)
          exact List.mem_map.2 ⟨_, ent_at_may (hpin p (List.mem_of_mem_take hp)), rfl⟩
        rw [List.length_map] at h1
        omega
      generalize (putL l)[i] = p at x1 hp hks
      obtain ⟨r2, x2⟩ := ent_at hp
      generalize keysK (((putL l).take i).map fun p => (entAt l p).log) = K at f9 hks hup hkl
      generalize entAt l p = x at x2 hks
      have l4 : loadGo (some none) (some ((entE x ++ r2).drop 4)) = some (.int .i64 x.log) := rfl
      have c4 : (4 ≤ (entE x ++ r2).length) = True := eq_true (by rw [List.length_append, entE_len]; omega)
      have hadd := rAdd K x.log hup hkl h1'
      rcases f9 with ⟨hK, f9⟩ | f9
      · subst hK
        simp only [wpA_skip, wpA_region, wpA_seq, wpA_cond, wpA_block, condI_true, seqQ_normal, goI_out, goI_ops, opsA_nil, opsA_cons, stepA_move, stepA_load, stepA_binOp, stepA_fieldAddr, stepA_indexAddr, stepA_len, stepA_call, thenV_some, eval_tmp, put_some, aBin_lss, aField_eq, fieldGo_at, aLoad_eq, loadGo_one, aPlace_at, aLen_imm, Nat.reduceEqDiff, reduceCtorEq, List.map_cons, List.map_nil, if_true, if_false, ft_47_4, kt_39, lt_3, f0, f8, f9, f10, d1, x1, x2, l4, c4]
        refine callI_pure cal27 (Pure.args (CastL.cons (Cast.nil0 _) (CastL.refl _ _)) hadd) ?_
        simp only [wpA_region, seqQ_normal, blkQ_normal, endI_mk, andThen_normal, goI_out, goI_ops, opsA_nil, opsA_cons, stepA_move, stepA_assign, stepA_binOp, thenV_some, eval_tmp, eval_const, put_some, aBin_add, absV_int, Nat.reduceEqDiff, if_true, if_false, f10, wi]
        exact hid_mk ⟨i + 1, ⟨f0, f2, f3, f8, .inr (by rw [hks]; rfl), rfl, hil, rfl⟩, by omega⟩
      · simp only [wpA_skip, wpA_region, wpA_seq, wpA_cond, wpA_block, condI_true, seqQ_normal, goI_out, goI_ops, opsA_nil, opsA_cons, stepA_move, stepA_load, stepA_binOp, stepA_fieldAddr, stepA_indexAddr, stepA_len, stepA_call, thenV_some, eval_tmp, put_some, aBin_lss, aField_eq, fieldGo_at, aLoad_eq, loadGo_one, aPlace_at, aLen_imm, Nat.reduceEqDiff, reduceCtorEq, List.map_cons, List.map_nil, if_true, if_false, ft_47_4, kt_39, lt_3, f0, f8, f9, f10, d1, x1, x2, l4, c4]
        refine callI_pure cal27 hadd ?_
        simp only [wpA_region, seqQ_normal, blkQ_normal, endI_mk, andThen_normal, goI_out, goI_ops, opsA_nil, opsA_cons, stepA_move, stepA_assign, stepA_binOp, thenV_some, eval_tmp, eval_const, put_some, aBin_add, absV_int, Nat.reduceEqDiff, if_true, if_false, f10, wi]
        exact hid_mk ⟨i + 1, ⟨f0, f2, f3, f8, .inr (by rw [hks]; rfl), rfl, hil, rfl⟩, by omega⟩
    · obtain rfl : i = (putL l).length := by omega
      have d1 : decide ((((putL l).length : Nat) : Int) < (((putL l).length : Nat) : Int)) = false := decide_eq_false (by omega)
      rw [List.take_length] at f9
      have hKS : keysK ((putL l).map fun p => (entAt l p).log) = logKeys l := rfl
      rw [hKS] at f9
      have hup : (logKeys l).Pairwise (· < ·) := keysK_up _
      have hkl : (logKeys l).length ≤ 200 := by
        have h1 : (logKeys l).length ≤ (l.map (·.log)).length := List.Nodup.length_le_of_subset (hup.imp fun h => by omega) fun k hk => by
          obtain ⟨p, hp, rfl⟩ := List.mem_map.1 (keysK_mem.1 hk)
          exact List.mem_map.2 ⟨_, ent_at_may (hpin p hp), rfl⟩
        rw [List.length_map] at h1
        omega
      have hrl : (refLogs l).length = (logKeys l).length := by unfold refLogs; rw [List.length_map]
      obtain ⟨v9, f9', len9, ix9⟩ : ∃ v9, f 9 = v9 ∧ (∀ h', aLen Tryd.prog 39 v9 h' = some (.int .i64 ((logKeys l).length : Nat))) ∧ ∀ i (hi : i < (logKeys l).length), ∃ r, aIndexAddr Tryd.prog 39 v9 (.int .i64 (i : Int)) = some (.at (.int .i64 (logKeys l)[i] :: r)) := by
        rcases f9 with ⟨hK, f9⟩ | f9
        · exact ⟨_, f9, fun h' => by rw [hK]; exact aLen_snil kt_39, fun i hi => by rw [hK] at hi; exact absurd hi (by simp)⟩
        · exact ⟨_, f9, fun h' => aLen_imm kt_39, fun i hi => int_ix hi⟩
      clear f9
      simp only [wpA_region, wpA_seq, wpA_cond, wpA_block, wpA_exit, wpA_loop, condI_false, seqQ_normal, seqQ_exit, blkQ_exit, endI_mk, goE, andThen_exit, goI_out, goI_ops, opsA_nil, opsA_cons, stepA_move, stepA_assign, stepA_binOp, stepA_len, thenV_some, eval_tmp, eval_const, put_some, aBin_lss, absV_int, aLen_imm, Nat.reduceEqDiff, if_true, if_false, kt_39, f8, f10, d1]
      refine SWp.loopG (α := Nat × V) (fun y f h' => ∃ h2, Cast .top h' .top h2 ∧ f 0 = .imm l.length (l.flatMap entE) ∧ f 2 = .ptr h.n 0 ∧ f 3 = .ptr (h.n + 1) 0 ∧ f 8 = .imm (putL l).length (i64V (putL l)) ∧ f 9 = v9 ∧ f 11 = .int .i64 (y.1 : Nat) ∧ y.1 ≤ (logKeys l).length ∧
          Keep h h2 none_ ∧ h.n + 1 < h2.n ∧ h2.get h.n = .cells [.snil, .snil, .int .i64 0] 29 none ∧ h2.get (h.n + 1) = .cells [y.2, tv, .int .i64 (l.length : Nat)] 29 none ∧ Own h2 41 6 tv ((refTasks l).flatMap tvC) ∧ Own h2 36 3 y.2 (((refLogs l).take y.1).flatMap logC) ∧ (∀ q, idOf y.2 = some q → h.n + 2 ≤ q ∧ idOf tv ≠ some q)) (fun y => (logKeys l).length - y.1) (0, .snil)
        ⟨h1', Cast.refl _ _, f0, f2, f3, f8, f9', rfl, Nat.zero_le _, k1, n1, g0, g1, ot, Own.snil _ _ _, fun q hq => by simp [idOf] at hq⟩ ?_
      clear f0 f2 f3 f8 f9' f10 d1 k1 n1 g0 g1 ot
      rintro ⟨i, lv⟩ f h' ⟨h2, hcast, f0, f2, f3, f8, f9, f11, hi, k1, n1, g0, g1, ot, ol, idl⟩
      simp only at f11 hi g1 ol idl
      refine SWp.cast (CastF.of_top hcast) ?_
      clear hcast
      refine wpI_sound (by kernel_rfl) ?_
      by_cases hil : i < (logKeys l).length
      · have d1 : decide ((i : Int) < (((logKeys l).length : Nat) : Int)) = true := decide_eq_true (by omega)
        have wi : IntKind.i64.wrap ((i : Int) + 1) = ((i + 1 : Nat) : Int) := by rw [Go.IntWalk.i64_in _ (by omega)]; omega
        obtain ⟨r, x1⟩ := ix9 i hil
        have htk : (refLogs l).take (i + 1) = (refLogs l).take i ++ [((logKeys l)[i], recsP l (putL l) (logKeys l)[i])] := by
          rw [List.take_succ_eq_append_getElem (by omega)]
          unfold refLogs
          simp
        generalize (logKeys l)[i] = key at x1 htk
        obtain ⟨H, hH⟩ : ∃ y, y = h2.push (.cells [.int .i64 key, .snil, .snil] 36 none) := ⟨_, rfl⟩
        have kH : Keep h2 H none_ := by rw [hH]; exact Keep.push _ _ _
        have nH : H.n = h2.n + 1 := by rw [hH]; rfl
        have gV : H.get h2.n = .cells [.int .i64 key, .snil, .snil] 36 none := by rw [hH]; exact get_push_new
        have sV : setC (some 3) (AObj.cells [V.int .i64 0, .snil, .snil] 36 none) 0 [.int .i64 key, .snil, .snil] = some (.cells [.int .i64 key, .snil, .snil] 36 none) := rfl
        simp only [wpA_skip, wpA_region, wpA_seq, wpA_cond, wpA_block, wpA_loop, condI_true, seqQ_normal, goI_out, goI_ops, opsA_nil, opsA_cons, stepA_move, stepA_assign, stepA_alloc, stepA_build, stepA_load, stepA_store, stepA_binOp, stepA_indexAddr, stepA_len, thenV_some, thenH_some, thenS_some, eval_tmp, eval_const, put_some, aBin_lss, absV_int, cells_int, cells_agg, aLoad_eq, loadGo_one, aPlace_at, aStore_eq, storeGo_ptr, setAll_nil, setAll_cons, aAlloc_eq, aBuild_go, aFill_nil, aFill_cons, fillGo_some, buildGo_struct, get_push_new, set_push, List.getElem?_cons_zero, Nat.reduceEqDiff, Nat.reduceAdd, Nat.reduceLeDiff, List.map_cons, List.map_nil, Option.map_some, Nat.zero_add, List.length_cons, List.length_nil, List.set_cons_zero, and_self, if_true, if_false, lt_3, pl_36, zc_36, zt_36, f9, f11, len9, d1, x1, sV]
        rw [← hH]
        refine SWp.loopG (α := Nat × Ow) (fun y f h' => f 0 = .imm l.length (l.flatMap entE) ∧ f 2 = .ptr h.n 0 ∧ f 3 = .ptr (h.n + 1) 0 ∧ f 8 = .imm (putL l).length (i64V (putL l)) ∧ f 9 = v9 ∧ f 11 = .int .i64 (i : Nat) ∧ f 12 = .ptr h2.n 0 ∧ f 13 = .int .i64 (y.1 : Nat) ∧ y.1 ≤ (putL l).length ∧
            LogAt h' y.2 h2.n key (recsP l ((putL l).take y.1) key) ∧ (∀ q tg, y.2 q = some tg → h2.n ≤ q ∧ q < h'.n) ∧ Keep h2 h' none_) (fun y => (putL l).length - y.1) (0, fun q => if q = h2.n then some (0, key, 0) else none)
          ⟨f0, f2, f3, f8, f9, f11, rfl, rfl, Nat.zero_le _, ⟨.snil, .snil, gV, Own.snil _ _ _, Own.snil _ _ _, by simp, fun j hj => by simp [idOf] at hj, fun j hj => by simp [idOf] at hj⟩, fun q tg hq => (by
            simp only at hq
            split at hq
            · rename_i e; subst e; omega
            · cases hq), kH⟩ ?_
        clear f0 f2 f3 f8 f9 f11
        rintro ⟨j, ow⟩ f h3 ⟨f0, f2, f3, f8, f9, f11, f12, f13, hj, la, hold, k3⟩
        simp only at f13 hj la hold
        refine wpI_sound (by kernel_rfl) ?_
        have n3 := k3.n
        obtain ⟨rv, dv, gB, o1, o2, t0, t1, t2⟩ := la
        by_cases hjl : j < (putL l).length
        · have e1 : decide ((j : Int) < (((putL l).length : Nat) : Int)) = true := decide_eq_true (by omega)
          have wj : IntKind.i64.wrap ((j : Int) + 1) = ((j + 1 : Nat) : Int) := by rw [Go.IntWalk.i64_in _ (by omega)]; omega
          obtain ⟨r3, y1⟩ := int_ix (l := putL l) (kk := .i64) hjl
          have hp := hpin _ (List.getElem_mem hjl)
          have hrs : recsP l ((putL l).take (j + 1)) key = recsP l ((putL l).take j) key ++ (if (entAt l (putL l)[j]).log = key then [((entAt l (putL l)[j]).r, (entAt l (putL l)[j]).del)] else []) := by
            rw [List.take_succ_eq_append_getElem hjl]
            unfold recsP
            rw [List.filter_append, List.map_append]
            congr 1
            by_cases hh : (entAt l (putL l)[j]).log = key
            · rw [if_pos hh, List.filter_cons_of_pos (by simpa using hh)]; rfl
            · rw [if_neg hh, List.filter_cons_of_neg (by simpa using hh)]; rfl
          have hrl2 : (recsP l ((putL l).take j) key).length ≤ 2 ^ 40 := by
            unfold recsP
            rw [List.length_map]
            have := List.length_filter_le (fun p => (entAt l p).log == key) ((putL l).take j)
            rw [List.length_take] at this
            omega
          generalize (putL l)[j] = p at y1 hp hrs
          obtain ⟨r2, x2⟩ := ent_at hp
          generalize entAt l p = x at x2 hrs
          generalize recsP l ((putL l).take j) key = rs at o1 o2 hrs hrl2
          have l4 : loadGo (some none) (some ((entE x ++ r2).drop 4)) = some (.int .i64 x.log) := rfl
          have l5 : loadGo (some (some 3)) (some ((entE x ++ r2).drop 5)) = some (.agg [.int .i64 x.r.k, .int .i64 x.r.v, .int .i64 x.r.t]) := rfl
          have l8 : loadGo (some none) (some ((entE x ++ r2).drop 8)) = some (.bool x.del) := rfl
          have c4 : (4 ≤ (entE x ++ r2).length) = True := eq_true (by rw [List.length_append, entE_len]; omega)
          have c5 : (5 ≤ (entE x ++ r2).length) = True := eq_true (by rw [List.length_append, entE_len]; omega)
          have c8 : (8 ≤ (entE x ++ r2).length) = True := eq_true (by rw [List.length_append, entE_len]; omega)
          by_cases hxk : x.log = key
          rotate_left
          · have e2 : (x.log == key) = false := by simpa using hxk
            rw [if_neg hxk, List.append_nil] at hrs
            simp only [wpA_skip, wpA_region, wpA_seq, wpA_cond, wpA_block, wpA_draw, condI_true, seqQ_normal, goI_out, goI_ops, opsA_nil, opsA_cons, stepA_move, stepA_binOp, stepA_len, thenV_some, eval_tmp, put_some, aBin_lss, aLen_imm, Nat.reduceEqDiff, if_true, if_false, kt_39, f8, f13, e1]
            refine SWp.drawnS none_ [] (.q 0 (.q 1 (.q 2 (.q 3 (.q 4 (.q 5 (.q 6 (.q 7 (.q 8 (.q 9 (.q 10 (.q 11 (.q 12 .done))))))))))))) (by kernel_rfl) (by kernel_rfl) (by kernel_rfl) ?_
            simp only [siI_done, siI_q, sqI_some, mOk_none', implies_true, qI_nil, qI_cons, thenQ_some, q_move, q_load, q_binOp, q_fieldAddr, q_indexAddr, wpA_skip, wpA_region, wpA_cond, condI_false, seqQ_normal, blkQ_normal, endI_mk, andThen_normal, goI_out, goI_ops, goI_mk, opsA_nil, opsA_cons, stepA_move, stepA_assign, stepA_binOp, thenV_some, eval_tmp, eval_const, put_some, aBin_add, aBin_eql, absV_int, aField_eq, fieldGo_at, aLoad_eq, loadGo_one, aPlace_at, List.getElem?_cons_zero, List.getElem?_cons_succ, Nat.reduceEqDiff, reduceCtorEq, true_and, if_true, if_false, ft_47_4, lt_3, f0, f8, f9, f11, f13, y1, x2, l4, c4, x1, e2, wj]
            exact hid_mk ⟨(j + 1, ow), ⟨f0, f2, f3, f8, f9, f11, f12, rfl, hjl, by simp only [hrs]; exact ⟨rv, dv, gB, o1, o2, t0, t1, t2⟩, hold, k3⟩, by simp only; omega⟩
          have e2 : (x.log == key) = true := by simpa using hxk
          rw [if_pos hxk] at hrs
          obtain ⟨rv', h4, dv', h5, ow', ea1, g4, one1, cell1, ea2, g5, one2, cell2, k4i, k5i, kk4, kk5, kk6, hinc, hold', la'⟩ := addTail (x.r, x.del) hrl2 gB o1 o2 t0 t1 t2 (fun q tg hq => (hold q tg hq).2)
          simp only at ea1 ea2
          have st1 : setC (some 1) (AObj.cells [V.int .i64 key, rv, dv] 36 none) 1 [rv'] = some (.cells [.int .i64 key, rv', dv] 36 none) := by rw [setC_one one1]; rfl
          have st2 : setC (some 1) (AObj.cells [V.int .i64 key, rv', dv] 36 none) 2 [dv'] = some (.cells [.int .i64 key, rv', dv'] 36 none) := by rw [setC_one one2]; rfl
          have lR := litR1 h3 x.r
          have lD := litD1 (h4.set h2.n (.cells [.int .i64 key, rv', dv] 36 none)) x.del
          have m1 : isId rv h2.n = False := eq_false fun hh => by have := t1 _ hh; rw [t0] at this; simp at this
          have m3 : isId dv h2.n = False := eq_false fun hh => by have := t2 _ hh; rw [t0] at this; simp at this
          have kp1 : Keep h3 (h3.push (.cells (rcdE x.r) 45 none)) (fun q => isId rv q) := Keep.push _ _ _
          have kp2 : Keep (h4.set h2.n (.cells [.int .i64 key, rv', dv] 36 none)) ((h4.set h2.n (.cells [.int .i64 key, rv', dv] 36 none)).push (.cells [.bool x.del] 4 none)) (fun q => isId dv q) := Keep.push _ _ _
          have exr : rcdE x.r = [.int .i64 x.r.k, .int .i64 x.r.v, .int .i64 x.r.t] := rfl
          have gR4 : (h4.set h2.n (.cells [.int .i64 key, rv', dv] 36 none)).get h2.n = .cells [.int .i64 key, rv', dv] 36 none := get_set_same
          simp only [wpA_skip, wpA_region, wpA_seq, wpA_cond, wpA_block, wpA_draw, condI_true, seqQ_normal, goI_out, goI_ops, opsA_nil, opsA_cons, stepA_move, stepA_binOp, stepA_len, thenV_some, eval_tmp, put_some, aBin_lss, aLen_imm, Nat.reduceEqDiff, if_true, if_false, kt_39, f8, f13, e1]
          refine SWp.drawnS none_ [] (.q 0 (.q 1 (.q 2 (.q 3 (.q 4 (.q 5 (.q 6 (.q 7 (.q 8 (.q 9 (.q 10 (.q 11 (.q 12 .done))))))))))))) (by kernel_rfl) (by kernel_rfl) (by kernel_rfl) ?_
          simp only [siI_done, siI_q, sqI_some, mOk_none', implies_true, qI_nil, qI_cons, thenQ_some, q_move, q_load, q_binOp, q_fieldAddr, q_indexAddr, wpA_seq, wpA_cond, wpA_draw, condI_true, seqQ_normal, goI_out, goI_mk, eval_tmp, put_some, aBin_eql, aField_eq, fieldGo_at, aLoad_eq, loadGo_one, aPlace_at, List.getElem?_cons_zero, List.getElem?_cons_succ, Nat.reduceEqDiff, reduceCtorEq, true_and, if_true, if_false, ft_47_4, lt_3, f0, f8, f9, f11, f13, y1, x2, l4, c4, x1, e2]
          refine SWp.drawnS (fun q => isId rv q) [10, 11, 13] (.q 0 (.q 1 (.q 2 (.q 3 (.q 4 (.q 5 (.q 6 (.q 7 (.q 8 (.q 9 (.e 10 (.a 11 (.q 12 (.a 13 .done))) .stop))))))))))) (by kernel_rfl) (by kernel_rfl) (by kernel_rfl) ?_
          simp only [mOk_move, mOk_fieldAddr, mOk_indexAddr, mOk_load, mOkV_ptr, mOkV_at, nne2, nne3, nne4, nne1', nne2', nne3', not_false_eq_true, siI_done, siI_stop, siI_q, siI_a, siI_e, sqI_some, saI_some, seI_some, implies_true, qI_nil, qI_cons, thenQ_some, q_move, q_load, q_fieldAddr, q_indexAddr, wpA_draw, seqQ_normal, goI_out, goI_ops, goI_mk, opsA_nil, opsA_cons, stepA_buildSlice, stepA_store, stepA_append, thenH_some, thenS_some, eval_tmp, put_some, aField_eq, fieldGo_ptr, fieldGo_at, aLoad_eq, loadGo_one, aPlace_ptr, aPlace_at, dropC_cells, aStore_eq, storeGo_ptr, List.getElem?_cons_zero, List.getElem?_cons_succ, Bool.false_eq_true, Nat.reduceEqDiff, Nat.reduceAdd, Nat.reduceLeDiff, reduceCtorEq, List.map_cons, List.map_nil, Option.map_some, Nat.zero_add, List.length_cons, List.length_nil, List.drop_zero, List.drop_succ_cons, and_true, true_and, if_true, if_false, ft_36_1, ft_47_5, lt_3, lt_33, lt_45, zt_33, f0, f8, f12, f13, gB, y1, x2, l5, c5, lR, ea1, g4, st1, cell1, m1, kp1]
          refine SWp.drawnS (fun q => isId dv q) [10, 11, 13] (.q 0 (.q 1 (.q 2 (.q 3 (.q 4 (.q 5 (.q 6 (.q 7 (.q 8 (.q 9 (.e 10 (.a 11 (.q 12 (.a 13 .done))) .stop))))))))))) (by kernel_rfl) (by kernel_rfl) (by kernel_rfl) ?_
          simp only [mOk_move, mOk_fieldAddr, mOk_indexAddr, mOk_load, mOkV_ptr, mOkV_at, nne2, nne3, nne4, nne1', nne2', nne3', not_false_eq_true, siI_done, siI_stop, siI_q, siI_a, siI_e, sqI_some, saI_some, seI_some, implies_true, qI_nil, qI_cons, thenQ_some, q_move, q_load, q_fieldAddr, q_indexAddr, wpA_region, seqQ_normal, blkQ_normal, endI_mk, andThen_normal, goI_out, goI_ops, goI_mk, opsA_nil, opsA_cons, stepA_move, stepA_assign, stepA_buildSlice, stepA_store, stepA_binOp, stepA_append, thenV_some, thenH_some, thenS_some, eval_tmp, eval_const, put_some, put_none, aBin_add, absV_int, aField_eq, fieldGo_ptr, fieldGo_at, aLoad_eq, loadGo_one, aPlace_ptr, aPlace_at, dropC_cells, aStore_eq, storeGo_ptr, set_n, get_set_same, List.getElem?_cons_zero, List.getElem?_cons_succ, Bool.false_eq_true, Nat.reduceEqDiff, Nat.reduceAdd, Nat.reduceLeDiff, reduceCtorEq, List.map_cons, List.map_nil, Option.map_some, Nat.zero_add, List.length_cons, List.length_nil, List.drop_zero, List.drop_succ_cons, and_true, true_and, if_true, if_false, ft_36_2, ft_47_6, lt_3, lt_34, lt_4, zt_34, f0, f8, f12, f13, y1, x2, l8, c8, lD, ea2, g5, st2, cell2, m3, kp2, wj]
          have low : ∀ q, q < h2.n → ¬ ∃ i, ow q = some (0, key, i) := fun q hq ⟨i, hh⟩ => by have := (hold _ _ hh).1; omega
          exact hid_mk ⟨(j + 1, ow'), ⟨f0, f2, f3, f8, f9, f11, f12, rfl, hjl, by simp only [hrs]; exact la', fun q tg hq => by
            rw [set_n]
            have n5 := kk5.n
            rcases hold' q tg hq with hh | hh
            · have := hold q tg hh; omega
            · omega, k3.trans kk6 fun q hq hh => absurd hh (low q hq)⟩, by simp only; omega⟩
        · obtain rfl : j = (putL l).length := by omega
          have e1 : decide ((((putL l).length : Nat) : Int) < (((putL l).length : Nat) : Int)) = false := decide_eq_false (by omega)
          rw [List.take_length] at o1 o2
          generalize hrs : recsP l (putL l) key = rs at o1 o2 htk
          have hrslen : rs.length ≤ 2 ^ 40 := by
            rw [← hrs]
            unfold recsP
            rw [List.length_map]
            have := List.length_filter_le (fun p => (entAt l p).log == key) (putL l)
            omega
          have oner : rv.one = true := by rcases o1 with ⟨rfl | rfl, _⟩ | ⟨_, _, _, _, _, rfl, _⟩ <;> rfl
          have oned : dv.one = true := by rcases o2 with ⟨rfl | rfl, _⟩ | ⟨_, _, _, _, _, rfl, _⟩ <;> rfl
          have g13 := (k3.get (h.n + 1) n1 (by simp [none_])).trans g1
          have g03 := (k3.get h.n (by omega) (by simp [none_])).trans g0
          have ot3 := ot.keepN k3
          have ol3 := ol.keepN k3
          have lit : aBuildSlice Tryd.prog 26 1 [(0, .agg [.int .i64 key, rv, dv])] h3 = some (.sl h3.n 0 1 1, h3.push (.cells [.int .i64 key, rv, dv] 36 none)) := by
            rw [buildSlice_go sl_26]
            rcases o1 with ⟨rfl | rfl, _⟩ | ⟨_, _, _, _, _, rfl, _⟩ <;> rcases o2 with ⟨rfl | rfl, _⟩ | ⟨_, _, _, _, _, rfl, _⟩ <;> rfl
          obtain ⟨lv', h4, ea, o4, k4, d4⟩ := append_elemM (P := Tryd.prog) (t := 26) sl_26 (by decide) ol3 (xs := [.int .i64 key, rv, dv]) rfl (by simp only [List.all_cons, List.all_nil, oner, oned]; rfl) (fun m hm => by
            change m * 3 = _ + 3 at hm
            rw [rows_len logC_len, List.length_take] at hm
            exact ⟨by simp only [lim]; omega, by simp only [lim]; omega⟩)
          have n4 := k4.n
          have nl1 : ¬ isId lv (h.n + 1) := fun hh => by have := (idl _ hh).1; omega
          have nl0 : ¬ isId lv h.n := fun hh => by have := (idl _ hh).1; omega
          have g14 := (k4.get (h.n + 1) (by omega) nl1).trans g13
          have g04 := (k4.get h.n (by omega) nl0).trans g03
          have one4 : lv'.one = true := by rcases o4 with ⟨rfl | rfl, _⟩ | ⟨_, _, _, _, _, rfl, _⟩ <;> rfl
          have cell4 : lv'.cells = some [lv'] := by rcases o4 with ⟨rfl | rfl, _⟩ | ⟨_, _, _, _, _, rfl, _⟩ <;> rfl
          have st4 : setC (some 1) (AObj.cells [lv, tv, .int .i64 (l.length : Nat)] 29 none) 0 [lv'] = some (.cells [lv', tv, .int .i64 (l.length : Nat)] 29 none) := by rw [setC_one one4]; rfl
          have lvid : ∀ q, idOf lv' = some q → (idOf lv = some q ∨ h3.n ≤ q) := fun q hq => by
            rcases d4 with d | d
            · exact .inl (d ▸ hq)
            · exact .inr (d q hq)
          have lvlt : ∀ q, idOf lv = some q → q < h2.n := fun q hq => ol.lt q hq
          have rvid : ∀ q, idOf rv = some q → h2.n < q ∧ q < h3.n := fun q hq => by
            have h1 := t1 q hq
            have hq2 := hold _ _ h1
            refine ⟨?_, hq2.2⟩
            by_cases e : q = h2.n
            · rw [e, t0] at h1; simp at h1
            · omega
          have dvid : ∀ q, idOf dv = some q → h2.n < q ∧ q < h3.n := fun q hq => by
            have h1 := t2 q hq
            have hq2 := hold _ _ h1
            refine ⟨?_, hq2.2⟩
            by_cases e : q = h2.n
            · rw [e, t0] at h1; simp at h1
            · omega
          have rdne : ∀ q, idOf rv = some q → idOf dv ≠ some q := fun q h1 h2 => by have a := t1 q h1; have b := t2 q h2; rw [a] at b; simp at b
          obtain ⟨F, hF⟩ : ∃ y, y = h4.set (h.n + 1) (.cells [lv', tv, .int .i64 (l.length : Nat)] 29 none) := ⟨_, rfl⟩
          have kF : Keep h4 F (· = h.n + 1) := by rw [hF]; exact Keep.set _ _ _
          have gF : F.get (h.n + 1) = .cells [lv', tv, .int .i64 (l.length : Nat)] 29 none := by rw [hF]; exact get_set_same
          have nF : F.n = h4.n := by rw [hF]; rfl
          have lvne : ∀ q, h2.n ≤ q → q < h3.n → ¬ isId lv' q := fun q h1 h2 hh => by
            rcases lvid q hh with h3 | h3
            · have := lvlt q h3; omega
            · omega
          have r4 : Own F 45 3 rv (recL rs) := (o1.keep k4 fun q hq hh => by have := lvlt q hh; have := rvid q hq; omega).keep kF fun q hq hh => by have := rvid q hq; omega
          have dd4 : Own F 4 1 dv (delL rs) := (o2.keep k4 fun q hq hh => by have := lvlt q hh; have := dvid q hq; omega).keep kF fun q hq hh => by have := dvid q hq; omega
          have oF : Own F 36 3 lv' (((refLogs l).take i).flatMap logC ++ [.int .i64 key, rv, dv]) := o4.keep kF fun q hq hh => by
            rcases lvid q hq with h3 | h3
            · have := (idl q h3).1; omega
            · omega
          obtain ⟨F1, c1, z1⟩ := Cast.own (cs := recL rs) r4 (n := rs.length) (recL_len rs) (by decide)
          have dd5 := dd4.keep z1 fun q hq hh => rdne q hh hq
          obtain ⟨F2, c2, z2⟩ := Cast.own (cs := delL rs) dd5 (n := rs.length) (delL_len rs) (by decide)
          have kz : Keep F F2 (fun q => isId rv q ∨ isId dv q) := (z1.mono fun q hq => .inl hq).trans z2 fun q hq hh => .inr hh
          obtain ⟨F3, c3, o5, z3⟩ := castTail (xs2 := logC (key, rs)) oF (fun r => CastL.cons (Cast.refl _ _) (CastL.cons c1 (CastL.cons c2 (CastL.refl r F2)))) rfl (by simp) kz (fun q hq hh => by
            rcases hh with hh | hh
            · have := rvid q hh; exact lvne q (by omega) (by omega) hq
            · have := dvid q hh; exact lvne q (by omega) (by omega) hq)
          have kAll : Keep F F3 (fun q => h2.n < q ∨ isId lv' q) := (kz.mono fun q hq => by
            rcases hq with hq | hq
            · exact .inl (rvid q hq).1
            · exact .inl (dvid q hq).1).trans z3 fun q hq hh => .inr hh
          have idl' : ∀ q, idOf lv' = some q → h.n + 2 ≤ q ∧ idOf tv ≠ some q := fun q hq => by
            rcases lvid q hq with h3 | h3
            · exact idl q h3
            · exact ⟨by omega, fun hh => by have := ot.lt q hh; omega⟩
          have nF2 := kz.n
          have nF3 := z3.n
          have stay : ∀ q, q ≤ h.n + 1 → ¬ (h2.n < q ∨ isId lv' q) := fun q hq hh => by
            rcases hh with hh | hh
            · omega
            · have := (idl' q hh).1; omega
          simp only [wpA_region, wpA_seq, wpA_cond, wpA_exit, condI_false, seqQ_normal, seqQ_exit, blkQ_normal, blkQ_exit, endI_mk, goE, andThen_normal, andThen_exit, goI_out, goI_ops, opsA_nil, opsA_cons, stepA_move, stepA_assign, stepA_buildSlice, stepA_load, stepA_store, stepA_binOp, stepA_fieldAddr, stepA_len, stepA_append, thenV_some, thenH_some, thenS_some, eval_tmp, eval_const, put_some, put_none, aBin_add, aBin_lss, absV_int, cells_agg, aField_eq, fieldGo_ptr, aLoad_eq, loadGo_one, loadGo_row, aPlace_ptr, dropC_cells, aStore_eq, storeGo_ptr, aLen_imm, Nat.reduceEqDiff, Nat.reduceAdd, List.map_cons, List.map_nil, Option.map_some, Nat.add_zero, Nat.zero_add, Nat.zero_le, List.length_cons, List.length_nil, List.drop_zero, List.take_succ_cons, List.take_nil, if_true, if_false, Nat.le_refl, ft_29_0, kt_39, lt_26, lt_29, lt_36, zt_26, zt_29, f2, f3, f8, f11, f12, f13, e1, g13, gB, lit, ea, g14, st4, cell4, wi]
          rw [← hF]
          refine hid_mk ⟨(i + 1, lv'), ⟨F3, c3, f0, f2, f3, f8, f9, rfl, hil, ?_, by omega, ?_, ?_, ?_, ?_, idl'⟩, by simp only; omega⟩
          · exact ((((k1.trans' k3).trans k4 fun q hq hh => by have := (idl q hh).1; omega).trans kF fun q hq hh => by omega).trans kAll fun q hq hh => absurd hh (stay q (by omega)))
          · exact (kAll.get h.n (by omega) (stay _ (by omega))).trans ((kF.get h.n (by omega) (by omega)).trans g04)
          · exact (kAll.get (h.n + 1) (by omega) (stay _ (by omega))).trans gF
          · refine ((ot3.keep k4 fun q hq hh => (idl q hh).2 hq).keep kF fun q hq hh => by have := idt q hq; omega).keep kAll fun q hq hh => ?_
            rcases hh with hh | hh
            · have := ot.lt q hq; omega
            · exact (idl' q hh).2 hq
          · rw [htk, List.flatMap_append]
            simpa using o5
      · obtain rfl : i = (logKeys l).length := by omega
        have d1 : decide ((((logKeys l).length : Nat) : Int) < (((logKeys l).length : Nat) : Int)) = false := decide_eq_false (by omega)
        rw [List.take_of_length_le (by omega)] at ol
        have onel : lv.one = true ∧ lv.cells = some [lv] := by rcases ol with ⟨rfl | rfl, _⟩ | ⟨_, _, _, _, _, rfl, _⟩ <;> exact ⟨rfl, rfl⟩
        have onet : tv.one = true ∧ tv.cells = some [tv] := by rcases ot with ⟨rfl | rfl, _⟩ | ⟨_, _, _, _, _, rfl, _⟩ <;> exact ⟨rfl, rfl⟩
        have cR : (V.agg [lv, tv, .int .i64 (l.length : Nat)]).cells = some [lv, tv, .int .i64 (l.length : Nat)] := rfl
        have sR : setC (some 3) (AObj.cells [V.snil, .snil, .int .i64 0] 29 none) 0 [lv, tv, .int .i64 (l.length : Nat)] = some (.cells [lv, tv, .int .i64 (l.length : Nat)] 29 none) := by
          simp only [setC, List.length_cons, List.length_nil, List.all_cons, List.all_nil, onel.1, onet.1]
          rfl
        simp only [wpA_region, wpA_seq, wpA_cond, wpA_exit, wpA_ret, condI_false, seqQ_normal, seqQ_exit, blkQ_exit, endI_mk, goE, andThen_exit, goI_out, goI_ops, opsA_nil, opsA_cons, stepA_move, stepA_load, stepA_store, stepA_binOp, stepA_len, thenV_some, thenS_some, eval_tmp, put_some, put_none, aBin_lss, aLoad_eq, loadGo_row, aPlace_ptr, dropC_cells, aStore_eq, storeGo_ptr, get_set_same, Nat.reduceEqDiff, Nat.reduceAdd, Option.map_some, Nat.zero_add, Nat.zero_le, List.length_cons, List.length_nil, List.drop_zero, List.take_succ_cons, List.take_nil, if_true, if_false, Nat.le_refl, lt_29, zt_29, f2, f3, f9, f11, len9, d1, g1, g0, cR, sR, retA_ret, Tryd.results13, resultsC_1, resultA_cell]
        obtain ⟨F, hF⟩ : ∃ y, y = h2.set h.n (.cells [lv, tv, .int .i64 (l.length : Nat)] 29 none) := ⟨_, rfl⟩
        have kF : Keep h2 F (· = h.n) := by rw [hF]; exact Keep.set _ _ _
        rw [← hF]
        clear hF
        have hlt1 : ∀ q, idOf tv = some q → h.n + 2 ≤ q := idt
        have ol' := ol.keep kF fun q hq hh => by have := (idl q hq).1; omega
        have ot' := ot.keep kF fun q hq hh => by have := hlt1 q hq; omega
        obtain ⟨F1, c1, z1⟩ := Cast.own (cs := (refLogs l).flatMap logC) ol' (n := (refLogs l).length) (rows_len logC_len _) (by decide)
        have ot1 := ot'.keep z1 fun q hq hh => (idl q hh).2 hq
        obtain ⟨F2, c2, z2⟩ := Cast.own (cs := (refTasks l).flatMap tvC) ot1 (n := (refTasks l).length) (rows_len tvC_len _) (by decide)
        exact hid_mk ⟨F2, aggC (CastL.cons c1 (CastL.cons c2 (CastL.refl _ _))), ((k1.trans kF fun q hq hh => by omega).trans z1 fun q hq hh => by have := (idl q hh).1; omega).trans z2 fun q hq hh => by have := hlt1 q hh; omega⟩
end Go.Proofs.YtcdpepdjeneelaaDoor.Pk
namespace Go.Proofs.YtcdpepdjeneelaaDoor.Pk
open Go Go.Proofs Go.Proofs.YtcdpepdjeneelaaDoor.Ab Go.Proofs.Vw
set_option linter.unusedVariables false
set_option linter.unusedSimpArgs false
/-! ### The reference and the program tell the same: one task -/
theorem entAt_old {l : List Ent} {x : Ent} {p : Int} (h : 0 ≤ p ∧ p < (l.length : Int)) : entAt (l ++ [x]) p = entAt l p := by
  unfold entAt
  rw [List.getElem?_append_left (by omega)]
theorem entAt_new (l : List Ent) (x : Ent) : entAt (l ++ [x]) (l.length : Int) = x := by
  unfold entAt
  rw [Int.toNat_natCast]
  simp
theorem jbOf_step (s : VM) (x : Ent) (i : Nat) (n : Int) : jbOf (stepE s x i) n = if isT x = true ∧ x.task = n then (if x.kind = 5 then fenJ (jbOf s n) x.epoch else stepB (jbOf s n) x i) else jbOf s n := by
  unfold stepE
  by_cases hm : mayB x = false
  · rw [if_pos hm, if_neg (fun hh => by unfold isT at hh; rw [hm] at hh; simp at hh)]
  rw [if_neg hm]
  have hm' : mayB x = true := by simpa using hm
  have hk := ((may_iff x).1 hm').1
  by_cases h1 : x.kind = 1
  · rw [if_pos h1, if_neg (fun hh => by have := hh.1; unfold isT at this; rw [h1] at this; simp at this)]
    rfl
  rw [if_neg h1]
  by_cases h5 : x.kind = 5
  · rw [if_pos h5]
    have hT : isT x = true := by unfold isT; rw [hm', h5]; rfl
    by_cases hn : x.task = n
    · subst hn
      rw [if_pos ⟨hT, rfl⟩, if_pos h5]
      unfold jbOf
      simp
    · rw [if_neg (fun hh => hn hh.2)]
      unfold jbOf
      simp [Ne.symm hn]
  rw [if_neg h5]
  by_cases h6 : x.kind = 6
  · rw [if_pos h6, if_neg (fun hh => by have := hh.1; unfold isT at this; rw [h6] at this; simp at this)]
  rw [if_neg h6]
  have hT : isT x = true := by unfold isT; rw [hm', decide_eq_true (by omega : 2 ≤ x.kind), decide_eq_true (by omega : x.kind ≤ 5)]; rfl
  by_cases hn : x.task = n
  · subst hn
    rw [if_pos ⟨hT, rfl⟩, if_neg h5]
    unfold jbOf
    simp
  · rw [if_neg (fun hh => hn hh.2)]
    unfold jbOf
    simp [Ne.symm hn]
structure RelO (l : List Ent) (o : OneJ) (j : Jb) : Prop where
  ep : o.ep = j.ep
  tx : o.tx = j.tx
  offs : o.offs = j.offs
  ord : o.ord = j.ord
  opn : o.opn = j.opn.map fun p => (p.2 : Int)
  at_ : ∀ p ∈ j.opn, p.2 < l.length ∧ entAt l (p.2 : Int) = p.1
theorem relO (l : List Ent) (n : Int) : RelO l (ofL l n) (jbOf (readV l) n) := by
  refine snoc_ind (p := fun l => RelO l (ofL l n) (jbOf (readV l) n)) ⟨rfl, rfl, rfl, rfl, rfl, fun p hp => by cases hp⟩ (fun l x b => ?_) l
  rw [ofL_snoc, readV_snoc, jbOf_step]
  generalize ofL l n = o at b
  generalize jbOf (readV l) n = j at b
  obtain ⟨b1, b2, b3, b4, b5, b6⟩ := b
  have b6' : ∀ p ∈ j.opn, p.2 < (l ++ [x]).length ∧ entAt (l ++ [x]) (p.2 : Int) = p.1 := fun p hp => by
    obtain ⟨h1, h2⟩ := b6 p hp
    exact ⟨by rw [List.length_append]; omega, by rw [entAt_old (by omega)]; exact h2⟩
  unfold stepO
  by_cases hT : isT x = true ∧ x.task = n
  rotate_left
  · rw [if_pos hT, if_neg hT]
    exact ⟨b1, b2, b3, b4, b5, b6'⟩
  rw [if_neg (fun hh => hh hT), if_pos hT]
  by_cases h5 : x.kind = 5
  · rw [if_pos h5, if_pos h5]
    unfold fenJ
    rw [b1]
    split
    · exact ⟨rfl, b2, b3, b4, rfl, fun p hp => by cases hp⟩
    · exact ⟨b1, b2, b3, b4, b5, b6'⟩
  rw [if_neg h5, if_neg h5, b1, b2]
  unfold stepB
  split
  · exact ⟨b1, b2, b3, b4, b5, b6'⟩
  split
  · refine ⟨rfl, rfl, b3, b4, by simp [b5], fun p hp => ?_⟩
    rcases List.mem_append.1 hp with hp | hp
    · exact b6' p hp
    · rw [List.mem_singleton.1 hp]
      exact ⟨by simp, entAt_new l x⟩
  split
  · exact ⟨rfl, rfl, rfl, by simp [b4], rfl, fun p hp => by cases hp⟩
  · exact ⟨rfl, rfl, b3, b4, rfl, fun p hp => by cases hp⟩
theorem tasks_named (l : List Ent) (t : Int) : (t ∈ namesL l → (readV l).tasks t = some (jbOf (readV l) t)) ∧ (t ∉ namesL l → (readV l).tasks t = none) := by
  refine snoc_ind (p := fun l => (t ∈ namesL l → (readV l).tasks t = some (jbOf (readV l) t)) ∧ (t ∉ namesL l → (readV l).tasks t = none)) ⟨fun h => by simp [namesL] at h, fun _ => rfl⟩ (fun l x b => ?_) l
  have hs : (readV (l ++ [x])).tasks t = if isT x = true ∧ x.task = t then some (jbOf (readV (l ++ [x])) t) else (readV l).tasks t := by
    have hj := jbOf_step (readV l) x l.length t
    rw [readV_snoc]
    by_cases hT : isT x = true ∧ x.task = t
    · rw [if_pos hT]
      have hm : mayB x = true := by have := hT.1; unfold isT at this; simp only [Bool.and_eq_true] at this; exact this.1
      have hk : 2 ≤ x.kind ∧ x.kind ≤ 5 := by have := hT.1; unfold isT at this; simpa [hm] using this
      unfold jbOf stepE
      rw [if_neg (by rw [hm]; simp), if_neg (by omega)]
      by_cases h5 : x.kind = 5
      · rw [if_pos h5]; simp [hT.2]
      · rw [if_neg h5, if_neg (by omega)]; simp [hT.2]
    · rw [if_neg hT]
      unfold stepE
      split
      · rfl
      rename_i hm
      split
      · rfl
      rename_i h1
      have hm' : mayB x = true := by simpa using hm
      have hk := ((may_iff x).1 hm').1
      split
      · rename_i h5
        simp only
        rw [if_neg (fun hh => hT ⟨by unfold isT; rw [hm', h5]; rfl, hh.symm⟩)]
      rename_i h5
      split
      · rfl
      rename_i h6
      simp only
      rw [if_neg (fun hh => hT ⟨by unfold isT; rw [hm', decide_eq_true (by omega : 2 ≤ x.kind), decide_eq_true (by omega : x.kind ≤ 5)]; rfl, hh.symm⟩)]
  have hmem : t ∈ namesL (l ++ [x]) ↔ (isT x = true ∧ x.task = t) ∨ t ∈ namesL l := by
    rw [namesL_mem, namesL_mem]
    constructor
    · rintro ⟨y, hy, h⟩
      rcases List.mem_append.1 hy with hy | hy
      · exact .inr ⟨y, hy, h⟩
      · rw [List.mem_singleton.1 hy] at h; exact .inl h
    · rintro (h | ⟨y, hy, h⟩)
      · exact ⟨x, by simp, h⟩
      · exact ⟨y, by simp [hy], h⟩
  refine ⟨fun h => ?_, fun h => ?_⟩
  · rw [hs]
    by_cases hT : isT x = true ∧ x.task = t
    · rw [if_pos hT]
    · rw [if_neg hT]
      have h2 := (hmem.1 h).resolve_left hT
      rw [b.1 h2, readV_snoc, jbOf_step, if_neg hT]
  · rw [hs, if_neg (fun hh => h (hmem.2 (.inl hh)))]
    exact b.2 fun hh => h (hmem.2 (.inr hh))
theorem refTasks_eq (l : List Ent) : refTasks l = tasksOf l := by
  refine up_unique (key := fun x : TV => x.t) (fun x => ?_) ?_ (isTold l).tu
  · rw [(isTold l).tm]
    unfold refTasks
    rw [List.mem_map]
    have hv : ∀ n, tvR n (ofL l n) = tvOf n (jbOf (readV l) n) := fun n => by
      obtain ⟨b1, b2, b3, b4, b5, _⟩ := relO l n
      unfold tvR tvOf
      rw [b1, b2, b3, b4, b5, List.length_map]
    constructor
    · rintro ⟨n, hn, rfl⟩
      exact ⟨_, (tasks_named l n).1 hn, hv n⟩
    · rintro ⟨j, h1, h2⟩
      by_cases hn : x.t ∈ namesL l
      · refine ⟨x.t, hn, ?_⟩
        rw [hv]
        have := (tasks_named l x.t).1 hn
        rw [h1] at this
        injection this with this
        rw [← this]
        exact h2.symm
      · rw [(tasks_named l x.t).2 hn] at h1; cases h1
  · unfold refTasks
    refine List.pairwise_map.2 ?_
    exact namesL_up l
end Go.Proofs.YtcdpepdjeneelaaDoor.Pk
namespace Go.Proofs.YtcdpepdjeneelaaDoor.Pk
open Go Go.Proofs Go.Proofs.YtcdpepdjeneelaaDoor.Ab Go.Proofs.Vw
set_option linter.unusedVariables false
set_option linter.unusedSimpArgs false
/-! ### The reference and the program tell the same: the logs -/
theorem at_in (l : List Ent) (n : Int) : ∀ a ∈ (ofL l n).at_, a < (l.length : Int) := by
  refine snoc_ind (p := fun l => ∀ a ∈ (ofL l n).at_, a < (l.length : Int)) ?_ (fun l x b => ?_) l
  · show ∀ a ∈ one0.at_, _
    simp [one0]
  rw [ofL_snoc, List.length_append]
  generalize ofL l n = o at b
  have c : ∀ p ∈ o.at_, p < ((l.length + [x].length : Nat) : Int) := fun p hp => by have := b p hp; simp only [List.length_singleton]; omega
  unfold stepO
  split
  · exact c
  split
  · split <;> exact c
  split
  · exact c
  split
  · exact c
  split
  · intro a ha
    rcases List.mem_append.1 ha with ha | ha
    · exact c a ha
    · rw [List.mem_replicate] at ha
      rw [ha.2]; simp only [List.length_singleton]; omega
  · exact c
/-- An entry that commits: what was open is told. -/
def comO (n : Int) (o : OneJ) (x : Ent) : Bool := isT x && (x.task == n) && (x.kind == 3) && (x.epoch == o.ep) && (x.txn == o.tx)
theorem pick_step (n : Int) (o : OneJ) (x : Ent) (i k : Nat) (hd : o.at_.length = o.done.length) : pick (stepO n o x i) k = pick o k ++ (if comO n o x = true ∧ i = k then o.opn else []) := by
  have same : ∀ o' : OneJ, o'.done = o.done → o'.at_ = o.at_ → pick o' k = pick o k := fun o' h1 h2 => by unfold pick; rw [h1, h2]
  by_cases hc : comO n o x = true
  · have hc' := hc
    unfold comO at hc'
    simp only [Bool.and_eq_true, beq_iff_eq] at hc'
    obtain ⟨⟨⟨⟨h1, h2⟩, h3⟩, h4⟩, h5⟩ := hc'
    have hs : stepO n o x i = ⟨o.ep, o.tx + 1, x.offs, o.ord ++ x.order, [], o.done ++ o.opn, o.at_ ++ List.replicate o.opn.length (i : Int)⟩ := by
      unfold stepO
      rw [if_neg (fun hh => hh ⟨h1, h2⟩), if_neg (by omega), if_neg (by omega), if_neg (by omega), if_pos h3]
    rw [hs]
    unfold pick
    simp only
    rw [List.zip_append hd.symm, List.filter_append, List.map_append]
    congr 1
    by_cases hik : i = k
    · subst hik
      rw [if_pos ⟨hc, rfl⟩]
      have : ∀ l : List Int, (((l.zip (List.replicate l.length (i : Int))).filter fun p => p.2 == (i : Int)).map (·.1)) = l := by
        intro l
        induction l with
        | nil => rfl
        | cons a l ih =>
          rw [List.length_cons, List.replicate_succ, List.zip_cons_cons, List.filter_cons_of_pos (by simp), List.map_cons, ih]
      exact this _
    · rw [if_neg (fun hh => hik hh.2), List.filter_eq_nil_iff.2 (fun p hp => ?_)]
      · rfl
      · have := (List.of_mem_zip hp).2
        rw [List.mem_replicate] at this
        rw [this.2]
        simp
        omega
  · rw [if_neg (fun hh => hc hh.1), List.append_nil]
    unfold stepO
    split
    · rfl
    rename_i hT
    have hT' : isT x = true ∧ x.task = n := Classical.byContradiction hT
    split
    · split <;> exact same _ rfl rfl
    split
    · rfl
    rename_i hno
    split
    · exact same _ rfl rfl
    split
    · rename_i h3
      exact absurd (by unfold comO; rw [hT'.1, hT'.2, h3]; simp; omega) hc
    · exact same _ rfl rfl
theorem pick_none {o : OneJ} {k : Nat} (h : ∀ a ∈ o.at_, a < (k : Int)) : pick o k = [] := by
  unfold pick
  rw [List.filter_eq_nil_iff.2 (fun p hp => ?_)]
  · rfl
  · have := h _ (List.of_mem_zip hp).2
    simp
    omega
theorem ofL_un {l : List Ent} {n : Int} (h : n ∉ namesL l) : ofL l n = one0 := by
  revert h
  refine snoc_ind (p := fun l => n ∉ namesL l → ofL l n = one0) (fun _ => rfl) (fun l x b h => ?_) l
  have h2 : ¬ (isT x = true ∧ x.task = n) := fun hh => h ((namesL_mem _ _).2 ⟨x, by simp, hh⟩)
  have h3 : n ∉ namesL l := fun hh => by
    obtain ⟨y, hy, hq⟩ := (namesL_mem _ _).1 hh
    exact h ((namesL_mem _ _).2 ⟨y, by simp [hy], hq⟩)
  rw [ofL_snoc, b h3]
  unfold stepO
  rw [if_pos h2]
theorem flat_ins {f : Int → List Int} {n : Int} : ∀ {N : List Int}, N.Pairwise (· < ·) → (n ∉ N → f n = []) → (insK n N).flatMap f = N.flatMap f
  | [], _, h => by simp [insK, h (by simp)]
  | x :: N, hp, h => by
    have hp' := List.pairwise_cons.1 hp
    unfold insK
    by_cases e : x = n
    · rw [if_pos e]
    rw [if_neg e]
    by_cases g : n < x
    · rw [if_pos g, List.flatMap_cons, h (fun hh => ?_)]
      · rfl
      · rcases List.mem_cons.1 hh with hh | hh
        · exact e hh.symm
        · have := hp'.1 n hh; omega
    · rw [if_neg g, List.flatMap_cons, List.flatMap_cons, flat_ins hp'.2 (fun hh => h (fun h2 => ?_))]
      rcases List.mem_cons.1 h2 with h2 | h2
      · exact e h2.symm
      · exact hh h2
theorem flat_one {f : Int → List Int} {n : Int} : ∀ {N : List Int}, N.Pairwise (· < ·) → n ∈ N → (∀ m ∈ N, m ≠ n → f m = []) → N.flatMap f = f n
  | [], _, h, _ => by cases h
  | x :: N, hp, h, hf => by
    have hp' := List.pairwise_cons.1 hp
    rw [List.flatMap_cons]
    by_cases e : x = n
    · subst e
      have : N.flatMap f = [] := by
        rw [List.flatMap_eq_nil_iff]
        intro m hm
        exact hf m (by simp [hm]) (by have := hp'.1 m hm; omega)
      rw [this, List.append_nil]
    · have hn : n ∈ N := (List.mem_cons.1 h).resolve_left (fun hh => e hh.symm)
      rw [hf x (by simp) e, List.nil_append]
      exact flat_one hp'.2 hn fun m hm => hf m (by simp [hm])
theorem ones_flat (l : List Ent) (g : Int → OneJ → List Int) : (onesL l).flatMap (fun p => g p.1 p.2) = (namesL l).flatMap fun n => g n (ofL l n) := by
  unfold onesL
  rw [List.flatMap_map]
theorem flat_congr {α β : Type} {f g : α → List β} : ∀ {l : List α}, (∀ x ∈ l, f x = g x) → l.flatMap f = l.flatMap g
  | [], _ => rfl
  | x :: l, h => by rw [List.flatMap_cons, List.flatMap_cons, h x (by simp), flat_congr fun y hy => h y (by simp [hy])]
/-- What is new with an entry more. -/
def newP (l : List Ent) (x : Ent) : List Int := (if (mayB x && (x.kind == 1)) = true then [(l.length : Int)] else []) ++ (if comO x.task (ofL l x.task) x = true then (ofL l x.task).opn else [])
theorem putL_snoc (l : List Ent) (x : Ent) : putL (l ++ [x]) = putL l ++ newP l x := by
  unfold putL
  rw [List.length_append, List.length_singleton, List.range_succ, List.flatMap_append, List.flatMap_cons, List.flatMap_nil, List.append_nil]
  have hp : ∀ (k : Nat), (namesL (l ++ [x])).flatMap (fun n => pick (ofL l n) k) = (namesL l).flatMap fun n => pick (ofL l n) k := fun k => by
    rw [namesL_snoc]
    split
    · refine flat_ins (namesL_up l) fun hh => ?_
      rw [ofL_un hh]
      rfl
    · rfl
  have hpk : ∀ (n : Int) (k : Nat), pick (ofL (l ++ [x]) n) k = pick (ofL l n) k ++ (if comO n (ofL l n) x = true ∧ l.length = k then (ofL l n).opn else []) := fun n k => by
    rw [ofL_snoc, pick_step n _ x l.length k (obd l n).da]
  congr 1
  · refine flat_congr fun i hi => ?_
    have hi := List.mem_range.1 hi
    unfold putAt
    congr 1
    · unfold inpI
      rw [List.getElem?_append_left hi]
    · rw [ones_flat _ fun _ o => pick o i, ones_flat _ fun _ o => pick o i]
      have : (fun n => pick (ofL (l ++ [x]) n) i) = fun n => pick (ofL l n) i := by
        funext n
        rw [hpk, if_neg (fun hh => by omega), List.append_nil]
      rw [this, hp]
  · unfold putAt newP
    congr 1
    · unfold inpI
      rw [List.getElem?_append_right (Nat.le_refl _), Nat.sub_self]
      rfl
    · rw [ones_flat _ fun _ o => pick o l.length]
      have hf : (fun n => pick (ofL (l ++ [x]) n) l.length) = fun n => if comO n (ofL l n) x = true then (ofL l n).opn else [] := by
        funext n
        rw [hpk, pick_none (at_in l n), List.nil_append]
        simp
      rw [hf]
      have hco : ∀ m, m ≠ x.task → (if comO m (ofL l m) x = true then (ofL l m).opn else []) = [] := fun m hm => by
        rw [if_neg]
        unfold comO
        have : (x.task == m) = false := by simpa using Ne.symm hm
        rw [this]
        simp
      by_cases hT : isT x = true
      · exact flat_one (n := x.task) (namesL_up _) ((namesL_mem _ _).2 ⟨x, by simp, hT, rfl⟩) fun m _ hm => hco m hm
      · have hz : ∀ m, (if comO m (ofL l m) x = true then (ofL l m).opn else []) = [] := fun m => by
          rw [if_neg]
          unfold comO
          have : isT x = false := by simpa using hT
          rw [this]
          simp
        rw [hz x.task, List.flatMap_eq_nil_iff]
        exact fun m _ => hz m
end Go.Proofs.YtcdpepdjeneelaaDoor.Pk
namespace Go.Proofs.YtcdpepdjeneelaaDoor.Pk
open Go Go.Proofs Go.Proofs.YtcdpepdjeneelaaDoor.Ab Go.Proofs.Vw
set_option linter.unusedVariables false
set_option linter.unusedSimpArgs false
theorem recsP_append (l : List Ent) (P Q : List Int) (k : Int) : recsP l (P ++ Q) k = recsP l P k ++ recsP l Q k := by unfold recsP; rw [List.filter_append, List.map_append]
theorem recsP_old {l : List Ent} {x : Ent} {P : List Int} {k : Int} (h : ∀ p ∈ P, 0 ≤ p ∧ p < (l.length : Int)) : recsP (l ++ [x]) P k = recsP l P k := by
  unfold recsP
  have e : P.filter (fun p => (entAt (l ++ [x]) p).log == k) = P.filter (fun p => (entAt l p).log == k) := List.filter_congr fun p hp => by rw [entAt_old (h p hp)]
  rw [e]
  refine List.map_congr_left fun p hp => ?_
  rw [entAt_old (h p (List.mem_filter.1 hp).1)]
theorem putB_eq (k : Int) : ∀ (o : List (Ent × Nat)) (f : Int → List LR), putB f o k = f k ++ (o.filter fun p => p.1.log == k).map fun p => (p.1.r, p.1.del)
  | [], f => by simp [putB]
  | p :: o, f => by
    show putB (addS f p.1) o k = _
    rw [putB_eq k o]
    unfold addS
    by_cases h : k = p.1.log
    · subst h
      rw [if_pos rfl, List.filter_cons_of_pos (by simp)]
      simp
    · rw [if_neg h, List.filter_cons_of_neg (by simp; exact fun hh => h hh.symm)]
theorem logs_put (l : List Ent) (k : Int) : (readV l).logs k = recsP l (putL l) k := by
  refine snoc_ind (p := fun l => (readV l).logs k = recsP l (putL l) k) rfl (fun l x ih => ?_) l
  rw [putL_snoc, recsP_append, recsP_old (put_in l), ← ih, readV_snoc]
  unfold newP
  rw [recsP_append]
  have r := relO l x.task
  have hco : comO x.task (ofL l x.task) x = true ↔ isT x = true ∧ x.kind = 3 ∧ x.epoch = (jbOf (readV l) x.task).ep ∧ x.txn = (jbOf (readV l) x.task).tx := by
    unfold comO
    simp only [Bool.and_eq_true, beq_iff_eq, r.ep, r.tx]
    constructor
    · rintro ⟨⟨⟨⟨h1, _⟩, h3⟩, h4⟩, h5⟩; exact ⟨h1, h3, h4, h5⟩
    · rintro ⟨h1, h3, h4, h5⟩; exact ⟨⟨⟨⟨h1, trivial⟩, h3⟩, h4⟩, h5⟩
  have nil1 : ∀ P : List Int, P = [] → recsP (l ++ [x]) P k = [] := fun P hP => by rw [hP]; rfl
  unfold stepE
  by_cases hm : mayB x = false
  · rw [if_pos hm, if_neg (by rw [hm]; simp), if_neg (fun hh => by have := (hco.1 hh).1; unfold isT at this; rw [hm] at this; simp at this)]
    simp [recsP]
  rw [if_neg hm]
  have hm' : mayB x = true := by simpa using hm
  have hk := ((may_iff x).1 hm').1
  by_cases h1 : x.kind = 1
  · rw [if_pos h1, if_pos (by rw [hm', h1]; rfl), if_neg (fun hh => by have := (hco.1 hh).2.1; omega)]
    show addS (readV l).logs x k = _
    unfold addS recsP
    by_cases hx : k = x.log
    · subst hx
      rw [if_pos rfl, List.filter_cons_of_pos (by rw [entAt_new]; simp)]
      simp [entAt_new]
    · rw [if_neg hx, List.filter_cons_of_neg (by rw [entAt_new]; simp; exact fun hh => hx hh.symm)]
      simp
  have hi1 : ¬ (mayB x && (x.kind == 1)) = true := by rw [hm']; simpa using h1
  rw [if_neg h1, if_neg hi1]
  rw [nil1 [] rfl, List.nil_append]
  by_cases h5 : x.kind = 5
  · rw [if_pos h5, if_neg (fun hh => by have := (hco.1 hh).2.1; omega)]
    simp [recsP]
  rw [if_neg h5]
  by_cases h6 : x.kind = 6
  · rw [if_pos h6, if_neg (fun hh => by have := (hco.1 hh).2.1; omega)]
    simp [recsP]
  rw [if_neg h6]
  have hT : isT x = true := by unfold isT; rw [hm', decide_eq_true (by omega : 2 ≤ x.kind), decide_eq_true (by omega : x.kind ≤ 5)]; rfl
  show stepL (readV l).logs (jbOf (readV l) x.task) x k = _
  unfold stepL
  by_cases hno : x.epoch ≠ (jbOf (readV l) x.task).ep ∨ x.txn ≠ (jbOf (readV l) x.task).tx
  · rw [if_pos hno, if_neg (fun hh => by have := hco.1 hh; omega)]
    simp [recsP]
  rw [if_neg hno]
  by_cases h3 : x.kind = 3
  rotate_left
  · rw [if_neg h3, if_neg (fun hh => h3 (hco.1 hh).2.1)]
    simp [recsP]
  rw [if_pos h3, if_pos (hco.2 ⟨hT, h3, by omega, by omega⟩), putB_eq, r.opn]
  congr 1
  unfold recsP
  have hat := r.at_
  generalize (jbOf (readV l) x.task).opn = O at hat
  induction O with
  | nil => rfl
  | cons p O ih2 =>
    obtain ⟨g1, g2⟩ := hat p (by simp)
    have e : entAt (l ++ [x]) (p.2 : Int) = p.1 := by rw [entAt_old (by omega)]; exact g2
    have ih3 := ih2 fun q hq => hat q (by simp [hq])
    rw [List.map_cons]
    by_cases hp : p.1.log = k
    · rw [List.filter_cons_of_pos (by simpa using hp), List.filter_cons_of_pos (by rw [e]; simpa using hp), List.map_cons, List.map_cons, ih3, e]
    · rw [List.filter_cons_of_neg (by simpa using hp), List.filter_cons_of_neg (by rw [e]; simpa using hp), ih3]
theorem refLogs_eq (l : List Ent) : refLogs l = logsOf l := by
  refine up_unique (key := fun p : Int × List LR => p.1) (fun p => ?_) ?_ (isTold l).lu
  · rw [(isTold l).lm]
    unfold refLogs
    rw [List.mem_map]
    have hne : ∀ k, k ∈ logKeys l ↔ recsP l (putL l) k ≠ [] := fun k => by
      unfold logKeys
      rw [keysK_mem, List.mem_map]
      unfold recsP
      constructor
      · rintro ⟨q, hq, h1⟩ h2
        rw [List.map_eq_nil_iff, List.filter_eq_nil_iff] at h2
        exact h2 q hq (by simpa using h1)
      · intro h
        cases hf : (putL l).filter fun p => (entAt l p).log == k with
        | nil => rw [hf] at h; exact absurd rfl h
        | cons q r =>
          have := List.mem_filter.1 (show q ∈ (putL l).filter fun p => (entAt l p).log == k by rw [hf]; simp)
          exact ⟨q, this.1, by simpa using this.2⟩
    constructor
    · rintro ⟨k, hk, rfl⟩
      exact ⟨(logs_put l k).symm, (hne k).1 hk⟩
    · rintro ⟨h1, h2⟩
      rw [logs_put] at h1
      exact ⟨p.1, (hne _).2 (h1 ▸ h2), by rw [← h1]⟩
  · unfold refLogs
    refine List.pairwise_map.2 ?_
    exact keysK_up _
/-! ### Stable of the reference -/
def refSt (l : List Ent) : Int := (namesL l).foldl (fun c t => match (ofL l t).opn with | [] => c | a :: _ => if a < c then a else c) (l.length : Int)
theorem opn_up (l : List Ent) (n : Int) : (ofL l n).opn.Pairwise (· < ·) ∧ ∀ a ∈ (ofL l n).opn, 0 ≤ a ∧ a < (l.length : Int) := by
  refine ⟨?_, (of_in l n).1⟩
  refine snoc_ind (p := fun l => (ofL l n).opn.Pairwise (· < ·)) List.Pairwise.nil (fun l x b => ?_) l
  have hin := (of_in l n).1
  rw [ofL_snoc]
  generalize ofL l n = o at b hin
  unfold stepO
  split
  · exact b
  split
  · split
    · exact List.Pairwise.nil
    · exact b
  split
  · exact b
  split
  · exact List.pairwise_append.2 ⟨b, by simp, fun a ha c hc => by rw [List.mem_singleton.1 hc]; exact (hin a ha).2⟩
  split <;> exact List.Pairwise.nil
/-- The least head. -/
theorem fold_min (l : List Ent) : ∀ (N : List Int) (c : Int), 0 ≤ c → (let r := N.foldl (fun c t => match (ofL l t).opn with | [] => c | a :: _ => if a < c then a else c) c; 0 ≤ r ∧ r ≤ c ∧ (∀ t ∈ N, ∀ a ∈ (ofL l t).opn, r ≤ a) ∧ (r = c ∨ ∃ t ∈ N, ∃ a ∈ (ofL l t).opn, r = a))
  | [], c, hc => ⟨hc, Int.le_refl _, by simp, .inl rfl⟩
  | t :: N, c, hc => by
    have hu := opn_up l t
    simp only [List.foldl_cons]
    cases ho : (ofL l t).opn with
    | nil =>
      obtain ⟨h1, h2, h3, h4⟩ := fold_min l N c hc
      refine ⟨h1, h2, fun u hu2 a ha => ?_, h4.imp id fun ⟨u, hu2, a, ha, e⟩ => ⟨u, by simp [hu2], a, ha, e⟩⟩
      rcases List.mem_cons.1 hu2 with rfl | hu2
      · rw [ho] at ha; cases ha
      · exact h3 u hu2 a ha
    | cons b r =>
      rw [ho] at hu
      have hb := (hu.2 b (by simp)).1
      have hup := List.pairwise_cons.1 hu.1
      have key : ∀ d : Int, 0 ≤ d → d ≤ b → (d = c ∨ d = b) → d ≤ c → (let r := N.foldl (fun c t => match (ofL l t).opn with | [] => c | a :: _ => if a < c then a else c) d; 0 ≤ r ∧ r ≤ c ∧ (∀ u ∈ t :: N, ∀ a ∈ (ofL l u).opn, r ≤ a) ∧ (r = c ∨ ∃ u ∈ t :: N, ∃ a ∈ (ofL l u).opn, r = a)) := fun d hd hdb hdc hdc2 => by
        obtain ⟨h1, h2, h3, h4⟩ := fold_min l N d hd
        refine ⟨h1, Int.le_trans h2 hdc2, fun u hu2 a ha => ?_, ?_⟩
        · rcases List.mem_cons.1 hu2 with rfl | hu2
          · rw [ho] at ha
            rcases List.mem_cons.1 ha with rfl | ha
            · exact Int.le_trans h2 hdb
            · have := hup.1 a ha; have := Int.le_trans h2 hdb; omega
          · exact h3 u hu2 a ha
        · rcases h4 with h4 | ⟨u, hu2, a, ha, e⟩
          · rcases hdc with hdc | hdc
            · exact .inl (h4.trans hdc)
            · exact .inr ⟨t, by simp, b, by rw [ho]; simp, h4.trans hdc⟩
          · exact .inr ⟨u, by simp [hu2], a, ha, e⟩
      simp only
      by_cases hlt : b < c
      · rw [if_pos hlt]
        exact key b hb (Int.le_refl _) (.inr rfl) (by omega)
      · rw [if_neg hlt]
        exact key c hc (by omega) (.inl rfl) (Int.le_refl _)
theorem refSt_eq {l : List Ent} {v : Nat} (h : MinAt l.length v (IsOpen (readV l))) : refSt l = (v : Int) := by
  obtain ⟨h1, h2, h3, h4⟩ := fold_min l (namesL l) (l.length : Int) (by omega)
  obtain ⟨g1, g2, g3⟩ := h
  change 0 ≤ refSt l at h1
  change refSt l ≤ _ at h2
  have hop : ∀ t, t ∈ namesL l → (readV l).tasks t = some (jbOf (readV l) t) := fun t ht => (tasks_named l t).1 ht
  have lo : refSt l ≤ (v : Int) := by
    rcases g3 with g3 | ⟨p, ⟨t, j, hj, hp⟩, g3⟩
    · omega
    · have ht : t ∈ namesL l := Classical.byContradiction fun hh => by rw [(tasks_named l t).2 hh] at hj; cases hj
      have hj2 := hop t ht
      rw [hj] at hj2
      injection hj2 with hj2
      subst hj2
      have := h3 t ht (p.2 : Int) (by rw [(relO l t).opn]; exact List.mem_map.2 ⟨p, hp, rfl⟩)
      change refSt l ≤ _ at this
      omega
  have hi : (v : Int) ≤ refSt l := by
    rcases h4 with h4 | ⟨t, ht, a, ha, e⟩
    · change refSt l = _ at h4; omega
    · change refSt l = a at e
      rw [(relO l t).opn] at ha
      obtain ⟨p, hp, rfl⟩ := List.mem_map.1 ha
      have := g2 p ⟨t, _, hop t ht, hp⟩
      omega
  omega
end Go.Proofs.YtcdpepdjeneelaaDoor.Pk
namespace Go.Proofs.YtcdpepdjeneelaaDoor.Pk
open Go Go.Proofs Go.Proofs.YtcdpepdjeneelaaDoor.Ab Go.Proofs.Vw
set_option linter.unusedVariables false
set_option linter.unusedSimpArgs false
def stepC (l : List Ent) (c t : Int) : Int := match (ofL l t).opn with | [] => c | a :: _ => if a < c then a else c
set_option maxHeartbeats 4000000 in
set_option maxRecDepth 20000 in
theorem rStable (l : List Ent) (hl : l.length ≤ 200) (he : ∀ x ∈ l, eLen x) (h : AHeap) : SCalls Tryd.prog 15 [.imm l.length (l.flatMap entE)] h (fun r h' => r = .int .i64 (refSt l) ∧ Keep h h' none_) := by
  refine SCalls.enterI (c := _) Tryd.func15 rfl (by kernel_rfl) (by simp) ?_
  simp only [wpA_region, wpA_seq, seqQ_normal, goI_out, goI_ops, opsA_nil, opsA_cons, stepA_move, stepA_assign, stepA_len, stepA_call, thenV_some, eval_tmp, eval_const, put_some, enterF_zero, enterF_succ, absV_int, aLen_imm, Nat.reduceEqDiff, reduceCtorEq, List.map_cons, List.map_nil, if_true, if_false, kt_22]
  refine callI_pure cal24 (rNames l (by omega) he h) ?_
  have hnl := namesL_len l
  simp only [wpA_region, wpA_seq, wpA_block, wpA_loop, seqQ_normal, goI_out, goI_ops, opsA_nil, opsA_cons, stepA_assign, eval_tmp, eval_const, put_some, enterF_succ, absV_int, Nat.reduceEqDiff, if_true, if_false]
  refine SWp.loopG (α := Nat) (fun k f h' => f 0 = .imm l.length (l.flatMap entE) ∧ f 3 = .int .i64 (((namesL l).take k).foldl (stepC l) (l.length : Int)) ∧ f 4 = .imm (namesL l).length (i64V (namesL l)) ∧ f 5 = .int .i64 (k : Nat) ∧ k ≤ (namesL l).length ∧ Keep h h' none_) (fun k => (namesL l).length - k) 0
    ⟨rfl, rfl, rfl, rfl, Nat.zero_le _, Keep.refl _ _⟩ ?_
  rintro k f h1 ⟨f0, f3, f4, f5, hk, kk⟩
  refine wpI_sound (by kernel_rfl) ?_
  by_cases hlt : k < (namesL l).length
  · have d1 : decide ((k : Int) < (((namesL l).length : Nat) : Int)) = true := decide_eq_true (by omega)
    have wk : IntKind.i64.wrap ((k : Int) + 1) = ((k + 1 : Nat) : Int) := by rw [Go.IntWalk.i64_in _ (by omega)]; omega
    obtain ⟨r, x1⟩ := int_ix (l := namesL l) (kk := .i64) hlt
    have htk : ((namesL l).take (k + 1)).foldl (stepC l) (l.length : Int) = stepC l (((namesL l).take k).foldl (stepC l) (l.length : Int)) (namesL l)[k] := by
      rw [List.take_succ_eq_append_getElem hlt, List.foldl_append]; rfl
    generalize (namesL l)[k] = n at x1 htk
    generalize ((namesL l).take k).foldl (stepC l) (l.length : Int) = c at f3 htk
    simp only [wpA_skip, wpA_region, wpA_seq, wpA_cond, wpA_block, condI_true, seqQ_normal, goI_out, goI_ops, opsA_nil, opsA_cons, stepA_move, stepA_load, stepA_binOp, stepA_indexAddr, stepA_len, stepA_call, thenV_some, eval_tmp, put_some, aBin_lss, aLoad_eq, loadGo_one, aPlace_at, aLen_imm, Nat.reduceEqDiff, reduceCtorEq, List.map_cons, List.map_nil, if_true, if_false, kt_39, lt_3, f0, f4, f5, d1, x1]
    refine callI_pure cal25 (rOf l n (by omega) he h1) ?_
    have cO : (V.agg (oneC n (ofL l n) (ofL l n).opn.length)).cells = some (oneE (n, ofL l n)) := rfl
    have sO : setC (some 9) (AObj.cells [V.int .i64 0, .int .i64 0, .int .i64 0, .snil, .snil, .int .i64 0, .snil, .snil, .snil] 64 none) 0 (oneE (n, ofL l n)) = some (.cells (oneE (n, ofL l n)) 64 none) := rfl
    have d6 : dropC (AObj.cells (oneE (n, ofL l n)) 64 none) 6 = some ((oneE (n, ofL l n)).drop 6) := rfl
    have l6 : loadGo (some none) (some ((oneE (n, ofL l n)).drop 6)) = some (.imm (ofL l n).opn.length (i64V (ofL l n).opn)) := rfl
    have kP : Keep h1 (h1.push (.cells (oneE (n, ofL l n)) 64 none)) none_ := Keep.push _ _ _
    have hop := (obd l n).op
    have hcase : (ofL l n).opn = [] ∨ ∃ a rest, (ofL l n).opn = a :: rest := by
      cases (ofL l n).opn with
      | nil => exact .inl rfl
      | cons a rest => exact .inr ⟨a, rest, rfl⟩
    rcases hcase with ho | ⟨a, rest, ho⟩
    · have hc : stepC l c n = c := by unfold stepC; rw [ho]
      have l6' : loadGo (some none) (some ((oneE (n, ofL l n)).drop 6)) = some (.imm 0 []) := by rw [l6, ho]; rfl
      have e0 : decide ((0 : Int) < ((0 : Nat) : Int)) = false := rfl
      simp only [wpA_skip, wpA_region, wpA_seq, wpA_cond, condI_false, seqQ_normal, blkQ_normal, endI_mk, andThen_normal, goI_out, goI_ops, opsA_nil, opsA_cons, opsA_guardS, gvI_ft, slotAt_zero, slotAt_succ, stepA_move, stepA_assign, stepA_pick, stepA_alloc, stepA_load, stepA_store, stepA_binOp, stepA_fieldAddr, stepA_extract, stepA_len, thenV_some, thenH_some, thenS_some, pickV_false, extV_zero, extV_succ, eval_tmp, eval_const, put_some, put_none, aBin_add, aBin_gtr, absV_int, absV_bool, aField_eq, fieldGo_ptr, aLoad_eq, aPlace_ptr, aStore_eq, storeGo_ptr, aAlloc_eq, aLen_imm, get_push_new, set_push, Nat.reduceEqDiff, Option.map_some, Nat.zero_add, if_true, if_false, ft_64_1, kt_39, lt_39, zc_64, zt_64, f5, cO, sO, d6, l6', e0, wk]
      exact hid_mk ⟨k + 1, ⟨f0, by rw [htk, hc]; exact f3, f4, rfl, hlt, kk.trans' kP⟩, by omega⟩
    · have l6' : loadGo (some none) (some ((oneE (n, ofL l n)).drop 6)) = some (.imm (a :: rest).length (i64V (a :: rest))) := by rw [l6, ho]
      have e0 : decide ((0 : Int) < (((a :: rest).length : Nat) : Int)) = true := decide_eq_true (by rw [List.length_cons]; omega)
      obtain ⟨r2, x2⟩ := int_ix (l := a :: rest) (k := 0) (kk := .i64) (by simp)
      have x2 : aIndexAddr Tryd.prog 39 (.imm (a :: rest).length (i64V (a :: rest))) (.int .i64 0) = some (.at (.int .i64 a :: r2)) := x2
      generalize (a :: rest).length = N at l6' e0 x2
      generalize i64V (a :: rest) = W at l6' x2
      by_cases hac : a < c
      · have e1 : decide (a < c) = true := decide_eq_true hac
        have hc : stepC l c n = a := by unfold stepC; rw [ho]; exact if_pos hac
        simp only [wpA_region, wpA_seq, wpA_cond, condI_true, seqQ_normal, blkQ_normal, endI_mk, andThen_normal, goI_out, goI_ops, opsA_nil, opsA_cons, opsA_guardS, gvI_same, slotAt_zero, slotAt_succ, stepA_move, stepA_assign, stepA_pick, stepA_alloc, stepA_load, stepA_store, stepA_binOp, stepA_fieldAddr, stepA_indexAddr, stepA_extract, stepA_len, thenV_some, thenH_some, thenS_some, pickV_true, extV_zero, extV_succ, eval_tmp, eval_const, put_some, put_none, aBin_add, aBin_lss, aBin_gtr, absV_int, absV_bool, aField_eq, fieldGo_ptr, aLoad_eq, loadGo_one, aPlace_ptr, aPlace_at, aStore_eq, storeGo_ptr, aAlloc_eq, aLen_imm, get_push_new, set_push, Nat.reduceEqDiff, Option.map_some, Nat.zero_add, if_true, if_false, ft_64_1, kt_39, lt_3, lt_39, zc_64, zt_64, f3, f5, cO, sO, d6, l6', e0, x2, e1, wk]
        exact hid_mk ⟨k + 1, ⟨f0, by rw [htk, hc]; rfl, f4, rfl, hlt, kk.trans' kP⟩, by omega⟩
      · have e1 : decide (a < c) = false := decide_eq_false hac
        have hc : stepC l c n = c := by unfold stepC; rw [ho]; exact if_neg hac
        simp only [wpA_skip, wpA_region, wpA_seq, wpA_cond, condI_false, seqQ_normal, blkQ_normal, endI_mk, andThen_normal, goI_out, goI_ops, opsA_nil, opsA_cons, opsA_guardS, gvI_same, slotAt_zero, slotAt_succ, stepA_move, stepA_assign, stepA_pick, stepA_alloc, stepA_load, stepA_store, stepA_binOp, stepA_fieldAddr, stepA_indexAddr, stepA_extract, stepA_len, thenV_some, thenH_some, thenS_some, pickV_true, extV_zero, extV_succ, eval_tmp, eval_const, put_some, put_none, aBin_add, aBin_lss, aBin_gtr, absV_int, absV_bool, aField_eq, fieldGo_ptr, aLoad_eq, loadGo_one, aPlace_ptr, aPlace_at, aStore_eq, storeGo_ptr, aAlloc_eq, aLen_imm, get_push_new, set_push, Nat.reduceEqDiff, Option.map_some, Nat.zero_add, if_true, if_false, ft_64_1, kt_39, lt_3, lt_39, zc_64, zt_64, f3, f5, cO, sO, d6, l6', e0, x2, e1, wk]
        exact hid_mk ⟨k + 1, ⟨f0, by rw [htk, hc]; exact f3, f4, rfl, hlt, kk.trans' kP⟩, by omega⟩
  · have d1 : decide ((k : Int) < (((namesL l).length : Nat) : Int)) = false := decide_eq_false (by omega)
    rw [List.take_of_length_le (by omega)] at f3
    simp only [wpA_region, wpA_seq, wpA_cond, wpA_exit, wpA_ret, condI_false, seqQ_normal, seqQ_exit, blkQ_exit, endI_mk, goE, andThen_exit, goI_out, goI_ops, opsA_nil, opsA_cons, stepA_move, stepA_assign, stepA_binOp, stepA_len, thenV_some, eval_tmp, put_some, aBin_lss, aLen_imm, Nat.reduceEqDiff, if_true, if_false, kt_39, f3, f4, f5, d1, retA_ret, Tryd.results15, resultsA_1]
    exact hid_mk ⟨rfl, kk⟩
set_option maxHeartbeats 4000000 in
set_option maxRecDepth 20000 in
theorem viewReads (l0 : List Ent) (hl0 : l0.length ≤ 2 ^ 47) (he0 : ∀ x ∈ l0, eLen x) (h : AHeap) (hu : KU h) : SCalls Tryd.prog 3 [.imm l0.length (l0.flatMap entE)] h (fun r _ => r = .bool true) := by
  refine SCalls.enterI (c := _) Tryd.func3 rfl (by kernel_rfl) (by simp) ?_
  simp only [wpA_region, wpA_seq, seqQ_normal, goI_out, goI_ops, opsA_nil, opsA_cons, stepA_assign, stepA_call, eval_const, absV_bool, List.map_nil]
  refine callI_pure cal9 (pShown h hu) ?_
  simp only [wpA_region, wpA_seq, seqQ_normal, goI_out, goI_ops, opsA_nil, opsA_cons, stepA_move, stepA_assign, stepA_call, eval_tmp, put_some, enterF_zero, enterF_succ, Nat.reduceEqDiff, reduceCtorEq, List.map_cons, List.map_nil, if_true, if_false]
  refine callI_pure cal10 (pFew l0 hl0 h) ?_
  have hl : (l0.take 200).length ≤ 200 := by rw [List.length_take]; omega
  have he : ∀ x ∈ l0.take 200, eLen x := fun x hx => he0 x (List.mem_of_mem_take hx)
  generalize l0.take 200 = l at hl he ⊢
  simp only [wpA_region, wpA_seq, seqQ_normal, goI_out, goI_ops, opsA_nil, opsA_cons, stepA_move, stepA_assign, stepA_call, eval_tmp, put_some, enterF_zero, enterF_succ, Nat.reduceEqDiff, reduceCtorEq, List.map_cons, List.map_nil, if_true, if_false]
  refine callI_pure cal12 (pRead l (by omega) he h hu) ?_
  simp only [goI_ops, opsA_cons, stepA_move, stepA_call, eval_tmp, put_some, enterF_zero, enterF_succ, Nat.reduceEqDiff, reduceCtorEq, List.map_cons, List.map_nil, if_true, if_false]
  refine callI_pure cal13 (rRead l hl he h) ?_
  have e : (⟨refLogs l, refTasks l, l.length⟩ : TD) = toldOf l := by rw [refLogs_eq, refTasks_eq]; rfl
  rw [e]
  simp only [goI_ops, opsA_cons, stepA_call, eval_tmp, put_some, enterF_succ, Nat.reduceEqDiff, reduceCtorEq, List.map_cons, List.map_nil, if_true, if_false]
  refine callI_pure cal11 (pSameTold (toldOf l) (tdOk l (by omega)) h) ?_
  simp only [wpA_region, wpA_seq, seqQ_normal, goI_out, goI_ops, opsA_nil, opsA_cons, opsA_guardS, gvI_same, slotAt_zero, slotAt_succ, stepA_move, stepA_assign, stepA_pick, stepA_call, thenV_some, pickV_true, eval_tmp, eval_const, put_some, enterF_zero, enterF_succ, absV_bool, Nat.reduceEqDiff, reduceCtorEq, List.map_cons, List.map_nil, if_true, if_false]
  refine callI_of cal14 (pStable l (by omega) he h hu) fun r h1 ⟨⟨v, er, hv⟩, k1⟩ => ?_
  subst er
  simp only [goI_ops, opsA_guardS, gvI_same, slotAt_zero, slotAt_succ, stepA_move, stepA_call, eval_tmp, put_some, enterF_zero, enterF_succ, Nat.reduceEqDiff, reduceCtorEq, List.map_cons, List.map_nil, if_true, if_false]
  refine callI_of cal15 (rStable l hl he h1) fun r h2 ⟨er, k2⟩ => ?_
  subst er
  have e2 : ((v : Int) == refSt l) = true := by rw [refSt_eq hv]; simp
  simp only [wpA_ret, seqQ_normal, endI_mk, goI_out, goI_ops, opsA_nil, opsA_cons, opsA_guardS, gvI_same, slotAt_zero, slotAt_succ, stepA_assign, stepA_pick, stepA_binOp, thenV_some, pickV_true, eval_tmp, eval_const, put_some, enterF_succ, aBin_eql, absV_bool, Nat.reduceEqDiff, reduceCtorEq, if_true, if_false, e2, retA_ret, Tryd.results3, resultsA_1]
  exact hid_mk rfl
end Go.Proofs.YtcdpepdjeneelaaDoor.Pk
