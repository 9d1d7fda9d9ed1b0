/-
  What functions of the program do, told of abstract states. Conditions: as each theorem says.
-/
import Derived.Test.YtlbekgogjlchjaaMaE
namespace Go.Proofs.Ytlbekgogjlchjaa.Pk
open Go Go.Proofs Go.Proofs.Ytlbekgogjlchjaa.Ab
set_option linter.unusedVariables false
set_option linter.unusedSimpArgs false
/-! ### Opening a node -/
abbrev NSt := Int × Ces × Nat
/-- What a payload makes of a node. -/
def redo (s : NSt) (p : List Nat) : NSt := if (readC p).2 && folB s.1 s.2.1 (readC p).1 then (appE s.1 (readC p).1, appC s.2.2 s.2.1 (readC p).1, appK s.2.2 s.2.1 (readC p).1) else s
def redoL (l : List (List Nat)) : NSt := l.foldl redo (0, [], 0)
theorem redoL_take {l : List (List Nat)} {i : Nat} (hi : i < l.length) : redoL (l.take (i + 1)) = redo (redoL (l.take i)) l[i] := by
  unfold redoL
  rw [List.take_succ_eq_append_getElem hi, List.foldl_append]
  rfl
theorem openC_mem (b : List Nat) (hb : ∀ x ∈ b, x < 256) : (openC b).1.length ≤ b.length ∧ ∀ x ∈ (openC b).1, x < 256 := by
  unfold openC
  split
  · exact ⟨Nat.zero_le _, fun x hx => by cases hx⟩
  split
  · exact ⟨Nat.zero_le _, fun x hx => by cases hx⟩
  split
  · exact ⟨Nat.zero_le _, fun x hx => by cases hx⟩
  split
  · refine ⟨?_, fun x hx => hb x (List.mem_of_mem_drop (List.mem_of_mem_take hx))⟩
    rw [List.length_take, List.length_drop]
    omega
  · exact ⟨Nat.zero_le _, fun x hx => by cases hx⟩
theorem scanF_mem : ∀ (k : Nat) (b : List Nat), (∀ x ∈ b, x < 256) → ∀ p ∈ (scanF k b).1, p.length ≤ b.length ∧ ∀ x ∈ p, x < 256
  | 0, b, hb, p, hp => by cases hp
  | k + 1, b, hb, p, hp => by
    unfold scanF at hp
    split at hp
    · cases hp
    · rcases List.mem_cons.1 hp with rfl | hp
      · exact openC_mem b hb
      · obtain ⟨h1, h2⟩ := scanF_mem k _ (fun x hx => hb x (List.mem_of_mem_drop hx)) p hp
        rw [List.length_drop] at h1
        exact ⟨by omega, h2⟩
theorem scanF_len : ∀ (k : Nat) (b : List Nat), (scanF k b).1.length ≤ k
  | 0, b => Nat.le_refl _
  | k + 1, b => by
    unfold scanF
    split
    · exact Nat.zero_le _
    · have := scanF_len k (b.drop (openC b).2.1)
      simp only [List.length_cons]
      omega
theorem readC_len (p : List Nat) : (readC p).1.bytes.length ≤ p.length := by
  unfold readC
  split
  · exact Nat.zero_le _
  split
  · have h1 := numR_len p
    have h2 := numR_len (numR p)
    have h3 := numR_len (numR (numR p))
    simp only
    unfold getBytes
    split
    · exact Nat.zero_le _
    split
    · exact Nat.zero_le _
    · simp only [List.length_take, List.length_drop]
      omega
  · exact Nat.zero_le _
/-- A node whole. -/
structure IsNode (h : AHeap) (a m k j i : Nat) (room : Int) (bs : List Nat) (safe : Int) (v pv : V) (l : List (List Nat)) (torn : Int) (s : NSt) : Prop where
  nod : IsNod h a m k s.1 s.2.1 s.2.2
  seg : IsSeg h k j i room bs safe v pv l torn
  na : ¬ SegP k j i v pv a
  nm : ¬ SegP k j i v pv m
theorem IsSeg.parts_lt {h : AHeap} {k j i : Nat} {room safe torn : Int} {bs : List Nat} {v pv : V} {l : List (List Nat)} (s : IsSeg h k j i room bs safe v pv l torn) : ∀ x, SegP k j i v pv x → x < h.n := fun x hx => by
  rcases hx with hx | hx | hx | hx | hx
  · rw [hx]; exact s.lt
  · rw [hx]; exact s.ltj
  · rw [hx]; exact s.disk.lt
  · exact s.disk.own.lt _ hx
  · exact s.row.lt _ hx
set_option maxRecDepth 10000 in
theorem nOpen (h : AHeap) (i : Nat) (room : Int) (bs : List Nat) (hb : ∀ x ∈ bs, x < 256) (safe : Int) (v : V) (d : IsDisk h (.ptr i 0) room (nI bs) safe i v) :
    SCalls Try.prog 15 [.ptr i 0] h (fun r h' => ∃ a m k j v' pv, r = .ptr a 0 ∧ IsNode h' a m k j i room (bs.take (scanF bs.length bs).2) ((scanF bs.length bs).2 : Nat) v' pv (scanF bs.length bs).1 ((bs.length : Int) - ((scanF bs.length bs).2 : Nat)) (redoL (scanF bs.length bs).1) ∧
      idOf v' = idOf v ∧ h.n ≤ a ∧ h.n ≤ m ∧ h.n ≤ k ∧ h.n ≤ j ∧ (∀ x, idOf pv = some x → h.n ≤ x) ∧ Keep h h' (Parts i v)) := by
  have hbl : bs.length ≤ 1048576 := by have := d.len; have := d.most; rw [nI_len] at *; omega
  have hi := d.lt
  have hvl := d.own.lt
  refine SCalls.enterI (c := _) Try.func15 rfl (by kernel_rfl) (by simp) ?_
  simp only [wpA_region, wpA_seq, seqQ_normal, goI_out, goI_ops, opsA_nil, opsA_cons, stepA_move, stepA_assign, stepA_call, eval_tmp, eval_const, put_some, enterF_zero, enterF_succ, absV_pnil, Nat.reduceEqDiff, reduceCtorEq, List.map_cons, List.map_nil, if_true, if_false]
  refine callI_of cal35 (sOpen h i room bs hb safe v d) fun r1 h1 ⟨k, j, v1, pv, e1, s1, i1, hk, hj, hp, k1⟩ => ?_
  subst e1
  have hmem := scanF_mem bs.length bs hb
  have hll := scanF_len bs.length bs
  generalize scanF bs.length bs = S at *
  obtain ⟨l, n⟩ := S
  simp only at s1 hmem hll ⊢
  simp only [wpA_region, wpA_seq, seqQ_normal, goI_out, goI_ops, opsA_nil, opsA_cons, stepA_move, stepA_assign, stepA_box, stepA_build, stepA_load, stepA_nilCheck, stepA_makeMap, stepA_fieldAddr, stepA_call, thenV_some, thenH_some, nilV_ptr, eval_tmp, put_some, enterF_succ, cells_ptr, cells_map, cells_agg, aField_eq, fieldGo_ptr, aLoad_eq, loadGo_one, aPlace_ptr, dropC_cells, setAll_nil, setAll_cons, aBox_eq, makeMap_nil, aBuild_go, aFill_nil, aFill_cons, fillGo_some, buildGo_struct, push_n, get_push2, List.getElem?_cons_zero, List.getElem?_cons_succ, Nat.reduceEqDiff, Nat.reduceAdd, Nat.reduceLeDiff, List.map_cons, List.map_nil, Option.map_some, Option.map_none, Nat.add_zero, Nat.zero_add, Nat.zero_le, List.length_cons, List.length_nil, List.drop_zero, List.set_cons_zero, List.set_cons_succ, and_self, if_true, if_false, Nat.le_refl, ft_78_0, lt_74, pl_78, zc_78]
  have gm0 : ((h1.push (.map [] 0)).push (.cells [.ptr k 0, .int .i64 0, .map h1.n] 78 none)).get h1.n = .map [] 0 := get_push2'
  have ga0 : ((h1.push (.map [] 0)).push (.cells [.ptr k 0, .int .i64 0, .map h1.n] 78 none)).get (h1.n + 1) = .cells [.ptr k 0, .int .i64 0, .map h1.n] 78 none := get_push2
  have kp : Keep h1 ((h1.push (.map [] 0)).push (.cells [.ptr k 0, .int .i64 0, .map h1.n] 78 none)) none_ := (Keep.push _ _ _).trans (Keep.push _ _ _) fun _ _ h => h
  have q0 : ((h1.push (.map [] 0)).push (.cells [.ptr k 0, .int .i64 0, .map h1.n] 78 none)).n = h1.n + 2 := rfl
  generalize (h1.push (.map [] 0)).push (.cells [.ptr k 0, .int .i64 0, .map h1.n] 78 none) = H0 at gm0 ga0 kp q0 ⊢
  have s0 := s1.keepN kp
  have pl := s1.parts_lt
  have hL : l.length ≤ 2 ^ 40 := by omega
  refine callI_pure cal36 (sLen H0 k j i room _ _ _ v1 pv l s0 hL) ?_
  simp only [wpA_block, wpA_loop, seqQ_normal, goI_out, goI_ops, opsA_nil, opsA_cons, stepA_move, eval_const, absV_int]
  have kn := k1.n
  refine SWp.loopG (α := Nat) (fun x f h' => f 3 = .ptr (h1.n + 1) 0 ∧ f 18 = .int .i64 (l.length : Nat) ∧ f 19 = .int .i64 (x : Nat) ∧ x ≤ l.length ∧ IsNod h' (h1.n + 1) h1.n k (redoL (l.take x)).1 (redoL (l.take x)).2.1 (redoL (l.take x)).2.2 ∧
    Keep H0 h' (fun q => q = h1.n + 1 ∨ q = h1.n)) (fun x => l.length - x) 0
    ⟨rfl, rfl, rfl, Nat.zero_le _, ⟨by omega, ga0, by omega, gm0, by omega⟩, Keep.refl _ _⟩ ?_
  rintro x f h' ⟨f3, f18, f19, hx, nd, kH⟩
  have hnp : ∀ q, SegP k j i v1 pv q → ¬ (q = h1.n + 1 ∨ q = h1.n) := fun q hq hh => by have := pl q hq; omega
  have sg := s0.keep kH hnp
  refine wpI_sound (by kernel_rfl) ?_
  by_cases hlt : x < l.length
  · have d1 : decide ((x : Int) < ((l.length : Nat) : Int)) = true := by rw [decide_eq_true_iff]; omega
    have hw : IntKind.i64.wrap ((x : Int) + 1) = ((x + 1 : Nat) : Int) := by rw [Go.IntWalk.i64_in _ (by omega)]; rfl
    obtain ⟨hpl, hpb⟩ := hmem l[x] (List.getElem_mem hlt)
    have hT := redoL_take hlt
    have ng := nd.get
    simp only [wpA_skip, wpA_region, wpA_seq, wpA_cond, wpA_block, condI_true, seqQ_normal, goI_out, goI_ops, opsA_nil, opsA_cons, stepA_move, stepA_assign, stepA_load, stepA_nilCheck, stepA_binOp, stepA_fieldAddr, stepA_call, thenV_some, nilV_ptr, eval_tmp, put_some, aBin_lss, aField_eq, fieldGo_ptr, aLoad_eq, loadGo_one, aPlace_ptr, dropC_cells, Nat.reduceEqDiff, Nat.reduceAdd, List.map_cons, List.map_nil, Nat.add_zero, Nat.zero_add, Nat.zero_le, List.length_cons, List.length_nil, List.drop_zero, if_true, if_false, ft_78_0, lt_74, f3, f18, f19, d1, ng]
    refine callI_pure cal37 (sGet h' k j i room _ _ _ v1 pv l sg hL x hlt (by omega)) ?_
    simp only [wpA_region, wpA_seq, seqQ_normal, goI_out, goI_ops, opsA_nil, opsA_cons, stepA_move, stepA_assign, stepA_extract, stepA_call, thenV_some, extV_zero, extV_succ, eval_tmp, put_some, Nat.reduceEqDiff, List.map_cons, List.map_nil, if_true, if_false]
    refine callI_pure cal38 (pReadA l[x] h' hpb (by omega)) ?_
    have hrl := readC_len l[x]
    unfold redo at hT
    generalize readC l[x] = O at hT hrl ⊢
    obtain ⟨a, ok⟩ := O
    simp only at hT hrl
    generalize redoL (l.take x) = S at *
    obtain ⟨ep, es, cl⟩ := S
    simp only at hT nd ng
    have hcl : (V.agg (actE a)).cells = some (actE a) := rfl
    have hst : setC (some 4) (AObj.cells [.int .i64 0, .int .i64 0, .int .i64 0, .snil] 80 none) 0 (actE a) = some (.cells (actE a) 80 none) := by
      rw [setC_row (n := 4) rfl rfl, if_pos (by decide)]; rfl
    have dd : dropC (.cells (actE a) 80 none) 0 = some (actE a) := rfl
    have hld : loadGo (some (some 4)) (some (actE a)) = some (.agg (actE a)) := rfl
    have k2 : Keep h' (h'.push (.cells (actE a) 80 none)) none_ := Keep.push _ _ _
    have g2 : (h'.push (.cells (actE a) 80 none)).get h'.n = .cells (actE a) 80 none := get_push_new
    have nd2 := nd.keep k2 (fun h => h) (fun h => h)
    cases ok
    · rw [if_neg (by simp)] at hT
      simp only [wpA_skip, wpA_region, wpA_seq, wpA_cond, condI_false, seqQ_normal, blkQ_normal, endI_mk, andThen_normal, goI_out, goI_ops, opsA_nil, opsA_cons, opsA_guardS, gvI_ft, slotAt_zero, slotAt_succ, stepA_move, stepA_assign, stepA_pick, stepA_alloc, stepA_store, stepA_binOp, stepA_extract, thenV_some, thenH_some, thenS_some, pickV_false, extV_zero, extV_succ, eval_tmp, eval_const, put_some, put_none, aBin_add, absV_int, absV_bool, aStore_eq, storeGo_ptr, aAlloc_eq, get_push_new, set_push, Nat.reduceEqDiff, Option.map_some, if_true, if_false, zc_80, zt_80, f19, hcl, hst, hw]
      refine hid_mk ⟨x + 1, ⟨f3, f18, rfl, hlt, ?_, kH.trans (k2.mono fun _ h => False.elim h) fun _ _ h => h⟩, by omega⟩
      rw [hT]
      exact nd2
    · simp only [wpA_region, wpA_seq, seqQ_normal, goI_out, goI_ops, opsA_nil, opsA_cons, opsA_guardS, gvI_same, slotAt_zero, slotAt_succ, stepA_move, stepA_assign, stepA_alloc, stepA_load, stepA_store, stepA_extract, stepA_call, thenV_some, thenH_some, thenS_some, extV_zero, extV_succ, eval_tmp, put_some, put_none, aLoad_eq, aPlace_ptr, aStore_eq, storeGo_ptr, aAlloc_eq, get_push_new, set_push, Nat.reduceEqDiff, List.map_cons, List.map_nil, Option.map_some, if_true, if_false, lt_80, zc_80, zt_80, f3, hcl, hst, g2, dd, hld]
      refine callI_pure cal39 (pFollows _ (h1.n + 1) h1.n k cl ep es nd2 a) ?_
      cases hf : folB ep es a
      · rw [hf, if_neg (by simp)] at hT
        simp only [wpA_skip, wpA_region, wpA_cond, condI_false, seqQ_normal, blkQ_normal, endI_mk, andThen_normal, goI_out, goI_ops, opsA_nil, opsA_cons, stepA_move, stepA_pick, stepA_binOp, thenV_some, pickV_true, eval_tmp, eval_const, put_some, put_none, aBin_add, absV_int, absV_bool, Nat.reduceEqDiff, if_true, if_false, f19, hw]
        refine hid_mk ⟨x + 1, ⟨f3, f18, rfl, hlt, ?_, kH.trans (k2.mono fun _ h => False.elim h) fun _ _ h => h⟩, by omega⟩
        rw [hT]
        exact nd2
      · rw [hf, if_pos (show (true && true) = true from rfl)] at hT
        simp only [wpA_region, wpA_cond, condI_true, seqQ_normal, goI_out, goI_ops, opsA_nil, opsA_cons, stepA_move, stepA_pick, stepA_load, stepA_call, thenV_some, pickV_true, eval_tmp, eval_const, put_some, put_none, absV_bool, aLoad_eq, aPlace_ptr, Nat.reduceEqDiff, List.map_cons, List.map_nil, if_true, if_false, lt_80, f3, g2, dd, hld]
        refine callI_of cal40 (sApply _ (h1.n + 1) h1.n k cl ep es nd2 a (by omega)) fun r3 h3 ⟨nd3, k3⟩ => ?_
        simp only [wpA_region, seqQ_normal, blkQ_normal, endI_mk, andThen_normal, goI_out, goI_ops, opsA_nil, opsA_cons, stepA_move, stepA_binOp, thenV_some, eval_tmp, eval_const, put_some, put_none, aBin_add, absV_int, Nat.reduceEqDiff, if_true, if_false, f19, hw]
        refine hid_mk ⟨x + 1, ⟨f3, f18, rfl, hlt, ?_, (kH.trans (k2.mono fun _ h => False.elim h) fun _ _ h => h).trans k3 fun _ _ h => h⟩, by omega⟩
        rw [hT]
        exact nd3
  · have d1 : decide ((x : Int) < ((l.length : Nat) : Int)) = false := by rw [decide_eq_false_iff_not]; omega
    have hxl : l.take x = l := by rw [List.take_of_length_le (by omega)]
    rw [hxl] at nd
    simp only [wpA_region, wpA_seq, wpA_cond, wpA_exit, wpA_ret, condI_false, seqQ_normal, seqQ_exit, blkQ_exit, endI_mk, goE, andThen_exit, goI_out, goI_ops, opsA_nil, opsA_cons, stepA_move, stepA_assign, stepA_binOp, thenV_some, eval_tmp, put_some, aBin_lss, Nat.reduceEqDiff, if_true, if_false, f3, f18, f19, d1, retA_ret, Try.results15, resultsA_1]
    refine hid_mk ⟨h1.n + 1, h1.n, k, j, v1, pv, rfl, ⟨nd, sg, fun hh => hnp _ hh (.inl rfl), fun hh => hnp _ hh (.inr rfl)⟩, i1, by omega, by omega, hk, hj, hp, ?_⟩
    exact (k1.trans ((kp.mono fun _ h => False.elim h)) fun _ _ h => h).trans kH fun q hq hh => by omega
end Go.Proofs.Ytlbekgogjlchjaa.Pk
namespace Go.Proofs.Ytlbekgogjlchjaa.Pk
open Go Go.Proofs Go.Proofs.Ytlbekgogjlchjaa.Ab
set_option linter.unusedVariables false
set_option linter.unusedSimpArgs false
def appS (s : NSt) (x : Act) : NSt := (appE s.1 x, appC s.2.2 s.2.1 x, appK s.2.2 s.2.1 x)
/-- What belongs to a node. -/
def NodP (a m k j i : Nat) (v pv : V) : Nat → Prop := fun q => q = a ∨ q = m ∨ SegP k j i v pv q
theorem IsNode.keep {h h' : AHeap} {a m k j i : Nat} {room safe torn : Int} {bs : List Nat} {v pv : V} {l : List (List Nat)} {s : NSt} (d : IsNode h a m k j i room bs safe v pv l torn s) {own : Nat → Prop} (hk : Keep h h' own) (hne : ∀ q, NodP a m k j i v pv q → ¬ own q) : IsNode h' a m k j i room bs safe v pv l torn s :=
  ⟨d.nod.keep hk (hne a (.inl rfl)) (hne m (.inr (.inl rfl))), d.seg.keep hk fun q hq => hne q (.inr (.inr hq)), d.na, d.nm⟩
theorem IsNode.keepN {h h' : AHeap} {a m k j i : Nat} {room safe torn : Int} {bs : List Nat} {v pv : V} {l : List (List Nat)} {s : NSt} (d : IsNode h a m k j i room bs safe v pv l torn s) (hk : Keep h h' none_) : IsNode h' a m k j i room bs safe v pv l torn s := d.keep hk fun _ _ h => h
theorem IsNode.parts_lt {h : AHeap} {a m k j i : Nat} {room safe torn : Int} {bs : List Nat} {v pv : V} {l : List (List Nat)} {s : NSt} (d : IsNode h a m k j i room bs safe v pv l torn s) : ∀ q, NodP a m k j i v pv q → q < h.n := fun q hq => by
  rcases hq with hq | hq | hq
  · rw [hq]; exact d.nod.lt
  · rw [hq]; exact d.nod.ml
  · exact d.seg.parts_lt q hq
def okAct (x : Act) : Prop := (0 ≤ x.kind ∧ x.kind < 2 ^ 62) ∧ (0 ≤ x.epoch ∧ x.epoch < 2 ^ 62) ∧ (0 ≤ x.at_ ∧ x.at_ < 2 ^ 62) ∧ x.bytes.length ≤ 2048
theorem payN_len (x : Act) (ho : okAct x) : (payN x).length ≤ 2 ^ 40 := by
  obtain ⟨h1, h2, h3, h4⟩ := ho
  have e1 := enc_le x.kind.toNat (by omega)
  have e2 := enc_le x.epoch.toNat (by omega)
  have e3 := enc_le x.at_.toNat (by omega)
  have e4 := enc_le x.bytes.length (by omega)
  unfold payN encBytes
  split <;> simp only [List.length_append] <;> omega
set_option maxRecDepth 10000 in
theorem nDo (h : AHeap) (a m k j i : Nat) (room safe torn : Int) (bs : List Nat) (v pv : V) (l : List (List Nat)) (s : NSt) (d : IsNode h a m k j i room bs safe v pv l torn s) (hl : l.length ≤ 2 ^ 30) (x : Act) (ho : okAct x) :
    SCalls Try.prog 42 [.ptr a 0, .agg (actE x)] h (fun r h' => r = .int .i64 (putBad room bs (payN x)) ∧
      if putBad room bs (payN x) = 0 then ∃ v' pv', IsNode h' a m k j i room (bs ++ frame (payN x)) ((bs ++ frame (payN x)).length : Nat) v' pv' (l ++ [payN x]) torn (appS s x) ∧ NewP h i v v' ∧ (idOf pv' = idOf pv ∨ ∀ y, idOf pv' = some y → h.n ≤ y) ∧ Keep h h' (NodP a m k j i v pv)
      else IsNode h' a m k j i room bs safe v pv l torn s ∧ Keep h h' none_) := by
  have k0 : Keep h (h.push (.cells (actE x) 80 none)) none_ := Keep.push _ _ _
  have d0 := d.keepN k0
  have g0 : (h.push (.cells (actE x) 80 none)).get h.n = .cells (actE x) 80 none := get_push_new
  have q0 : (h.push (.cells (actE x) 80 none)).n = h.n + 1 := rfl
  have dd : dropC (.cells (actE x) 80 none) 0 = some (actE x) := rfl
  have hld : loadGo (some (some 4)) (some (actE x)) = some (.agg (actE x)) := rfl
  have hcl : (V.agg (actE x)).cells = some (actE x) := rfl
  have plt := d.parts_lt
  have hpl := payN_len x ho
  refine SCalls.enterI (c := _) Try.func42 rfl (by kernel_rfl) (by simp) ?_
  simp only [wpA_region, wpA_seq, wpA_draw, seqQ_normal, goI_out, goI_ops, opsA_nil, opsA_cons, stepA_assign, stepA_box, thenH_some, eval_tmp, eval_const, enterF_zero, enterF_succ, absV_int, aBox_eq, Option.map_some, hcl]
  generalize h.push (.cells (actE x) 80 none) = H0 at *
  have v0 := d0.nod.get
  refine SWp.drawnS (fun q => SegP k j i v pv q) [6] (.q 0 (.q 1 (.q 2 (.q 3 (.q 4 (.c 5 (.a 6 (.q 7 .done)))))))) (by kernel_rfl) (by kernel_rfl) (by kernel_rfl) ?_
  have f1 : SegP k j i v pv a = False := eq_false d.na
  have f2 : SegP k j i v pv h.n = False := eq_false fun hh => by have := plt h.n (.inr (.inr hh)); omega
  simp only [mOk_move, mOk_nilCheck, mOk_fieldAddr, mOk_load, mOkV_ptr, nne2, nne3, nne4, nne1', nne3', not_false_eq_true, siI_q, sqI_some, implies_true, qI_nil, qI_cons, thenQ_some, q_move, q_load, q_nilCheck, q_fieldAddr, goI_mk, nilV_ptr, eval_tmp, put_some, enterF_zero, enterF_succ, aField_eq, fieldGo_ptr, aLoad_eq, loadGo_one, aPlace_ptr, dropC_cells, List.getElem?_cons_zero, List.getElem?_cons_succ, Nat.reduceEqDiff, Nat.reduceAdd, reduceCtorEq, Nat.add_zero, Nat.zero_add, Nat.zero_le, List.length_cons, List.length_nil, List.drop_zero, true_and, if_true, if_false, ft_78_0, lt_74, lt_80, v0, g0, dd, hld, f1, f2]
  refine siI_c rfl rfl rfl (fun h' _ => pPayload x h' (by have := ho.2.2.2; omega) ho.1 ho.2.1 ho.2.2.1) ?_
  simp only [nne2, nne3, nne4, nne1', nne2', siI_a, saI_some, opsA_cons, stepA_call, eval_tmp, put_some, enterF_succ, List.getElem?_cons_zero, List.getElem?_cons_succ, Nat.reduceEqDiff, List.map_cons, List.map_nil, if_true, if_false]
  refine callI_of cal63 (sPut H0 k j i room safe torn bs v pv l d0.seg hl (payN x) hpl) fun r1 h1 ⟨e1, hp⟩ => ?_
  subst e1
  by_cases hP : putBad room bs (payN x) = 0
  case neg =>
    have c1 : (putBad room bs (payN x) != 0) = true := by simp [hP]
    rw [if_neg hP] at hp
    subst hp
    simp only [mOk_assign, nne2, nne3, nne4, nne1', nne2', nne3', siI_done, siI_q, sqI_some, implies_true, qI_nil, qI_cons, q_assign, wpA_region, wpA_seq, wpA_cond, wpA_ret, condI_true, seqQ_normal, seqQ_ret, endI_mk, goI_out, goI_ops, goI_mk, opsA_nil, opsA_cons, stepA_move, stepA_assign, stepA_binOp, thenV_some, eval_tmp, eval_const, put_some, enterF_succ, aBin_neq, absV_int, List.getElem?_cons_zero, List.getElem?_cons_succ, Bool.false_eq_true, Nat.reduceEqDiff, true_and, if_true, if_false, c1, retA_ret, Try.results42, resultsA_1, wpA_region, wpA_seq, wpA_cond, wpA_ret, condI_true, seqQ_normal, seqQ_ret, endI_mk, goI_out, goI_ops, goI_mk, opsA_nil, opsA_cons, stepA_move, stepA_assign, stepA_binOp, thenV_some, eval_tmp, eval_const, put_some, enterF_succ, aBin_neq, absV_int, List.getElem?_cons_zero, List.getElem?_cons_succ, Bool.false_eq_true, Nat.reduceEqDiff, true_and, if_true, if_false]
    refine hid_mk ⟨rfl, ?_⟩
    rw [if_neg hP]
    exact ⟨d0, k0⟩
  rw [if_pos hP] at hp
  obtain ⟨v1, pv1, s1, n1, p1, k1⟩ := hp
  have nd1 := d0.nod.keep k1 d.na d.nm
  have va1 := nd1.get
  have b1 := (k1.get h.n (by omega) (by rw [f2]; exact id)).trans g0
  have c1 : ((0 : Int) != 0) = false := rfl
  have q1 := k1.n
  rw [hP]
  simp only [mOk_assign, nne2, nne3, nne4, nne1', nne2', nne3', siI_done, siI_q, sqI_some, implies_true, qI_nil, qI_cons, q_assign, wpA_skip, wpA_region, wpA_seq, wpA_cond, condI_false, seqQ_normal, goI_out, goI_ops, goI_mk, opsA_nil, opsA_cons, stepA_move, stepA_load, stepA_nilCheck, stepA_binOp, stepA_fieldAddr, stepA_call, thenV_some, nilV_ptr, eval_tmp, eval_const, put_some, enterF_zero, enterF_succ, aBin_neq, absV_int, aField_eq, fieldGo_ptr, aLoad_eq, loadGo_one, aPlace_ptr, dropC_cells, List.getElem?_cons_zero, List.getElem?_cons_succ, bne_self_eq_false, Bool.false_eq_true, Nat.reduceEqDiff, Nat.reduceAdd, reduceCtorEq, List.map_cons, List.map_nil, Nat.add_zero, Nat.zero_add, Nat.zero_le, List.length_cons, List.length_nil, List.drop_zero, true_and, if_true, if_false, ft_78_0, lt_74, va1, wpA_skip, wpA_region, wpA_seq, wpA_cond, condI_false, seqQ_normal, goI_out, goI_ops, goI_mk, opsA_nil, opsA_cons, stepA_move, stepA_load, stepA_nilCheck, stepA_binOp, stepA_fieldAddr, stepA_call, thenV_some, nilV_ptr, eval_tmp, eval_const, put_some, enterF_zero, enterF_succ, aBin_neq, absV_int, aField_eq, fieldGo_ptr, aLoad_eq, loadGo_one, aPlace_ptr, dropC_cells, List.getElem?_cons_zero, List.getElem?_cons_succ, bne_self_eq_false, Bool.false_eq_true, Nat.reduceEqDiff, Nat.reduceAdd, reduceCtorEq, List.map_cons, List.map_nil, Nat.add_zero, Nat.zero_add, Nat.zero_le, List.length_cons, List.length_nil, List.drop_zero, true_and, if_true, if_false]
  refine callI_of cal65 (sSync h1 k j i room _ torn _ v1 pv1 _ s1) fun r2 h2 ⟨s2, k2⟩ => ?_
  have sp1 : ∀ q, SegP k j i v1 pv1 q → SegP k j i v pv q ∨ H0.n ≤ q := fun q hq => by
    rcases hq with hq | hq | hq | hq | hq
    · exact .inl (.inl hq)
    · exact .inl (.inr (.inl hq))
    · exact .inl (.inr (.inr (.inl hq)))
    · rcases n1 with n1 | n1
      · exact .inl (.inr (.inr (.inr (.inl (n1 ▸ hq)))))
      · exact .inr (n1 q hq)
    · rcases p1 with p1 | p1
      · exact .inl (.inr (.inr (.inr (.inr (p1 ▸ hq)))))
      · exact .inr (p1 q hq)
  have na1 : ¬ SegP k j i v1 pv1 a := fun hh => (sp1 a hh).elim d.na fun e => by have := d.nod.lt; omega
  have nm1 : ¬ SegP k j i v1 pv1 m := fun hh => (sp1 m hh).elim d.nm fun e => by have := d.nod.ml; omega
  have nb1 : ¬ SegP k j i v1 pv1 h.n := fun hh => (sp1 h.n hh).elim (fun e => by rw [f2] at e; exact e) fun e => by omega
  have ip : ∀ q, Parts i v1 q → SegP k j i v1 pv1 q := fun q hq => hq.elim (fun e => .inr (.inr (.inl e))) fun e => .inr (.inr (.inr (.inl e)))
  have nd2 := nd1.keep k2 (fun e => na1 (ip _ e)) (fun e => nm1 (ip _ e))
  have va2 := nd2.get
  have b2 := (k2.get h.n (by omega) (fun e => nb1 (ip _ e))).trans b1
  simp only [wpA_region, wpA_seq, seqQ_normal, goI_out, goI_ops, opsA_nil, opsA_cons, stepA_move, stepA_load, stepA_call, thenV_some, eval_tmp, put_some, enterF_zero, enterF_succ, aLoad_eq, aPlace_ptr, Nat.reduceEqDiff, reduceCtorEq, List.map_cons, List.map_nil, if_true, if_false, lt_80, b2, dd, hld]
  refine callI_of cal40 (sApply h2 a m k _ _ _ nd2 x (by have := ho.2.2.2; omega)) fun r3 h3 ⟨nd3, k3⟩ => ?_
  have s3 := s2.keep k3 fun q hq hh => by
    rcases hh with hh | hh
    · subst hh; exact na1 hq
    · subst hh; exact nm1 hq
  simp only [wpA_region, wpA_seq, wpA_ret, seqQ_normal, endI_mk, goI_out, goI_ops, opsA_nil, opsA_cons, stepA_assign, eval_const, put_some, enterF_succ, absV_int, Nat.reduceEqDiff, if_true, if_false, retA_ret, Try.results42, resultsA_1]
  refine hid_mk ⟨rfl, ?_⟩
  rw [if_pos rfl]
  refine ⟨v1, pv1, ⟨nd3, s3, na1, nm1⟩, ?_, ?_, ?_⟩
  · rcases n1 with n1 | n1
    · exact .inl n1
    · exact .inr fun q hq => by have := n1 q hq; omega
  · rcases p1 with p1 | p1
    · exact .inl p1
    · exact .inr fun q hq => by have := p1 q hq; omega
  · refine (((k0.mono fun _ h => False.elim h).trans k1 fun q _ hq => .inr (.inr hq)).trans k2 fun q hlt hq => ?_).trans k3 fun q _ hq => ?_
    · rcases sp1 q (ip q hq) with e | e
      · exact .inr (.inr e)
      · omega
    · exact hq.elim .inl fun e => .inr (.inl e)
end Go.Proofs.Ytlbekgogjlchjaa.Pk
namespace Go.Proofs.Ytlbekgogjlchjaa.Pk
open Go Go.Proofs Go.Proofs.Ytlbekgogjlchjaa.Ab
set_option linter.unusedVariables false
set_option linter.unusedSimpArgs false
theorem strB_list (l : List Nat) : (strB l).toList = l.map fun n => UInt8.ofNat n := by
  rw [ByteArray.toList_eq, strB, strOfNums_data, List.map_map]
  rfl

theorem strB_eq {a b : List Nat} (ha : ∀ n ∈ a, n < 256) (hb : ∀ n ∈ b, n < 256) : ((strB a).toList == (strB b).toList) = decide (a = b) := by
  rw [strB_list, strB_list, Bool.eq_iff_iff]
  simp only [beq_iff_eq, decide_eq_true_eq]
  refine ⟨fun h => ?_, fun h => by rw [h]⟩
  have h2 := congrArg (List.map UInt8.toNat) h
  rw [List.map_map, List.map_map] at h2
  have e : ∀ l : List Nat, (∀ n ∈ l, n < 256) → l.map (UInt8.toNat ∘ fun n => UInt8.ofNat n) = l := fun l hl => by
    conv => rhs; rw [← List.map_id l]
    refine List.map_congr_left fun n hn => ?_
    have := hl n hn
    simp
    omega
  rw [e a ha, e b hb] at h2
  exact h2
theorem pEqual (x y : List Nat) (h : AHeap) (hx : ∀ n ∈ x, n < 256) (hy : ∀ n ∈ y, n < 256) : Pure Try.prog 45 [.imm x.length (bytesV x), .imm y.length (bytesV y)] h (.bool (decide (x = y))) := by
  refine SCalls.enterI (c := _) Try.func45 rfl (by kernel_rfl) (by simp) ?_
  have e := strB_eq hx hy
  simp only [wpA_region, wpA_seq, wpA_ret, seqQ_normal, endI_mk, goI_out, goI_ops, opsA_nil, opsA_cons, stepA_move, stepA_assign, stepA_binOp, stepA_convert, thenV_some, thenC_some, eval_tmp, eval_const, put_some, enterF_zero, enterF_succ, aBin_str_eql, absV_bool, Nat.reduceEqDiff, reduceCtorEq, if_true, if_false, convB, e, retA_ret, Try.results45, resultsA_1]
  exact hid_mk ⟨rfl, rfl⟩
theorem nEpoch (h : AHeap) (a m k cl : Nat) (ep : Int) (es : Ces) (d : IsNod h a m k ep es cl) : Pure Try.prog 18 [.ptr a 0] h (.int .i64 ep) := by
  have v0 := d.get
  refine SCalls.enterI (c := _) Try.func18 rfl (by kernel_rfl) (by simp) ?_
  simp only [wpA_skip, wpA_region, wpA_seq, wpA_cond, wpA_ret, condI_false, seqQ_normal, endI_mk, goI_out, goI_ops, opsA_nil, opsA_cons, stepA_move, stepA_assign, stepA_load, stepA_nilCheck, stepA_binOp, stepA_fieldAddr, thenV_some, nilV_ptr, eval_tmp, eval_const, put_some, enterF_zero, enterF_succ, ptr_nil_eql, absV_int, absV_pnil, aField_eq, fieldGo_ptr, aLoad_eq, loadGo_one, aPlace_ptr, dropC_cells, Nat.reduceEqDiff, Nat.reduceAdd, Nat.reduceLeDiff, reduceCtorEq, Nat.zero_add, List.length_cons, List.length_nil, List.drop_zero, List.drop_succ_cons, if_true, if_false, ft_78_1, kt_28, lt_3, v0, retA_ret, Try.results18, resultsA_1]
  exact hid_mk ⟨rfl, rfl⟩
/-- What a write answers at once; none: it is done. -/
def wrI (s : NSt) (ep at_ : Int) (b : List Nat) : Option Int :=
  if mayWr ⟨1, ep, at_, b⟩ = false then some 2 else if ep < s.1 then some 7 else
  match kget s.2.1 at_ with
  | some c => if ep ≤ c.epoch then (if c.epoch = ep ∧ c.bytes = b then some 0 else some 12) else none
  | none => none
set_option maxRecDepth 10000 in
theorem nWrite (h : AHeap) (a m k j i : Nat) (room safe torn : Int) (bs : List Nat) (v pv : V) (l : List (List Nat)) (s : NSt) (d : IsNode h a m k j i room bs safe v pv l torn s) (hl : l.length ≤ 2 ^ 30)
    (ep at_ : Int) (b : List Nat) (hb : ∀ n ∈ b, n < 256) (hbl : b.length ≤ 2 ^ 50) (hc : ∀ c, kget s.2.1 at_ = some c → ∀ n ∈ c.bytes, n < 256) :
    SCalls Try.prog 17 [.ptr a 0, .int .i64 ep, .int .i64 at_, .imm b.length (bytesV b)] h (fun r h' => match wrI s ep at_ b with
      | some e => r = .int .i64 e ∧ IsNode h' a m k j i room bs safe v pv l torn s ∧ Keep h h' none_
      | none => r = .int .i64 (putBad room bs (payN ⟨1, ep, at_, b⟩)) ∧
        if putBad room bs (payN ⟨1, ep, at_, b⟩) = 0 then ∃ v' pv', IsNode h' a m k j i room (bs ++ frame (payN ⟨1, ep, at_, b⟩)) ((bs ++ frame (payN ⟨1, ep, at_, b⟩)).length : Nat) v' pv' (l ++ [payN ⟨1, ep, at_, b⟩]) torn (appS s ⟨1, ep, at_, b⟩) ∧ NewP h i v v' ∧ (idOf pv' = idOf pv ∨ ∀ y, idOf pv' = some y → h.n ≤ y) ∧ Keep h h' (NodP a m k j i v pv)
        else IsNode h' a m k j i room bs safe v pv l torn s ∧ Keep h h' none_) := by
  have k0 : Keep h (h.push (.cells (actE ⟨1, ep, at_, b⟩) 80 none)) none_ := Keep.push _ _ _
  have d0 := d.keepN k0
  have g0 : (h.push (.cells (actE ⟨1, ep, at_, b⟩) 80 none)).get h.n = .cells (actE ⟨1, ep, at_, b⟩) 80 none := get_push_new
  have q0 : (h.push (.cells (actE ⟨1, ep, at_, b⟩) 80 none)).n = h.n + 1 := rfl
  have dd : dropC (.cells (actE ⟨1, ep, at_, b⟩) 80 none) 0 = some (actE ⟨1, ep, at_, b⟩) := rfl
  have hld : loadGo (some (some 4)) (some (actE ⟨1, ep, at_, b⟩)) = some (.agg (actE ⟨1, ep, at_, b⟩)) := rfl
  have hae : [V.int .i64 1, .int .i64 ep, .int .i64 at_, .imm b.length (bytesV b)] = actE ⟨1, ep, at_, b⟩ := rfl
  have hcl : (V.agg (actE ⟨1, ep, at_, b⟩)).cells = some (actE ⟨1, ep, at_, b⟩) := rfl
  have hst : setC (some 4) (AObj.cells [.int .i64 0, .int .i64 0, .int .i64 0, .snil] 80 none) 0 (actE ⟨1, ep, at_, b⟩) = some (.cells (actE ⟨1, ep, at_, b⟩) 80 none) := by
    rw [setC_row (n := 4) rfl rfl, if_pos (by decide)]; rfl
  have v0 := d0.nod.get
  refine SCalls.enterI (c := _) Try.func17 rfl (by kernel_rfl) (by simp) ?_
  simp only [wpA_skip, wpA_region, wpA_seq, wpA_cond, condI_false, seqQ_normal, goI_out, goI_ops, opsA_nil, opsA_cons, stepA_move, stepA_assign, stepA_alloc, stepA_build, stepA_load, stepA_store, stepA_binOp, stepA_call, thenV_some, thenH_some, thenS_some, eval_tmp, eval_const, put_some, put_none, enterF_zero, enterF_succ, ptr_nil_eql, absV_int, absV_pnil, cells_int, cells_imm, aLoad_eq, aPlace_ptr, aStore_eq, storeGo_ptr, setAll_nil, setAll_cons, aAlloc_eq, aBuild_go, aFill_nil, aFill_cons, fillGo_some, buildGo_struct, get_push_new, set_push, List.getElem?_cons_zero, List.getElem?_cons_succ, Nat.reduceEqDiff, Nat.reduceAdd, Nat.reduceLeDiff, reduceCtorEq, List.map_cons, List.map_nil, Option.map_some, Nat.zero_add, List.length_cons, List.length_nil, List.set_cons_zero, List.set_cons_succ, and_self, if_true, if_false, Nat.le_refl, kt_28, lt_80, pl_80, zc_80, zt_80, hae, hcl, hst, g0, dd, hld]
  refine callI_pure cal44 (pMayWrite ⟨1, ep, at_, b⟩ _ hbl) ?_
  generalize h.push (.cells (actE ⟨1, ep, at_, b⟩) 80 none) = H0 at *
  cases hm : mayWr ⟨1, ep, at_, b⟩
  · have hW : wrI s ep at_ b = some 2 := by unfold wrI; rw [if_pos hm]
    simp only [wpA_region, wpA_seq, wpA_cond, wpA_ret, condI_true, seqQ_normal, seqQ_ret, endI_mk, goI_out, goI_ops, opsA_nil, opsA_cons, stepA_assign, stepA_unOp, thenV_some, eval_tmp, eval_const, put_some, put_none, enterF_succ, aUn_not, absV_int, Nat.reduceEqDiff, if_true, if_false, Bool.not_false, retA_ret, Try.results17, resultsA_1]
    rw [hW]
    exact hid_mk ⟨rfl, d0, k0⟩
  have hok : okAct ⟨1, ep, at_, b⟩ := by
    have hm' := hm
    unfold mayWr mayEp at hm'
    simp only [Bool.and_eq_true, decide_eq_true_eq] at hm'
    obtain ⟨⟨⟨m1, m2⟩, m3, m4⟩, m5⟩ := hm'
    exact ⟨by simp only; omega, by simp only; omega, by simp only; omega, m5⟩
  by_cases hlt : ep < s.1
  · have hW : wrI s ep at_ b = some 7 := by unfold wrI; rw [if_neg (by rw [hm]; decide), if_pos hlt]
    simp only [wpA_skip, wpA_region, wpA_seq, wpA_cond, wpA_ret, condI_true, condI_false, seqQ_normal, seqQ_ret, endI_mk, goI_out, goI_ops, opsA_nil, opsA_cons, stepA_move, stepA_assign, stepA_load, stepA_nilCheck, stepA_binOp, stepA_unOp, stepA_fieldAddr, thenV_some, nilV_ptr, eval_tmp, eval_const, put_some, put_none, enterF_zero, enterF_succ, aBin_lss, aUn_not, absV_int, aField_eq, fieldGo_ptr, aLoad_eq, loadGo_one, aPlace_ptr, dropC_cells, decide_true, Nat.reduceEqDiff, Nat.reduceAdd, Nat.reduceLeDiff, reduceCtorEq, Nat.zero_add, List.length_cons, List.length_nil, List.drop_zero, List.drop_succ_cons, if_true, if_false, Bool.not_true, ft_78_1, lt_3, v0, hlt, retA_ret, Try.results17, resultsA_1]
    rw [hW]
    exact hid_mk ⟨rfl, d0, k0⟩
  have lk := lookCel d0.nod.map at_
  have plt := d.parts_lt
  have fin : ∀ (H1 h' : AHeap), Keep h H1 none_ → (if putBad room bs (payN ⟨1, ep, at_, b⟩) = 0 then ∃ v' pv', IsNode h' a m k j i room (bs ++ frame (payN ⟨1, ep, at_, b⟩)) ((bs ++ frame (payN ⟨1, ep, at_, b⟩)).length : Nat) v' pv' (l ++ [payN ⟨1, ep, at_, b⟩]) torn (appS s ⟨1, ep, at_, b⟩) ∧ NewP H1 i v v' ∧ (idOf pv' = idOf pv ∨ ∀ y, idOf pv' = some y → H1.n ≤ y) ∧ Keep H1 h' (NodP a m k j i v pv)
      else IsNode h' a m k j i room bs safe v pv l torn s ∧ Keep H1 h' none_) →
      (if putBad room bs (payN ⟨1, ep, at_, b⟩) = 0 then ∃ v' pv', IsNode h' a m k j i room (bs ++ frame (payN ⟨1, ep, at_, b⟩)) ((bs ++ frame (payN ⟨1, ep, at_, b⟩)).length : Nat) v' pv' (l ++ [payN ⟨1, ep, at_, b⟩]) torn (appS s ⟨1, ep, at_, b⟩) ∧ NewP h i v v' ∧ (idOf pv' = idOf pv ∨ ∀ y, idOf pv' = some y → h.n ≤ y) ∧ Keep h h' (NodP a m k j i v pv)
        else IsNode h' a m k j i room bs safe v pv l torn s ∧ Keep h h' none_) := fun H1 h' kx hp => by
    have qx := kx.n
    by_cases hP : putBad room bs (payN ⟨1, ep, at_, b⟩) = 0
    · rw [if_pos hP] at hp ⊢
      obtain ⟨v', pv', n1, n2, n3, n4⟩ := hp
      refine ⟨v', pv', n1, ?_, ?_, (kx.mono fun _ h => False.elim h).trans n4 fun _ _ h => h⟩
      · exact n2.elim .inl fun e => .inr fun q hq => by have := e q hq; omega
      · exact n3.elim .inl fun e => .inr fun q hq => by have := e q hq; omega
    · rw [if_neg hP] at hp ⊢
      exact ⟨hp.1, kx.trans hp.2 fun _ _ h => h⟩
  cases hg : kget s.2.1 at_ with
  | none =>
    have hW : wrI s ep at_ b = none := by unfold wrI; rw [if_neg (by rw [hm]; decide), if_neg hlt, hg]
    rw [hg] at lk
    simp only [wpA_skip, wpA_region, wpA_seq, wpA_cond, condI_false, seqQ_normal, goI_out, goI_ops, opsA_nil, opsA_cons, opsA_guardS, gvI_ft, slotAt_zero, slotAt_succ, stepA_move, stepA_assign, stepA_pick, stepA_alloc, stepA_load, stepA_store, stepA_nilCheck, stepA_binOp, stepA_unOp, stepA_fieldAddr, stepA_lookup, stepA_extract, thenV_some, thenH_some, thenS_some, pickV_false, nilV_ptr, extV_zero, extV_succ, eval_tmp, eval_const, put_some, put_none, enterF_zero, enterF_succ, aBin_lss, aUn_not, absV_bool, cells_agg, one_int, one_snil, all_nil, all_cons, aField_eq, fieldGo_ptr, aLoad_eq, loadGo_one, aPlace_ptr, dropC_cells, aStore_eq, storeGo_ptr, setC_row, setAll_nil, setAll_cons, aAlloc_eq, get_push_new, set_push, decide_false, Nat.reduceEqDiff, Nat.reduceAdd, Nat.reduceLeDiff, reduceCtorEq, Option.map_some, Nat.zero_add, List.length_cons, List.length_nil, List.drop_zero, List.drop_succ_cons, List.set_cons_zero, List.set_cons_succ, if_true, if_false, Bool.and_self, Bool.not_true, Nat.le_refl, ft_78_1, ft_78_2, lt_3, lt_76, lt_80, zc_39, zt_39, v0, hlt, lk]
    have k1 : Keep H0 (H0.push (.cells [.int .i64 0, .int .i64 0, .snil] 39 none)) none_ := Keep.push _ _ _
    have g1 := (k1.get h.n (by omega) (fun h => h)).trans g0
    have d1 := d0.keepN k1
    generalize H0.push (.cells [.int .i64 0, .int .i64 0, .snil] 39 none) = H1 at *
    simp only [goI_ops, opsA_cons, stepA_call, thenV_some, eval_tmp, put_some, put_none, enterF_succ, Nat.reduceEqDiff, List.map_cons, List.map_nil, if_true, if_false, g1, dd, hld]
    refine callI_of cal42 (nDo H1 a m k j i room safe torn bs v pv l s d1 hl ⟨1, ep, at_, b⟩ hok) fun r h' ⟨e, hp⟩ => ?_
    subst e
    simp only [wpA_ret, seqQ_normal, endI_mk, goI_out, goI_ops, opsA_nil, opsA_cons, stepA_assign, eval_tmp, put_some, put_none, enterF_succ, Nat.reduceEqDiff, if_true, if_false, retA_ret, Try.results17, resultsA_1]
    rw [hW]
    exact hid_mk ⟨rfl, fin H1 h' (k0.trans k1 fun _ _ h => h) hp⟩
  | some c =>
    obtain ⟨ca, ce, cb⟩ := c
    have hcb := hc _ hg
    rw [hg] at lk
    have hst2 : setC (some 3) (AObj.cells [.int .i64 0, .int .i64 0, .snil] 39 none) 0 (celE ⟨ca, ce, cb⟩) = some (.cells (celE ⟨ca, ce, cb⟩) 39 none) := by
      rw [setC_row (n := 3) rfl rfl, if_pos (by decide)]; rfl
    have hcc : (V.agg (celE ⟨ca, ce, cb⟩)).cells = some (celE ⟨ca, ce, cb⟩) := rfl
    have w1d : dropC (.cells (celE ⟨ca, ce, cb⟩) 39 none) 1 = some [.int .i64 ce, .imm cb.length (bytesV cb)] := rfl
    have w2d : dropC (.cells (celE ⟨ca, ce, cb⟩) 39 none) 2 = some [.imm cb.length (bytesV cb)] := rfl
    have l3 : (celE ⟨ca, ce, cb⟩).length = 3 := rfl
    have p1 : List.drop 1 (celE ⟨ca, ce, cb⟩) = [.int .i64 ce, .imm cb.length (bytesV cb)] := rfl
    simp only [wpA_skip, wpA_region, wpA_seq, wpA_cond, condI_false, seqQ_normal, goI_out, goI_ops, opsA_nil, opsA_cons, opsA_guardS, gvI_same, slotAt_zero, slotAt_succ, stepA_move, stepA_assign, stepA_pick, stepA_alloc, stepA_load, stepA_store, stepA_nilCheck, stepA_binOp, stepA_unOp, stepA_fieldAddr, stepA_lookup, stepA_extract, thenV_some, thenH_some, thenS_some, pickV_true, nilV_ptr, extV_zero, extV_succ, eval_tmp, eval_const, put_some, put_none, enterF_zero, enterF_succ, aBin_lss, aBin_geq, aUn_not, absV_bool, aField_eq, fieldGo_ptr, aLoad_eq, loadGo_one, aPlace_ptr, dropC_cells, aStore_eq, storeGo_ptr, aAlloc_eq, get_push_new, set_push, decide_false, Nat.reduceEqDiff, Nat.reduceAdd, Nat.reduceLeDiff, reduceCtorEq, Option.map_some, Nat.zero_add, List.length_cons, List.length_nil, List.drop_zero, List.drop_succ_cons, if_true, if_false, Bool.not_true, ft_39_1, ft_78_1, ft_78_2, lt_3, lt_76, zc_39, zt_39, v0, hlt, lk, hst2, hcc, w1d]
    have k1 : Keep H0 (H0.push (.cells (celE ⟨ca, ce, cb⟩) 39 none)) none_ := Keep.push _ _ _
    have g1 := (k1.get h.n (by omega) (fun h => h)).trans g0
    have w1 : (H0.push (.cells (celE ⟨ca, ce, cb⟩) 39 none)).get H0.n = .cells (celE ⟨ca, ce, cb⟩) 39 none := get_push_new
    have d1 := d0.keepN k1
    have kF := k0.trans k1 fun _ _ h => h
    generalize H0.push (.cells (celE ⟨ca, ce, cb⟩) 39 none) = H1 at *
    by_cases hge : ep ≤ ce
    · by_cases heq : ce = ep
      · have c4 : (ce == ep) = true := by rw [heq]; simp
        simp only [wpA_region, wpA_seq, condI_true, goI_ops, opsA_cons, opsA_guardS, gvI_same, slotAt_zero, slotAt_succ, stepA_move, stepA_load, stepA_binOp, stepA_fieldAddr, stepA_call, thenV_some, eval_tmp, put_some, put_none, enterF_zero, enterF_succ, aBin_eql, aField_eq, fieldGo_ptr, aLoad_eq, loadGo_one, aPlace_ptr, decide_true, Nat.reduceEqDiff, List.map_cons, List.map_nil, Nat.zero_add, if_true, if_false, ft_39_1, ft_39_2, lt_3, lt_30, w1, w1d, w2d, hge, c4]
        refine callI_pure cal45 (pEqual cb b H1 hcb hb) ?_
        by_cases hbb : cb = b
        · have hW : wrI s ep at_ b = some 0 := by unfold wrI; rw [if_neg (by rw [hm]; decide), if_neg hlt, hg]; simp only; rw [if_pos hge, if_pos ⟨heq, hbb⟩]
          simp only [wpA_region, wpA_seq, wpA_cond, wpA_ret, condI_true, seqQ_normal, seqQ_ret, endI_mk, goI_out, goI_ops, opsA_nil, opsA_cons, stepA_assign, stepA_pick, thenV_some, pickV_true, eval_tmp, eval_const, put_some, put_none, enterF_succ, absV_int, absV_bool, decide_true, Nat.reduceEqDiff, if_true, if_false, hbb, decide_true, retA_ret, Try.results17, resultsA_1]
          rw [hW]
          exact hid_mk ⟨rfl, d1, kF⟩
        · have hW : wrI s ep at_ b = some 12 := by unfold wrI; rw [if_neg (by rw [hm]; decide), if_neg hlt, hg]; simp only; rw [if_pos hge, if_neg fun e => hbb e.2]
          have hd : decide (cb = b) = false := decide_eq_false hbb
          simp only [wpA_skip, wpA_region, wpA_seq, wpA_cond, wpA_ret, condI_false, seqQ_normal, seqQ_ret, endI_mk, goI_out, goI_ops, opsA_nil, opsA_cons, stepA_assign, stepA_pick, thenV_some, pickV_true, eval_tmp, eval_const, put_some, put_none, enterF_succ, absV_int, absV_bool, Nat.reduceEqDiff, if_true, if_false, hd, retA_ret, Try.results17, resultsA_1]
          rw [hW]
          exact hid_mk ⟨rfl, d1, kF⟩
      · have c4 : (ce == ep) = false := by rw [beq_eq_false_iff_ne]; exact heq
        have hW : wrI s ep at_ b = some 12 := by unfold wrI; rw [if_neg (by rw [hm]; decide), if_neg hlt, hg]; simp only; rw [if_pos hge, if_neg fun e => heq e.1]
        simp only [wpA_skip, wpA_region, wpA_seq, wpA_cond, wpA_ret, condI_true, condI_false, seqQ_normal, seqQ_ret, endI_mk, goI_out, goI_ops, opsA_nil, opsA_cons, opsA_guardS, gvI_ft, slotAt_zero, slotAt_succ, stepA_move, stepA_assign, stepA_pick, stepA_load, stepA_binOp, stepA_fieldAddr, thenV_some, pickV_false, eval_tmp, eval_const, put_some, put_none, enterF_zero, enterF_succ, aBin_eql, absV_int, absV_bool, aField_eq, fieldGo_ptr, aLoad_eq, loadGo_one, aPlace_ptr, decide_true, Nat.reduceEqDiff, Nat.zero_add, if_true, if_false, ft_39_1, lt_3, w1, w1d, hge, c4, retA_ret, Try.results17, resultsA_1]
        rw [hW]
        exact hid_mk ⟨rfl, d1, kF⟩
    · have hW : wrI s ep at_ b = none := by unfold wrI; rw [if_neg (by rw [hm]; decide), if_neg hlt, hg]; simp only; rw [if_neg hge]
      simp only [wpA_skip, wpA_region, wpA_seq, condI_false, seqQ_normal, goI_ops, opsA_cons, stepA_move, stepA_load, stepA_call, thenV_some, eval_tmp, put_some, put_none, enterF_zero, enterF_succ, aLoad_eq, aPlace_ptr, decide_false, Nat.reduceEqDiff, reduceCtorEq, List.map_cons, List.map_nil, if_true, if_false, lt_80, hge, g1, dd, hld]
      refine callI_of cal42 (nDo H1 a m k j i room safe torn bs v pv l s d1 hl ⟨1, ep, at_, b⟩ hok) fun r h' ⟨e, hp⟩ => ?_
      subst e
      simp only [wpA_ret, seqQ_normal, endI_mk, goI_out, goI_ops, opsA_nil, opsA_cons, stepA_assign, eval_tmp, put_some, put_none, enterF_succ, Nat.reduceEqDiff, if_true, if_false, retA_ret, Try.results17, resultsA_1]
      rw [hW]
      exact hid_mk ⟨rfl, fin H1 h' kF hp⟩
end Go.Proofs.Ytlbekgogjlchjaa.Pk
namespace Go.Proofs.Ytlbekgogjlchjaa.Pk
open Go Go.Proofs Go.Proofs.Ytlbekgogjlchjaa.Ab
set_option linter.unusedVariables false
set_option linter.unusedSimpArgs false
/-- A slot's cell as it is read. -/
def readI (s : NSt) (at_ : Int) : Cel × Int := match kget s.2.1 at_ with | some c => (c, 0) | none => (⟨0, 0, []⟩, 6)
theorem zCast (h : AHeap) (e : Int) : Cast (.tuple [.agg [.int .i64 0, .int .i64 0, .snil], .int .i64 e]) h (.tuple [.agg (celE ⟨0, 0, []⟩), .int .i64 e]) h :=
  Cast.tuple (CastL.cons (Cast.agg (CastL.cons (Cast.refl _ _) (CastL.cons (Cast.refl _ _) (CastL.cons (Cast.snil0 h) (CastL.refl _ _))))) (CastL.refl _ _))
set_option maxRecDepth 10000 in
theorem nRead (h : AHeap) (a m k cl : Nat) (ep : Int) (es : Ces) (d : IsNod h a m k ep es cl) (at_ : Int) (hc : ∀ c, kget es at_ = some c → c.bytes.length ≤ 2 ^ 40) :
    Pure Try.prog 20 [.ptr a 0, .int .i64 at_] h (.tuple [.agg (celE (readI (ep, es, cl) at_).1), .int .i64 (readI (ep, es, cl) at_).2]) := by
  refine Pure.of (Clo.tuple (CloL.cons (Clo.agg (celE_clo _)) (CloL.cons (Clo.int _ _) CloL.nil))) ?_
  have k0 : Keep h (h.push (.cells [.int .i64 0, .int .i64 0, .snil] 39 none)) none_ := Keep.push _ _ _
  have d0 := d.keep k0 (fun h => h) (fun h => h)
  have g0 : (h.push (.cells [.int .i64 0, .int .i64 0, .snil] 39 none)).get h.n = .cells [.int .i64 0, .int .i64 0, .snil] 39 none := get_push_new
  have q0 : (h.push (.cells [.int .i64 0, .int .i64 0, .snil] 39 none)).n = h.n + 1 := rfl
  have v0 := d0.get
  have lk := lookCel d0.map at_
  refine SCalls.enterI (c := _) Try.func20 rfl (by kernel_rfl) (by simp) ?_
  cases hg : kget es at_ with
  | none =>
    have hR : readI (ep, es, cl) at_ = (⟨0, 0, []⟩, 6) := by unfold readI; simp only [hg]
    rw [hg] at lk
    have hst : setC (some 3) (AObj.cells [.int .i64 0, .int .i64 0, .snil] 39 none) 0 [.int .i64 0, .int .i64 0, .snil] = some (.cells [.int .i64 0, .int .i64 0, .snil] 39 none) := by
      rw [setC_row (n := 3) rfl rfl, if_pos (by decide)]; rfl
    simp only [wpA_skip, wpA_region, wpA_seq, wpA_cond, wpA_ret, condI_true, condI_false, seqQ_normal, seqQ_ret, endI_mk, goI_out, goI_ops, opsA_nil, opsA_cons, stepA_move, stepA_assign, stepA_alloc, stepA_build, stepA_load, stepA_store, stepA_nilCheck, stepA_binOp, stepA_unOp, stepA_fieldAddr, stepA_lookup, stepA_extract, thenV_some, thenH_some, thenS_some, nilV_ptr, extV_zero, extV_succ, eval_tmp, eval_const, put_some, put_none, enterF_zero, enterF_succ, aUn_not, ptr_nil_eql, absV_int, absV_pnil, cells_agg, aField_eq, fieldGo_ptr, aLoad_eq, loadGo_one, loadGo_row, aPlace_ptr, dropC_cells, aStore_eq, storeGo_ptr, aAlloc_eq, aBuild_go, aFill_nil, buildGo_struct, push_n, get_push2, get_push2', set_push2, set_push2', Nat.reduceEqDiff, Nat.reduceAdd, Nat.reduceLeDiff, reduceCtorEq, List.map_nil, Option.map_some, Nat.zero_add, Nat.zero_le, List.length_cons, List.length_nil, List.drop_zero, List.drop_succ_cons, List.take_succ_cons, List.take_nil, if_true, if_false, Bool.not_false, Nat.le_refl, ft_78_2, kt_28, lt_39, lt_76, pl_39, zc_39, zt_39, v0, lk, hst, retA_ret, Try.results20, resultsC_2, resultA_tmp, resultA_cell, res2_some]
    rw [hR]
    exact hid_mk ⟨_, zCast _ _, (Keep.push _ _ _).trans (Keep.push _ _ _) (fun _ _ h => h)⟩
  | some c =>
    obtain ⟨ca, ce, cb⟩ := c
    have hR : readI (ep, es, cl) at_ = (⟨ca, ce, cb⟩, 0) := by unfold readI; simp only [hg]
    have hl := hc _ hg
    rw [hg] at lk
    have hst : setC (some 3) (AObj.cells [.int .i64 0, .int .i64 0, .snil] 39 none) 0 (celE ⟨ca, ce, cb⟩) = some (.cells (celE ⟨ca, ce, cb⟩) 39 none) := by
      rw [setC_row (n := 3) rfl rfl, if_pos (by decide)]; rfl
    have hcc : (V.agg (celE ⟨ca, ce, cb⟩)).cells = some (celE ⟨ca, ce, cb⟩) := rfl
    have dd : dropC (.cells (celE ⟨ca, ce, cb⟩) 39 none) 0 = some (celE ⟨ca, ce, cb⟩) := rfl
    have hld : loadGo (some (some 3)) (some (celE ⟨ca, ce, cb⟩)) = some (.agg (celE ⟨ca, ce, cb⟩)) := rfl
    simp only [wpA_skip, wpA_region, wpA_seq, wpA_cond, condI_false, seqQ_normal, goI_out, goI_ops, opsA_nil, opsA_cons, stepA_move, stepA_assign, stepA_alloc, stepA_load, stepA_store, stepA_nilCheck, stepA_binOp, stepA_unOp, stepA_fieldAddr, stepA_lookup, stepA_extract, stepA_call, thenV_some, thenH_some, thenS_some, nilV_ptr, extV_zero, extV_succ, eval_tmp, eval_const, put_some, put_none, enterF_zero, enterF_succ, aUn_not, ptr_nil_eql, absV_int, absV_pnil, aField_eq, fieldGo_ptr, aLoad_eq, loadGo_one, aPlace_ptr, dropC_cells, aStore_eq, storeGo_ptr, aAlloc_eq, push_n, get_push2, set_push2, Nat.reduceEqDiff, Nat.reduceAdd, Nat.reduceLeDiff, reduceCtorEq, List.map_cons, List.map_nil, Option.map_some, Nat.zero_add, List.length_cons, List.length_nil, List.drop_zero, List.drop_succ_cons, if_true, if_false, Bool.not_true, ft_78_2, kt_28, lt_39, lt_76, zc_39, zt_39, v0, lk, hst, hcc, dd, hld]
    refine callI_pure cal46 (pOwn ⟨ca, ce, cb⟩ _ hl) ?_
    simp only [wpA_ret, seqQ_normal, endI_mk, goI_out, goI_ops, opsA_nil, opsA_cons, stepA_assign, stepA_store, thenS_some, eval_tmp, eval_const, put_some, put_none, enterF_succ, absV_int, aLoad_eq, aPlace_ptr, aStore_eq, storeGo_ptr, get_push2', set_push2', Nat.reduceEqDiff, Option.map_some, if_true, if_false, lt_39, zt_39, hst, hcc, dd, hld, retA_ret, Try.results20, resultsC_2, resultA_tmp, resultA_cell, res2_some]
    rw [hR]
    exact hid_mk ⟨_, Cast.refl _ _, (Keep.push _ _ _).trans (Keep.push _ _ _) (fun _ _ h => h)⟩
end Go.Proofs.Ytlbekgogjlchjaa.Pk
namespace Go.Proofs.Ytlbekgogjlchjaa.Pk
open Go Go.Proofs Go.Proofs.Ytlbekgogjlchjaa.Ab
set_option linter.unusedVariables false
set_option linter.unusedSimpArgs false
/-- What holds of a node's state at all times. -/
structure NOk (s : NSt) : Prop where
  st : Stamps (mapK (V.int .i64) celV s.2.1) s.2.2
  nd : KNodup s.2.1
  sm : ∀ e ∈ s.2.1, e.2.2.bytes.length ≤ 2048 ∧ (∀ n ∈ e.2.2.bytes, n < 256) ∧ 0 ≤ e.2.1 ∧ e.2.1 < 4096 ∧ e.2.2.at_ = e.2.1
theorem celE_len (c : Cel) : (celE c).length = 3 := rfl
def topI (l : List Int) : Int := l.foldl (fun t k => max t (k + 1)) 0
theorem topI_snoc (l : List Int) (k : Int) : topI (l ++ [k]) = max (topI l) (k + 1) := by unfold topI; rw [List.foldl_append]; rfl
theorem topI_perm {a b : List Int} (p : a.Perm b) : topI a = topI b := by
  unfold topI
  refine p.foldl_eq' (fun x _ y _ z => ?_) 0
  show max (max z (x + 1)) (y + 1) = max (max z (y + 1)) (x + 1)
  omega
theorem topI_rng : ∀ (l : List Int), (∀ k ∈ l, 0 ≤ k ∧ k < 4096) → 0 ≤ topI l ∧ topI l ≤ 4096 := fun l hl => by
  have go : ∀ (l : List Int) (t : Int), (∀ k ∈ l, 0 ≤ k ∧ k < 4096) → 0 ≤ t ∧ t ≤ 4096 → 0 ≤ l.foldl (fun t k => max t (k + 1)) t ∧ l.foldl (fun t k => max t (k + 1)) t ≤ 4096 := fun l => by
    induction l with
    | nil => intro t _ ht; exact ht
    | cons k l ih =>
      intro t hk ht
      have := hk k (by simp)
      exact ih (max t (k + 1)) (fun q hq => hk q (by simp [hq])) ⟨by omega, by omega⟩
  exact go l 0 hl (by omega)
set_option maxRecDepth 10000 in
theorem nTail (h : AHeap) (a m k : Nat) (s : NSt) (d : IsNod h a m k s.1 s.2.1 s.2.2) (w : NOk s) :
    Pure Try.prog 19 [.ptr a 0] h (.int .i64 (topI (s.2.1.map (·.2.1)))) := by
  refine Pure.val (Clo.int _ _) ?_
  obtain ⟨ep, es, cl⟩ := s
  have st := w.st
  have wnd := w.nd
  have wsm := w.sm
  simp only at d st wnd wsm ⊢
  have v0 := d.get
  have hrg := range_map mt_76 d.map
  have hsn : (es.map (·.1)).Nodup := by
    have := st.2
    rwa [show (mapK (V.int .i64) celV es).map (·.1) = es.map (·.1) from mapK_stamps es] at this
  have hml := d.ml
  refine SCalls.enterI (c := _) Try.func19 rfl (by kernel_rfl) (by simp) ?_
  simp only [wpA_skip, wpA_region, wpA_seq, wpA_cond, wpA_block, wpA_loop, condI_false, seqQ_normal, goI_out, goI_ops, opsA_nil, opsA_cons, stepA_move, stepA_assign, stepA_load, stepA_nilCheck, stepA_binOp, stepA_fieldAddr, stepA_range, thenV_some, thenH_some, nilV_ptr, eval_tmp, eval_const, put_some, enterF_zero, enterF_succ, ptr_nil_eql, absV_int, absV_pnil, aField_eq, fieldGo_ptr, aLoad_eq, loadGo_one, aPlace_ptr, dropC_cells, Nat.reduceEqDiff, Nat.reduceAdd, Nat.reduceLeDiff, reduceCtorEq, Nat.zero_add, List.length_cons, List.length_nil, List.drop_zero, List.drop_succ_cons, if_true, if_false, ft_78_2, kt_28, lt_76, v0, hrg]
  refine SWp.loopG (α := Ces) (fun vis f h' => f 12 = .ptr h.n 0 ∧ h'.get h.n = .iter m cl (vis.map (·.1)) cl ∧ h.n < h'.n ∧ Keep h h' none_ ∧ f 3 = .int .i64 (topI (vis.map (·.2.1))) ∧ (∀ e ∈ vis, e ∈ es) ∧ (vis.map (·.1)).Nodup)
    (fun vis => (remOf (mapK (V.int .i64) celV es) (vis.map (·.1))).length) []
    ⟨rfl, by simp [AHeap.push], by simp only [push_n]; omega, Keep.push _ _ _, rfl, by simp, by simp⟩ ?_
  rintro vis f h2 ⟨f12, gi, n2, k2, f3, hvl, hvn⟩
  have gm : h2.get m = .map (mapK (V.int .i64) celV es) cl := (k2.get m hml (fun h => h)).trans d.map
  refine wpI_sound (by kernel_rfl) ?_
  simp only [wpA_region, wpA_seq, opsA_cons, stepA_next, eval_tmp, f12]
  refine alts_ro gi gm st (fun hleft => ?_) fun e he => ?_
  · have hp := kvis_perm hsn hvn hvl (kvis_all hleft)
    simp only [wpA_region, wpA_seq, wpA_cond, wpA_exit, wpA_ret, condI_false, seqQ_normal, seqQ_exit, blkQ_exit, endI_mk, goE, andThen_exit, goI_out, goI_ops, opsA_nil, opsA_cons, stepA_move, stepA_assign, stepA_extract, thenV_some, extV_zero, eval_tmp, put_some, Nat.reduceEqDiff, if_true, if_false, f3, retA_ret, Try.results19, resultsA_1]
    exact hid_mk ⟨by rw [topI_perm (hp.map _)], k2⟩
  · obtain ⟨x, hx, rfl, hxn⟩ := kvis_next he
    have less := remOf_snoc he
    obtain ⟨n3, hvl2, hvlen⟩ := kvis_snoc hvn hvl hx hxn
    obtain ⟨xs, xk, xc⟩ := x
    obtain ⟨_, _, x0, x1, _⟩ := wsm _ hx
    simp only at less he hxn x0 x1
    have hr := topI_rng (vis.map (·.2.1)) (fun q hq => by
      obtain ⟨e, he, rfl⟩ := List.mem_map.1 hq
      obtain ⟨_, _, y0, y1, _⟩ := wsm e (hvl e he)
      exact ⟨y0, y1⟩)
    generalize hH : h2.set h.n (.iter m cl (vis.map (·.1) ++ [xs]) cl) = H
    have gr : H.get h.n = .iter m cl (vis.map (·.1) ++ [xs]) cl := by rw [← hH]; exact get_set_same
    have kH : Keep h H none_ := by rw [← hH]; exact k2.trans (Keep.set _ _ _) fun q hq e => by omega
    have nH : H.n = h2.n := by rw [← hH]; rfl
    have gmH : H.get m = .map (mapK (V.int .i64) celV es) cl := (kH.get m hml (fun h => h)).trans d.map
    have hen := entry_ro gr gmH st (List.mem_filter.1 he).1
    simp only at hen
    have hw : IntKind.i64.wrap (xk + 1) = xk + 1 := Go.IntWalk.i64_in _ (by omega)
    simp only [wpA_skip, wpA_region, wpA_seq, wpA_cond, wpA_block, condI_true, seqQ_normal, blkQ_normal, endI_mk, andThen_normal, goI_out, goI_ops, opsA_nil, opsA_cons, stepA_move, stepA_assign, stepA_binOp, stepA_entry, stepA_extract, stepA_max, thenV_some, extV_zero, eval_tmp, eval_const, put_some, aBin_add, mmV_max, absV_int, Nat.reduceEqDiff, if_true, if_false, f12, f3, hen, hw]
    refine hid_mk ⟨vis ++ [(xs, xk, xc)], ⟨f12, by rw [gr]; simp, by omega, kH, ?_, hvl2, n3⟩, ?_⟩
    · rw [List.map_append, List.map_cons, List.map_nil, topI_snoc]
      rfl
    · rw [List.map_append]
      exact less
end Go.Proofs.Ytlbekgogjlchjaa.Pk
