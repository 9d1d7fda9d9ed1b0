/-
  What functions of the program do, told of abstract states. Conditions: as each theorem says.
-/
import Derived.Test.YtlbekgogjlchjaaMbC
namespace Go.Proofs.Ytlbekgogjlchjaa.Pk
open Go Go.Proofs Go.Proofs.Ytlbekgogjlchjaa.Ab
set_option linter.unusedVariables false
set_option linter.unusedSimpArgs false
/-! ### The row of merged cells -/
def seqC (m : List Cel) (k : Nat) : Option Cel := m.find? fun c => c.at_ == (k : Int)
def seqLen (m : List Cel) : Nat := match m.getLast? with
  | some c => (c.at_ + 1).toNat
  | none => 0
def seqR (m : List Cel) (n : Nat) : List (List Nat) := (List.range n).map fun k => match seqC m k with
  | some c => c.bytes
  | none => []
def seqV (m : List Cel) (n : Nat) : List V := (List.range n).map fun k => match seqC m k with
  | some c => .imm c.bytes.length (bytesV c.bytes)
  | none => .snil
theorem seqV_len (m : List Cel) (n : Nat) : (seqV m n).length = n := by simp [seqV]
theorem seqR_len (m : List Cel) (n : Nat) : (seqR m n).length = n := by simp [seqR]
theorem seqV_nil (n : Nat) : seqV [] n = List.replicate n .snil := by
  unfold seqV seqC
  refine List.ext_getElem (by simp) fun i h1 h2 => ?_
  simp
theorem seqV_snoc {m : List Cel} {c : Cel} {n a : Nat} (ha : c.at_ = (a : Int)) (hn : ∀ d ∈ m, d.at_ ≠ c.at_) : seqV (m ++ [c]) n = (seqV m n).set a (.imm c.bytes.length (bytesV c.bytes)) := by
  refine List.ext_getElem (by simp [seqV]) fun i h1 h2 => ?_
  rw [List.getElem_set]
  unfold seqV seqC
  simp only [List.getElem_map, List.getElem_range, List.find?_append]
  by_cases e : a = i
  · subst e
    rw [if_pos rfl]
    have : m.find? (fun c => c.at_ == (a : Int)) = none := List.find?_eq_none.2 fun d hd => by have := hn d hd; simp; omega
    rw [this]
    simp [ha]
  · rw [if_neg e]
    have : [c].find? (fun c => c.at_ == (i : Int)) = none := List.find?_eq_none.2 fun d hd => by simp at hd; subst hd; simp; omega
    rw [this, Option.or_none]
theorem seq_cast (m : List Cel) (h : AHeap) : ∀ l : List Nat, CastL (l.map fun k => match seqC m k with | some c => .imm c.bytes.length (bytesV c.bytes) | none => .snil) h (rowV (l.map fun k => match seqC m k with | some c => c.bytes | none => [])) h
  | [] => CastL.refl _ _
  | k :: l => by
    have ih := seq_cast m h l
    unfold rowV at ih ⊢
    rw [List.map_cons, List.map_cons, List.map_cons]
    refine CastL.cons ?_ ih
    cases seqC m k with
    | some c => exact Cast.refl _ _
    | none => exact Cast.snil0 h
theorem pairwise_at {m : List Cel} (up : m.Pairwise fun a b => a.at_ < b.at_) {i : Nat} (hi : i < m.length) : ∀ d ∈ m.take i, d.at_ ≠ m[i].at_ := fun d hd => by
  obtain ⟨j, hj, rfl⟩ := List.getElem_of_mem hd
  rw [List.length_take] at hj
  rw [List.getElem_take]
  have := (List.pairwise_iff_getElem.1 up) j i (by omega) hi (by omega)
  omega
theorem at_lt {m : List Cel} (up : m.Pairwise fun a b => a.at_ < b.at_) {i : Nat} (hi : i < m.length) : m[i].at_ ≤ m[m.length - 1].at_ := by
  by_cases e : i = m.length - 1
  · subst e; exact Int.le_refl _
  · have := (List.pairwise_iff_getElem.1 up) i (m.length - 1) hi (by omega) (by omega)
    omega
theorem cel_ix' {l : List Cel} {k : Nat} (hk : k < l.length) : aIndexAddr Try.prog 33 (.imm l.length (l.flatMap celE)) (.int .i64 (k : Int)) = some (.at (celE l[k] ++ (l.drop (k + 1)).flatMap celE)) := rows_ix celE_len hk ss_33
set_option maxHeartbeats 1000000 in
set_option maxRecDepth 20000 in
theorem pSeq (m : List Cel) (up : m.Pairwise fun a b => a.at_ < b.at_) (hr : ∀ c ∈ m, 0 ≤ c.at_ ∧ c.at_ < 4096) (h : AHeap) :
    SCalls Try.prog 52 [.imm m.length (m.flatMap celE)] h (fun r h' => Acc h h' 30 1 r (rowV (seqR m (seqLen m)))) := by
  refine SCalls.cast ?_
  refine SCalls.enterI (c := _) Try.func52 rfl (by kernel_rfl) (by simp) ?_
  by_cases h0 : m = []
  · subst h0
    have c1 : ((((0 : Nat) : Int)) == 0) = true := rfl
    simp only [wpA_region, wpA_seq, wpA_cond, wpA_ret, condI_true, seqQ_normal, seqQ_ret, endI_mk, goI_out, goI_ops, opsA_nil, opsA_cons, stepA_move, stepA_assign, stepA_binOp, stepA_len, thenV_some, eval_tmp, eval_const, put_some, enterF_zero, enterF_succ, aBin_eql, absV_int, absV_snil, aLen_imm, Nat.reduceEqDiff, reduceCtorEq, List.length_nil, if_true, if_false, kt_33, c1, retA_ret, Try.results52, resultsA_1]
    exact hid_mk ⟨.snil, h, Cast.refl _ _, Acc.nil (Keep.refl _ _)⟩
  have hp : 0 < m.length := List.length_pos_iff.2 h0
  have hml : m.length ≤ 4096 := by
    have h1 : (m.map fun c => c.at_.toNat).Nodup := by
      refine List.pairwise_map.2 (up.imp_of_mem fun {a b} ha hb hab => ?_)
      have := hr a ha; have := hr b hb
      omega
    have h2 := h1.length_le_of_subset (l₂ := List.range 4096) fun x hx => by
      obtain ⟨c, hc, rfl⟩ := List.mem_map.1 hx
      have := hr c hc
      rw [List.mem_range]; omega
    rw [List.length_map, List.length_range] at h2
    exact h2
  have c1 : (((m.length : Nat) : Int) == 0) = false := by rw [beq_eq_false_iff_ne]; omega
  have w1 : IntKind.i64.wrap (((m.length : Nat) : Int) - 1) = ((m.length - 1 : Nat) : Int) := by rw [Go.IntWalk.i64_in _ (by omega)]; omega
  have x1 := cel_ix' (l := m) (k := m.length - 1) (by omega)
  have ld := cel_ld0
  obtain ⟨top, htop⟩ : ∃ t : Nat, m[m.length - 1].at_ = (t : Int) := ⟨m[m.length - 1].at_.toNat, by have := hr _ (List.getElem_mem (h := show m.length - 1 < m.length by omega)); omega⟩
  have htl : top < 4096 := by have := hr _ (List.getElem_mem (h := show m.length - 1 < m.length by omega)); omega
  have w2 : IntKind.i64.wrap (((top : Nat) : Int) + 1) = ((top + 1 : Nat) : Int) := by rw [Go.IntWalk.i64_in _ (by omega)]; rfl
  have hsl : seqLen m = top + 1 := by
    unfold seqLen
    rw [List.getLast?_eq_getElem?, List.getElem?_eq_getElem (by omega)]
    simp only [htop]
    omega
  have hmk : aMake Try.prog 54 (.int .i64 ((top + 1 : Nat) : Int)) (.int .i64 ((top + 1 : Nat) : Int)) h = some (.sl h.n 0 (top + 1) (top + 1), h.push (.cells (List.replicate (top + 1) .snil) 30 none)) := by
    rw [make_go sl_54 (Nat.le_refl _) (by simp only; omega) (by omega), made_one]
  have cc : ∀ c, (V.agg (celE c)).cells = some (celE c) := fun _ => rfl
  have st := cel_store
  have ldl := cel_ld
  simp only [wpA_skip, wpA_region, wpA_seq, wpA_cond, wpA_block, wpA_loop, condI_false, seqQ_normal, goI_out, goI_ops, opsA_nil, opsA_cons, stepA_move, stepA_assign, stepA_load, stepA_binOp, stepA_makeSlice, stepA_fieldAddr, stepA_indexAddr, stepA_len, thenV_some, thenH_some, eval_tmp, eval_const, put_some, enterF_zero, enterF_succ, aBin_add, aBin_sub, aBin_eql, absV_int, absV_snil, aField_eq, fieldGo_at, aLoad_eq, aPlace_at, aLen_imm, Nat.reduceEqDiff, reduceCtorEq, Nat.zero_le, List.drop_zero, if_true, if_false, ft_39_0, kt_33, lt_3, c1, w1, x1, ld, htop, w2, hmk]
  refine SWp.loopG (α := Nat) (fun i f h' => f 3 = .sl h.n 0 (top + 1) (top + 1) ∧ f 18 = .imm m.length (m.flatMap celE) ∧ f 19 = .int .i64 (m.length : Nat) ∧ f 20 = .int .i64 (i : Nat) ∧ i ≤ m.length ∧ Keep h h' none_ ∧ h.n < h'.n ∧ h'.get h.n = .cells (seqV (m.take i) (top + 1)) 30 none) (fun i => m.length - i) 0
    ⟨rfl, rfl, rfl, rfl, Nat.zero_le _, Keep.push _ _ _, Nat.lt_succ_self _, (by rw [List.take_zero, seqV_nil]; exact get_push_new)⟩ ?_
  rintro i f h1 ⟨f3, f18, f19, f20, hi, k1, n1, g1⟩
  refine wpI_sound (by kernel_rfl) ?_
  by_cases hlt : i < m.length
  · have d1 : decide ((i : Int) < ((m.length : Nat) : Int)) = true := decide_eq_true (by omega)
    have hw : IntKind.i64.wrap ((i : Int) + 1) = ((i + 1 : Nat) : Int) := by rw [Go.IntWalk.i64_in _ (by omega)]; rfl
    have y1 := cel_ix' hlt
    have hne := pairwise_at up hlt
    have hle := at_lt up hlt
    have hrg := hr _ (List.getElem_mem hlt)
    have htk := List.take_succ_eq_append_getElem hlt
    generalize m[i] = c at y1 hne hle hrg htk
    obtain ⟨a, ha⟩ : ∃ a : Nat, c.at_ = (a : Int) := ⟨c.at_.toNat, by omega⟩
    have hal : a < top + 1 := by omega
    have kP := k1.then_push (.cells (celE c) 39 none)
    have gP : (h1.push (.cells (celE c) 39 none)).get h1.n = .cells (celE c) 39 none := get_push_new
    have g1P := (get_push_lt (o := .cells (celE c) 39 none) n1).trans g1
    have nP : (h1.push (.cells (celE c) 39 none)).n = h1.n + 1 := rfl
    have f2 := cel_fd2 c
    have l0 := cel_ld0' c
    have dr2 : dropC (AObj.cells (celE c) 39 none) 2 = some [.imm c.bytes.length (bytesV c.bytes)] := rfl
    have dr0 : dropC (AObj.cells (celE c) 39 none) 0 = some (celE c) := rfl
    have x2 : aIndexAddr Try.prog 54 (.sl h.n 0 (top + 1) (top + 1)) (.int .i64 c.at_) = some (.ptr h.n a) := by
      rw [aIndexAddr_eq, ss_54, ixGo_sl, ha, if_pos ⟨by omega, by omega⟩]
      simp
    simp only [wpA_skip, wpA_region, wpA_seq, wpA_cond, wpA_block, condI_true, seqQ_normal, goI_out, goI_ops, opsA_nil, opsA_cons, stepA_move, stepA_alloc, stepA_load, stepA_store, stepA_binOp, stepA_fieldAddr, stepA_indexAddr, thenV_some, thenH_some, thenS_some, eval_tmp, put_some, put_none, aBin_lss, aField_eq, fieldGo_ptr, aLoad_eq, loadGo_row, aPlace_ptr, aPlace_at, dropC_cells, aStore_eq, storeGo_ptr, aAlloc_eq, get_push_new, set_push, Nat.reduceEqDiff, Option.map_some, Nat.add_zero, Nat.zero_le, List.drop_zero, if_true, if_false, ft_39_0, lt_3, lt_39, zc_39, zt_39, f3, f18, f19, f20, d1, y1, ldl, cc, st]
    generalize h1.push (.cells (celE c) 39 none) = hP at kP gP g1P nP ⊢
    have s2 : setC (some 1) (AObj.cells (seqV (m.take i) (top + 1)) 30 none) a [.imm c.bytes.length (bytesV c.bytes)] = some (.cells (seqV (m.take (i + 1)) (top + 1)) 30 none) := by
      rw [setC_one rfl, if_pos (by rw [seqV_len]; exact hal), htk, seqV_snoc ha hne]
    simp only [wpA_region, seqQ_normal, blkQ_normal, endI_mk, andThen_normal, goI_out, goI_ops, opsA_nil, opsA_cons, stepA_move, stepA_load, stepA_store, stepA_binOp, stepA_fieldAddr, stepA_indexAddr, thenV_some, thenS_some, eval_tmp, eval_const, put_some, put_none, aBin_add, absV_int, cells_imm, aField_eq, fieldGo_ptr, aLoad_eq, loadGo_one, aPlace_ptr, aStore_eq, storeGo_ptr, Nat.reduceEqDiff, Option.map_some, Nat.zero_add, if_true, if_false, ft_39_2, lt_30, zt_30, f20, gP, dr2, l0, x2, g1P, s2, hw]
    exact hid_mk ⟨i + 1, ⟨f3, f18, f19, rfl, hlt, kP.setNew (Nat.le_refl _) _, (show h.n < hP.n by omega), get_set_same⟩, by omega⟩
  · have d1 : decide ((i : Int) < ((m.length : Nat) : Int)) = false := decide_eq_false (by omega)
    rw [List.take_of_length_le (by omega)] at g1
    simp only [wpA_region, wpA_seq, wpA_cond, wpA_exit, wpA_ret, condI_false, seqQ_normal, seqQ_exit, blkQ_exit, endI_mk, goE, andThen_exit, goI_out, goI_ops, opsA_nil, opsA_cons, stepA_move, stepA_assign, stepA_binOp, thenV_some, eval_tmp, put_some, aBin_lss, Nat.reduceEqDiff, if_true, if_false, f3, f19, f20, d1, retA_ret, Try.results52, resultsA_1]
    refine hid_mk ⟨_, _, Cast.cellC (h1 := h1) g1 (seq_cast m h1 (List.range (top + 1))) g1 (by unfold rowV seqV; simp) _, ?_⟩
    rw [hsl]
    refine ⟨.inr ⟨h.n, top + 1, top + 1, _, none, rfl, n1, get_set_same, by unfold rowV seqR; simp, by unfold rowV; rw [List.take_of_length_le (by simp)]; rfl, .inl ⟨by simp only [unk]; omega, by unfold rowV; simp, Nat.le_refl _⟩⟩, k1.setNew (Nat.le_refl _) _, fun k hk => by simp only [idOf, Option.some.injEq] at hk; omega⟩
end Go.Proofs.Ytlbekgogjlchjaa.Pk
namespace Go.Proofs.Ytlbekgogjlchjaa.Pk
open Go Go.Proofs Go.Proofs.Ytlbekgogjlchjaa.Ab
set_option linter.unusedVariables false
set_option linter.unusedSimpArgs false
/-! ### Rows written, step by step -/
theorem wRow_cons {room : Int} {n : Nat} {ep : Int} {rc : Nat → Bool} (b : List Nat) (r : List (List Nat)) (at_ : Nat) (nd : Nds) : wRow room n ep rc (b :: r) at_ nd = if (wrL room n ep (at_ : Int) b rc nd).2 = true then wRow room n ep rc r (at_ + 1) (wrL room n ep (at_ : Int) b rc nd).1 else ((wrL room n ep (at_ : Int) b rc nd).1, false) := rfl
theorem wRow_stop {room : Int} {n : Nat} {ep : Int} {rc : Nat → Bool} : ∀ (a b : List (List Nat)) (at_ : Nat) (nd : Nds), (wRow room n ep rc a at_ nd).2 = false → wRow room n ep rc (a ++ b) at_ nd = wRow room n ep rc a at_ nd
  | [], b, at_, nd, h => by cases h
  | x :: a, b, at_, nd, h => by
    rw [wRow_cons] at h
    rw [List.cons_append, wRow_cons, wRow_cons]
    split
    · rename_i h1
      rw [if_pos h1] at h
      exact wRow_stop a b (at_ + 1) _ h
    · rfl
theorem wRow_snoc {room : Int} {n : Nat} {ep : Int} {rc : Nat → Bool} : ∀ (a : List (List Nat)) (b : List Nat) (at_ : Nat) (nd : Nds), (wRow room n ep rc a at_ nd).2 = true → wRow room n ep rc (a ++ [b]) at_ nd = wrL room n ep ((at_ + a.length : Nat) : Int) b rc (wRow room n ep rc a at_ nd).1
  | [], b, at_, nd, h => by
    rw [List.nil_append, wRow_cons]
    simp only [List.length_nil, Nat.add_zero]
    show _ = wrL room n ep (at_ : Int) b rc nd
    split
    · rename_i h1
      show ((wrL room n ep (at_ : Int) b rc nd).1, true) = _
      rw [← h1]
    · rename_i h1
      have : (wrL room n ep (at_ : Int) b rc nd).2 = false := by simpa using h1
      rw [← this]
  | x :: a, b, at_, nd, h => by
    rw [wRow_cons] at h
    split at h
    · rename_i h1
      have ih := wRow_snoc a b (at_ + 1) (wrL room n ep (at_ : Int) x rc nd).1 h
      rw [List.cons_append, wRow_cons, if_pos h1, ih, wRow_cons, if_pos h1, List.length_cons]
      have e : at_ + 1 + a.length = at_ + (a.length + 1) := by omega
      rw [e]
    · cases h
theorem seqR_get {m : List Cel} {n k : Nat} (h : k < (seqR m n).length) : (seqR m n)[k] = match seqC m k with | some c => c.bytes | none => [] := by
  simp only [seqR, List.getElem_map, List.getElem_range]
  all_goals (cases seqC m k <;> rfl)
/-! ### What merged cells tell -/
theorem seqC_some {m : List Cel} (up : m.Pairwise fun a b => a.at_ < b.at_) {c : Cel} (hc : c ∈ m) {k : Nat} (hk : c.at_ = (k : Int)) : seqC m k = some c := by
  unfold seqC
  cases hf : m.find? (fun c => c.at_ == (k : Int)) with
  | none =>
    have := List.find?_eq_none.1 hf c hc
    simp [hk] at this
  | some d =>
    have h1 := List.find?_some hf
    have h2 := List.mem_of_find?_eq_some hf
    simp only [beq_iff_eq] at h1
    obtain ⟨i, hi, rfl⟩ := List.getElem_of_mem hc
    obtain ⟨j, hj, rfl⟩ := List.getElem_of_mem h2
    by_cases e : i = j
    · subst e; rfl
    · rcases Nat.lt_or_ge i j with h3 | h3
      · have := (List.pairwise_iff_getElem.1 up) i j hi hj h3; omega
      · have := (List.pairwise_iff_getElem.1 up) j i hj hi (by omega); omega
theorem rowIs_of {rows : List (List Cel)} {vt : Int → List Cel} (hv : ∀ k, atOf rows.flatten k = vt k) {out : List Cel} (w : IsMerge rows.flatten out) (hr : ∀ c ∈ out, 0 ≤ c.at_ ∧ c.at_ < 4096) : RowIs vt (seqR out (seqLen out)) := by
  have hmem : ∀ c, c ∈ out ↔ bestOf (vt c.at_) = some c := fun c => by rw [w.mem, hv]
  have hat : ∀ k c, bestOf (vt k) = some c → c ∈ out ∧ c.at_ = k := fun k c h => by
    have h1 := bestOf_mem h
    rw [← hv] at h1
    have h2 := (atOf_mem.1 h1).2
    exact ⟨(hmem c).2 (by rw [h2]; exact h), h2⟩
  have hlast : ∀ c ∈ out, c.at_ < (seqLen out : Int) := fun c hc => by
    obtain ⟨i, hi, rfl⟩ := List.getElem_of_mem hc
    have := at_lt w.up hi
    have h2 := hr _ (List.getElem_mem (h := show out.length - 1 < out.length by omega))
    unfold seqLen
    rw [List.getLast?_eq_getElem?, List.getElem?_eq_getElem (by omega)]
    simp only
    omega
  refine ⟨fun k hk => ?_, fun k hk => ?_, ?_⟩
  · rw [seqR_get]
    cases hb : bestOf (vt (k : Int)) with
    | some c =>
      obtain ⟨h1, h2⟩ := hat _ _ hb
      rw [seqC_some w.up h1 h2]
    | none =>
      have : seqC out k = none := List.find?_eq_none.2 fun c hc => by
        intro he
        have he' : c.at_ = (k : Int) := by simpa using he
        have := (hmem c).1 hc
        rw [he', hb] at this
        cases this
      rw [this]
  · rw [seqR_len] at hk
    cases hz : vt (k : Int) with
    | nil => rfl
    | cons d l =>
      obtain ⟨c, hc⟩ := bestOf_ne (show vt (k : Int) ≠ [] by rw [hz]; simp)
      obtain ⟨h1, h2⟩ := hat _ _ hc
      have := hlast c h1
      omega
  · rw [seqR_len]
    by_cases ho : out = []
    · left; subst ho; rfl
    · right
      have hp : 0 < out.length := List.length_pos_iff.2 ho
      have hm := List.getElem_mem (h := show out.length - 1 < out.length by omega)
      have h2 := hr _ hm
      have hs : seqLen out = (out[out.length - 1].at_ + 1).toNat := by
        unfold seqLen
        rw [List.getLast?_eq_getElem?, List.getElem?_eq_getElem (by omega)]
      have h3 : ((seqLen out - 1 : Nat) : Int) = out[out.length - 1].at_ := by omega
      rw [h3]
      intro h4
      have := (hmem _).1 hm
      rw [h4] at this
      cases this
theorem seqR_ok {out : List Cel} (hr : ∀ c ∈ out, c.bytes.length ≤ 2048 ∧ ∀ x ∈ c.bytes, x < 256) (n : Nat) : ∀ b ∈ seqR out n, b.length ≤ 2048 ∧ ∀ x ∈ b, x < 256 := fun b hb => by
  unfold seqR at hb
  obtain ⟨k, _, rfl⟩ := List.mem_map.1 hb
  cases hs : seqC out k with
  | none => simp
  | some c => exact hr c (List.mem_of_find?_eq_some hs)
theorem seqLen_le {out : List Cel} (hr : ∀ c ∈ out, 0 ≤ c.at_ ∧ c.at_ < 4096) : seqLen out ≤ 4096 := by
  unfold seqLen
  cases hl : out.getLast? with
  | none => simp
  | some c => have := hr c (List.mem_of_getLast? hl); simp only; omega
/-! ### A log -/
open Classical in
noncomputable def owT (ow : Nat → Nat) (P : Nat → Prop) (t : Nat) : Nat → Nat := fun x => if P x then t else ow x
theorem owT_yes {ow : Nat → Nat} {P : Nat → Prop} {t x : Nat} (h : P x) : owT ow P t x = t := by unfold owT; rw [if_pos h]
theorem owT_no {ow : Nat → Nat} {P : Nat → Prop} {t x : Nat} (h : ¬ P x) : owT ow P t x = ow x := by unfold owT; rw [if_neg h]
theorem NodesS.tag {h : AHeap} {room : Int} {n : Nat} {rs : Nat → NR} {nd : Nds} {ow : Nat → Nat} (w : NodesS h room n rs nd ow) {P : Nat → Prop} {t : Nat} (hp : ∀ x, P x → ow x < 5 ∧ x < h.n) : NodesS h room n rs nd (owT ow P t) :=
  ⟨w.nd, fun q hq x hx => by
    have h1 := w.ond q hq x hx
    rw [owT_no fun hh => by have := (hp x hh).1; omega]
    exact h1, fun x hx => by
    by_cases e : P x
    · exact (hp x e).2
    · rw [owT_no e] at hx; exact w.old x hx⟩
structure LogS (h0 h : AHeap) (L : Nat) (room : Int) (n : Nat) (rs : Nat → NR) (dv nv pv : V) (ow : Nat → Nat) (s : LS) : Prop where
  keep : Keep h0 h none_
  new : ∀ x, ow x ≠ 0 → h0.n ≤ x
  owL : ow L = 1
  get : h.get L = .cells [dv, nv, .bool s.op, .int .i64 s.ep, pv] 94 none
  dk : Own h 24 1 dv (ptrs (fun q => (rs q).i) n)
  nk : Own h 28 1 nv (ptrs (fun q => (rs q).a) n)
  pk : Own h 30 1 pv (rowV s.row)
  owd : ∀ x, idOf dv = some x → ow x = 2
  own_ : ∀ x, idOf nv = some x → ow x = 3
  owp : ∀ x, idOf pv = some x → ow x = 4
  ns : NodesS h room n rs s.nd ow
  rok : ∀ b ∈ s.row, b.length ≤ 2048 ∧ ∀ x ∈ b, x < 256
  rl : s.row.length ≤ 4096
theorem LogS.lt {h0 h : AHeap} {L : Nat} {room : Int} {n : Nat} {rs : Nat → NR} {dv nv pv : V} {ow : Nat → Nat} {s : LS} (w : LogS h0 h L room n rs dv nv pv ow s) : L < h.n := w.ns.old L (by rw [w.owL]; decide)
theorem LogS.on {h0 h h' : AHeap} {L : Nat} {room : Int} {n : Nat} {rs : Nat → NR} {dv nv pv : V} {ow : Nat → Nat} {s : LS} (w : LogS h0 h L room n rs dv nv pv ow s) (k : Keep h h' none_) : LogS h0 h' L room n rs dv nv pv ow s :=
  ⟨w.keep.trans' k, w.new, w.owL, (k.get L w.lt fun hh => hh).trans w.get, w.dk.keepN k, w.nk.keepN k, w.pk.keepN k, w.owd, w.own_, w.owp, w.ns.on k fun x hx => hx.elim, w.rok, w.rl⟩
/-- Behind a step of the nodes. -/
theorem LogS.after {h0 h h' : AHeap} {L : Nat} {room : Int} {n : Nat} {rs rs' : Nat → NR} {dv nv pv : V} {ow ow' : Nat → Nat} {s : LS} {nd' : Nds} (w : LogS h0 h L room n rs dv nv pv ow s) (sm : Same h h' n rs rs' ow ow') (ns : NodesS h' room n rs' nd' ow') : LogS h0 h' L room n rs' dv nv pv ow' { s with nd := nd' } := by
  have k := sm.keep
  have kn := w.keep.n
  have old : ∀ x, ow x ≠ 0 → ow x < 5 → ow' x = ow x ∧ ¬ 5 ≤ ow x := fun x h1 h2 => ⟨sm.ow x (w.ns.old x h1), by omega⟩
  refine ⟨w.keep.trans k fun x hx hh => by have hh' : 5 ≤ ow x := hh; have := w.new x (by omega); omega, fun x hx => ?_, (old L (by rw [w.owL]; decide) (by rw [w.owL]; decide)).1.trans w.owL, (k.get L w.lt (by rw [w.owL]; decide)).trans w.get, ?_, ?_, w.pk.keep k fun x hx => by rw [w.owp x hx]; decide, fun x hx => ?_, fun x hx => ?_, fun x hx => ?_, ns, w.rok, w.rl⟩
  · by_cases hl : x < h.n
    · rw [sm.ow x hl] at hx; exact w.new x hx
    · omega
  · rw [ptrs_congr (g := fun q => (rs q).i) fun q hq => sm.i q hq]
    exact w.dk.keep k fun x hx => by rw [w.owd x hx]; decide
  · rw [ptrs_congr (g := fun q => (rs q).a) fun q hq => sm.a q hq]
    exact w.nk.keep k fun x hx => by rw [w.own_ x hx]; decide
  · have := w.owd x hx; rw [(old x (by omega) (by omega)).1]; exact this
  · have := w.own_ x hx; rw [(old x (by omega) (by omega)).1]; exact this
  · have := w.owp x hx; rw [(old x (by omega) (by omega)).1]; exact this
/-- The log's own block, laid down anew. -/
theorem LogS.setL {h0 h : AHeap} {L : Nat} {room : Int} {n : Nat} {rs : Nat → NR} {dv nv pv : V} {ow : Nat → Nat} {s : LS} (w : LogS h0 h L room n rs dv nv pv ow s) (op : Bool) (ep : Int) :
    LogS h0 (h.set L (.cells [dv, nv, .bool op, .int .i64 ep, pv] 94 none)) L room n rs dv nv pv ow { s with op := op, ep := ep } := by
  have k : ∀ o, Keep h (h.set L o) (· = L) := fun o => Keep.set _ _ _
  have hL := w.new L (by rw [w.owL]; decide)
  refine ⟨w.keep.trans (k _) fun x hx hh => by omega, w.new, w.owL, get_set_same, w.dk.keep (k _) fun x hx hh => ?_, w.nk.keep (k _) fun x hx hh => ?_, w.pk.keep (k _) fun x hx hh => ?_, w.owd, w.own_, w.owp, w.ns.on (k _) fun x hx => by rw [hx, w.owL]; decide, w.rok, w.rl⟩
  · have := w.owd x hx; rw [hh, w.owL] at this; cases this
  · have := w.own_ x hx; rw [hh, w.owL] at this; cases this
  · have := w.owp x hx; rw [hh, w.owL] at this; cases this
/-- Another row of payloads. -/
theorem LogS.setRow {h0 h h1 : AHeap} {L : Nat} {room : Int} {n : Nat} {rs : Nat → NR} {dv nv pv pv' : V} {ow : Nat → Nat} {s : LS} (w : LogS h0 h L room n rs dv nv pv ow s) (k1 : Keep h h1 (isId pv)) {row : List (List Nat)} (o : Own h1 30 1 pv' (rowV row)) (hp : ∀ x, idOf pv' = some x → h0.n ≤ x ∧ (ow x = 0 ∨ ow x = 4)) (rok : ∀ b ∈ row, b.length ≤ 2048 ∧ ∀ x ∈ b, x < 256) (rl : row.length ≤ 4096) :
    LogS h0 (h1.set L (.cells [dv, nv, .bool s.op, .int .i64 s.ep, pv'] 94 none)) L room n rs dv nv pv' (owT ow (isId pv') 4) { s with row := row } := by
  have k : ∀ o, Keep h1 (h1.set L o) (· = L) := fun o => Keep.set _ _ _
  have hL := w.new L (by rw [w.owL]; decide)
  have nn : ∀ x, ow x ≠ 0 → ow x ≠ 4 → ¬ isId pv' x := fun x h1 h2 hh => by have := (hp x hh).2; omega
  have ne : ∀ x, isId pv' x → x ≠ L := fun x hx e => by have := (hp x hx).2; rw [e, w.owL] at this; omega
  have t4 : ∀ x, isId pv x → ow x = 4 := fun x hx => w.owp x hx
  refine ⟨(w.keep.trans k1 fun x hx hh => by have := t4 x hh; have := w.new x (by omega); omega).trans (k _) fun x hx hh => by omega, fun x hx => ?_, (owT_no (nn L (by rw [w.owL]; decide) (by rw [w.owL]; decide))).trans w.owL, get_set_same, (w.dk.keep k1 fun x hx hh => ?_).keep (k _) fun x hx hh => ?_, (w.nk.keep k1 fun x hx hh => ?_).keep (k _) fun x hx hh => ?_, o.keep (k _) fun x hx hh => ne x hx hh, fun x hx => ?_, fun x hx => ?_, fun x hx => owT_yes hx, ((w.ns.on k1 fun x hx => by rw [t4 x hx]; decide).tag (P := isId pv') fun x hx => ⟨by have := (hp x hx).2; omega, o.lt x hx⟩).on (k _) fun x hx => ?_, rok, rl⟩
  · by_cases e : isId pv' x
    · exact (hp x e).1
    · rw [owT_no e] at hx; exact w.new x hx
  · have := w.owd x hx; rw [t4 x hh] at this; cases this
  · have := w.owd x hx; rw [hh, w.owL] at this; cases this
  · have := w.own_ x hx; rw [t4 x hh] at this; cases this
  · have := w.own_ x hx; rw [hh, w.owL] at this; cases this
  · have := w.owd x hx; rw [owT_no (nn x (by omega) (by omega))]; exact this
  · have := w.own_ x hx; rw [owT_no (nn x (by omega) (by omega))]; exact this
  · show owT ow (isId pv') 4 x < 5
    rw [show x = L from hx, owT_no (nn L (by rw [w.owL]; decide) (by rw [w.owL]; decide)), w.owL]; decide
/-- What a log's call leaves as it is: all that belongs to no log. -/
structure LFr (h h' : AHeap) (ow ow' : Nat → Nat) : Prop where
  keep : Keep h h' (fun x => ow x ≠ 0)
  z : ∀ x, x < h.n → ow x = 0 → ow' x = 0
theorem LFr.refl (h : AHeap) (ow : Nat → Nat) : LFr h h ow ow := ⟨Keep.refl _ _, fun _ _ h0 => h0⟩
theorem LFr.trans {h h1 h2 : AHeap} {ow ow1 ow2 : Nat → Nat} (a : LFr h h1 ow ow1) (b : LFr h1 h2 ow1 ow2) : LFr h h2 ow ow2 :=
  ⟨a.keep.trans b.keep fun x hx hh h0 => hh (a.z x hx h0), fun x hx h0 => b.z x (Nat.lt_of_lt_of_le hx a.keep.n) (a.z x hx h0)⟩
theorem LFr.none {h h' : AHeap} (ow : Nat → Nat) (k : Keep h h' none_) : LFr h h' ow ow := ⟨k.up, fun _ _ h0 => h0⟩
theorem LFr.same {h h' : AHeap} {n : Nat} {rs rs' : Nat → NR} {ow ow' : Nat → Nat} (s : Same h h' n rs rs' ow ow') : LFr h h' ow ow' :=
  ⟨s.keep.mono fun x hx h0 => by have : 5 ≤ ow x := hx; omega, fun x hx h0 => (s.ow x hx).trans h0⟩
theorem LFr.set {h : AHeap} {ow : Nat → Nat} {L : Nat} (hL : ow L ≠ 0) (o : AObj) : LFr h (h.set L o) ow ow := ⟨(Keep.set h L o).mono fun x hx => by rw [show x = L from hx]; exact hL, fun _ _ h0 => h0⟩
theorem LFr.tag {h h' : AHeap} {ow ow' : Nat → Nat} (a : LFr h h' ow ow') {P : Nat → Prop} {t : Nat} (hp : ∀ x, x < h.n → ow x = 0 → ¬ P x) : LFr h h' ow (owT ow' P t) :=
  ⟨a.keep, fun x hx h0 => by rw [owT_no (hp x hx h0)]; exact a.z x hx h0⟩
theorem RVal.fr {h h' : AHeap} {ow ow' : Nat → Nat} {rv : V} {l : List Bool} (r : RVal h ow rv l) (f : LFr h h' ow ow') : RVal h' ow' rv l := r.on f.keep (fun _ _ h0 hh => hh h0) f.z
end Go.Proofs.Ytlbekgogjlchjaa.Pk
namespace Go.Proofs.Ytlbekgogjlchjaa.Pk
open Go Go.Proofs Go.Proofs.Ytlbekgogjlchjaa.Ab
set_option linter.unusedVariables false
set_option linter.unusedSimpArgs false
theorem rowV_get {l : List (List Nat)} {i : Nat} (h : i < (rowV l).length) : (rowV l)[i] = .imm (l[i]'(by rw [rowV_len] at h; exact h)).length (bytesV (l[i]'(by rw [rowV_len] at h; exact h))) := by
  simp only [rowV, List.getElem_map]
set_option maxHeartbeats 4000000 in
set_option maxRecDepth 20000 in
theorem logOpen {h0 h : AHeap} {L : Nat} {room : Int} {n : Nat} {rs : Nat → NR} {dv nv pv : V} {ow : Nat → Nat} {s : LS} (w : LogS h0 h L room n rs dv nv pv ow s) (he : 0 ≤ s.ep ∧ s.ep < 2 ^ 40) (hn : n ≤ 2 ^ 10) (reach : List Bool) {rv : V} (rvl : RVal h ow rv reach) (hr : reach.length ≤ 2 ^ 47) :
    SCalls Try.prog 26 [.ptr L 0, rv] h (fun x h' => ∃ s' e rs' pv' ow', OpenR room n (rch reach) s s' e ∧ x = .int .i64 e ∧ LogS h0 h' L room n rs' dv nv pv' ow' s' ∧ s'.ep = s.ep + 1 ∧ LFr h h' ow ow') := by
  have hw : IntKind.i64.wrap (s.ep + 1) = s.ep + 1 := Go.IntWalk.i64_in _ (by omega)
  have gL := w.get
  have d3 : ∀ (a b c d e : V), dropC (AObj.cells [a, b, c, d, e] 94 none) 3 = some [d, e] := fun _ _ _ _ _ => rfl
  have s3 : ∀ (a b c d e x : V), x.one = true → setC (some 1) (AObj.cells [a, b, c, d, e] 94 none) 3 [x] = some (.cells [a, b, c, x, e] 94 none) := fun a b c d e x hx => by rw [setC_one hx]; rfl
  have s2 : ∀ (a b c d e x : V), x.one = true → setC (some 1) (AObj.cells [a, b, c, d, e] 94 none) 2 [x] = some (.cells [a, b, x, d, e] 94 none) := fun a b c d e x hx => by rw [setC_one hx]; rfl
  have s4 : ∀ (a b c d e x : V), x.one = true → setC (some 1) (AObj.cells [a, b, c, d, e] 94 none) 4 [x] = some (.cells [a, b, c, d, x] 94 none) := fun a b c d e x hx => by rw [setC_one hx]; rfl
  have t3 := s3 dv nv (.bool s.op) (.int .i64 s.ep) pv (.int .i64 (s.ep + 1)) rfl
  have t2 := s2 dv nv (.bool s.op) (.int .i64 (s.ep + 1)) pv (.bool false) rfl
  have w1 := w.setL false (s.ep + 1)
  have fr1 := LFr.set (h := h) (ow := ow) (L := L) (by rw [w.owL]; decide) (.cells [dv, nv, .bool false, .int .i64 (s.ep + 1), pv] 94 none)
  refine SCalls.enterI (c := _) Try.func26 rfl (by kernel_rfl) (by simp) ?_
  simp only [wpA_skip, wpA_region, wpA_seq, wpA_cond, condI_false, seqQ_normal, goI_out, goI_ops, opsA_nil, opsA_cons, stepA_move, stepA_assign, stepA_load, stepA_store, stepA_nilCheck, stepA_binOp, stepA_fieldAddr, stepA_call, thenV_some, thenS_some, nilV_ptr, eval_tmp, eval_const, put_some, put_none, enterF_zero, enterF_succ, aBin_add, ptr_nil_eql, absV_int, absV_bool, absV_pnil, cells_int, cells_bool, aField_eq, fieldGo_ptr, aLoad_eq, loadGo_one, aPlace_ptr, aStore_eq, storeGo_ptr, get_set_same, set_set, Nat.reduceEqDiff, reduceCtorEq, List.map_cons, List.map_nil, Option.map_some, Nat.zero_add, if_true, if_false, ft_94_2, ft_94_3, kt_51, lt_3, zt_3, zt_4, gL, d3, t3, t2, hw]
  generalize h.set L (.cells [dv, nv, .bool false, .int .i64 (s.ep + 1), pv] 94 none) = h1 at w1 fr1 ⊢
  refine callI_of cal51 (logSeal w1.ns w1.get ⟨w1.lt, by rw [w1.owL]; decide⟩ w1.nk (fun x hx => ⟨by rw [w1.own_ x hx]; decide, w1.nk.lt x hx⟩) hn reach (rvl.fr fr1) hr) fun x h2 ⟨rows, ex, rs2, ow2, ns2, sm2, rp⟩ => ?_
  subst ex
  have w2 := w1.after sm2 ns2
  have fr2 := fr1.trans (LFr.same sm2)
  simp only at w2
  by_cases hq : n / 2 + 1 ≤ cntN (fineN (nseal room (s.ep + 1)) (rch reach) s.nd) n
  case neg =>
    have c1 : decide (n / 2 + 1 ≤ cntN (fineN (nseal room (s.ep + 1)) (rch reach) s.nd) n) = false := decide_eq_false hq
    simp only [wpA_region, wpA_seq, wpA_cond, wpA_ret, condI_true, seqQ_normal, seqQ_ret, endI_mk, goI_out, goI_ops, opsA_nil, opsA_cons, stepA_move, stepA_assign, stepA_unOp, stepA_extract, thenV_some, extV_zero, extV_succ, eval_tmp, eval_const, put_some, put_none, enterF_succ, aUn_not, absV_int, Nat.reduceEqDiff, if_true, if_false, Bool.not_false, c1, retA_ret, Try.results26, resultsA_1]
    exact hid_mk ⟨_, 8, rs2, pv, ow2, by unfold OpenR; rw [if_neg hq]; exact ⟨rfl, rfl⟩, rfl, w2, rfl, fr2⟩
  have c1 : decide (n / 2 + 1 ≤ cntN (fineN (nseal room (s.ep + 1)) (rch reach) s.nd) n) = true := decide_eq_true hq
  have hsm : smallC rows.flatten := ⟨by
      have h1 := rp.len
      have h2 : n * mostC ≤ 2 ^ 10 * mostC := Nat.mul_le_mul_right _ hn
      exact Nat.le_trans h1 (Nat.le_trans h2 (by unfold mostC; decide)), fun c hc => by have := (rp.sm c hc).1.1; omega⟩
  simp only [wpA_skip, wpA_region, wpA_seq, wpA_cond, condI_false, seqQ_normal, goI_out, goI_ops, opsA_nil, opsA_cons, stepA_move, stepA_assign, stepA_unOp, stepA_extract, stepA_call, thenV_some, extV_zero, extV_succ, eval_tmp, put_some, put_none, enterF_succ, aUn_not, Nat.reduceEqDiff, List.map_cons, List.map_nil, if_true, if_false, Bool.not_true, c1]
  refine callI_of cal53 (mergeI rows hsm (by have := rp.rl; omega) h2) fun x h3 ⟨out, io, k3, ex⟩ => ?_
  subst ex
  have osm : ∀ c ∈ out, (c.bytes.length ≤ 2048 ∧ ∀ x ∈ c.bytes, x < 256) ∧ 0 ≤ c.at_ ∧ c.at_ < 4096 := fun c hc => rp.sm c (io.sub c hc)
  have w3 := w2.on k3
  simp only [goI_ops, opsA_cons, stepA_call, eval_tmp, put_some, put_none, enterF_succ, Nat.reduceEqDiff, List.map_cons, List.map_nil, if_true, if_false]
  refine callI_of cal52 (pSeq out io.up (fun c hc => (osm c hc).2) h3) fun prv h4 acc => ?_
  have w4 := w3.on acc.keep
  have fr4 := (fr2.trans (LFr.none ow2 k3)).trans (LFr.none ow2 acc.keep)
  have newp : ∀ y, idOf prv = some y → h.n ≤ y := fun y hy => by have := acc.new y hy; have := k3.n; have := fr2.keep.n; omega
  have hri := rowIs_of rp.at_ io (fun c hc => (osm c hc).2)
  have hrok := seqR_ok (fun c hc => (osm c hc).1) (seqLen out)
  have hrl := seqLen_le (fun c hc => (osm c hc).2)
  have hrll := seqR_len out (seqLen out)
  generalize seqR out (seqLen out) = row at acc hri hrok hrll
  have hrl' : row.length ≤ 4096 := by omega
  have hlen : ∀ {hh : AHeap}, Own hh 30 1 prv (rowV row) → aLen Try.prog 54 prv hh = some (.int .i64 (row.length : Nat)) := fun {hh} o => by
    have := o.length (by decide) Try.prog (t := 54) kt_54
    rw [Nat.div_one] at this
    unfold rowV at this
    rw [List.length_map] at this
    exact this
  have len4 := hlen acc.own
  have kn23 := w2.keep.n
  simp only [wpA_region, wpA_seq, wpA_block, wpA_loop, seqQ_normal, goI_out, goI_ops, opsA_nil, opsA_cons, stepA_move, stepA_assign, stepA_len, thenV_some, eval_tmp, eval_const, put_some, put_none, enterF_succ, absV_int, Nat.reduceEqDiff, if_true, if_false, len4]
  have kn0 := w4.keep.n
  refine SWp.loopG (α := Nat × (Nat → NR) × (Nat → Nat) × Nds) (fun x f h' => f 0 = .ptr L 0 ∧ f 1 = rv ∧ f 7 = prv ∧ f 33 = prv ∧ f 34 = .int .i64 (row.length : Nat) ∧ f 35 = .int .i64 (x.1 : Nat) ∧ x.1 ≤ row.length ∧
      wRow room n (s.ep + 1) (rch reach) (row.take x.1) 0 (allN (nseal room (s.ep + 1)) (rch reach) n s.nd) = (x.2.2.2, true) ∧ LogS h0 h' L room n x.2.1 dv nv pv x.2.2.1 ⟨x.2.2.2, false, s.ep + 1, s.row⟩ ∧ Own h' 30 1 prv (rowV row) ∧ (∀ y, idOf prv = some y → h0.n ≤ y ∧ x.2.2.1 y = 0) ∧ LFr h h' ow x.2.2.1) (fun x => row.length - x.1) (0, rs2, ow2, allN (nseal room (s.ep + 1)) (rch reach) n s.nd)
    ⟨rfl, rfl, rfl, rfl, rfl, rfl, Nat.zero_le _, rfl, w4, acc.own, fun y hy => ⟨by have := acc.new y hy; have := w3.keep.n; omega, w3.ns.zero (acc.new y hy)⟩, fr4⟩ ?_
  rintro ⟨i, rs5, ow5, nd5⟩ f h5 ⟨f0, f1, f7, f33, f34, f35, hi, hwr, w5, o5, t5, fr5⟩
  simp only at f35 hi hwr w5 t5 fr5
  refine wpI_sound (by kernel_rfl) ?_
  by_cases hlt : i < row.length
  · have e1 : decide ((i : Int) < ((row.length : Nat) : Int)) = true := decide_eq_true (by omega)
    have hwi : IntKind.i64.wrap ((i : Int) + 1) = ((i + 1 : Nat) : Int) := by rw [Go.IntWalk.i64_in _ (by omega)]; rfl
    have hk' : i < (rowV row).length := by unfold rowV; rw [List.length_map]; exact hlt
    obtain ⟨j, x1, x2, ⟨rr, x3⟩, _⟩ := own_elem (P := Try.prog) (t := 54) (kk := .i64) ss_54 o5 (k := i) hk'
    have hel : (rowV row)[i] = .imm row[i].length (bytesV row[i]) := rowV_get hk'
    rw [hel] at x3
    have hbi := hrok _ (List.getElem_mem hlt)
    have htk := List.take_succ_eq_append_getElem hlt
    generalize row[i] = b at x3 hbi htk
    have hsn := wRow_snoc (room := room) (n := n) (ep := s.ep + 1) (rc := rch reach) (row.take i) b 0 (allN (nseal room (s.ep + 1)) (rch reach) n s.nd) (by rw [hwr])
    rw [hwr, ← htk, List.length_take, Nat.zero_add, Nat.min_eq_left hi] at hsn
    simp only at hsn
    have hgo := @w5.get
    simp only at hgo
    simp only [wpA_skip, wpA_region, wpA_seq, wpA_cond, wpA_block, condI_true, seqQ_normal, goI_out, goI_ops, opsA_nil, opsA_cons, stepA_move, stepA_assign, stepA_load, stepA_binOp, stepA_indexAddr, stepA_call, thenV_some, eval_tmp, put_some, aBin_lss, aLoad_eq, loadGo_one, aPlace_ptr, Nat.reduceEqDiff, reduceCtorEq, List.map_cons, List.map_nil, if_true, if_false, lt_30, f0, f1, f33, f34, f35, e1, x1, x3]
    refine callI_of cal49 (logWrite w5.ns (i : Int) hbi.2 (by omega) w5.get ⟨w5.lt, by rw [w5.owL]; decide⟩ w5.nk (fun x hx => by rw [w5.own_ x hx]; decide) hn reach (rvl.fr fr5) hr) fun x h6 ⟨ex, rs6, ow6, ns6, sm6⟩ => ?_
    subst ex
    have w6 := w5.after sm6 ns6
    simp only at w6
    cases hok : (wrL room n (s.ep + 1) (i : Int) b (rch reach) nd5).2 with
    | true =>
      simp only [wpA_skip, wpA_region, wpA_cond, condI_false, seqQ_normal, blkQ_normal, endI_mk, andThen_normal, goI_out, goI_ops, opsA_nil, opsA_cons, stepA_move, stepA_binOp, stepA_unOp, thenV_some, eval_tmp, eval_const, put_some, aBin_add, aUn_not, absV_int, Nat.reduceEqDiff, if_true, if_false, Bool.not_true, f35, hwi]
      refine hid_mk ⟨(i + 1, rs6, ow6, (wrL room n (s.ep + 1) (i : Int) b (rch reach) nd5).1), ⟨f0, f1, f7, f33, f34, rfl, hlt, ?_, w6, o5.keep sm6.keep fun y hy => by have := (t5 y hy).2; omega, fun y hy => ⟨(t5 y hy).1, (sm6.ow y (o5.lt y hy)).trans (t5 y hy).2⟩, fr5.trans (LFr.same sm6)⟩, by simp only; omega⟩
      show wRow room n (s.ep + 1) (rch reach) (row.take (i + 1)) 0 _ = _
      rw [hsn, ← hok]
    | false =>
      simp only [wpA_region, wpA_seq, wpA_cond, wpA_ret, condI_true, seqQ_normal, seqQ_ret, blkQ_ret, endI_mk, goE, andThen_ret, goI_out, goI_ops, opsA_nil, opsA_cons, stepA_assign, stepA_unOp, thenV_some, eval_tmp, eval_const, put_some, aUn_not, absV_int, Nat.reduceEqDiff, if_true, if_false, Bool.not_false, retA_ret, Try.results26, resultsA_1]
      have hst := wRow_stop (room := room) (n := n) (ep := s.ep + 1) (rc := rch reach) (row.take (i + 1)) (row.drop (i + 1)) 0 (allN (nseal room (s.ep + 1)) (rch reach) n s.nd) (by rw [hsn]; exact hok)
      rw [List.take_append_drop, hsn] at hst
      refine hid_mk ⟨_, 8, rs6, pv, ow6, ?_, rfl, w6, rfl, fr5.trans (LFr.same sm6)⟩
      unfold OpenR
      rw [if_pos hq]
      refine ⟨row, hri, ?_⟩
      rw [hst, if_neg (by rw [hok]; decide)]
      exact ⟨rfl, rfl⟩
  · have e1 : decide ((i : Int) < ((row.length : Nat) : Int)) = false := decide_eq_false (by omega)
    have hin : i = row.length := by omega
    subst hin
    rw [List.take_length] at hwr
    have g5 := w5.get
    simp only at g5
    have w6 := w5.setRow (Keep.refl _ _) o5 (fun x hx => ⟨(t5 x hx).1, .inl (t5 x hx).2⟩) hrok hrl'
    simp only at w6
    have w7 := w6.setL true (s.ep + 1)
    simp only at w7
    obtain ⟨vc, v1⟩ := one_of_own o5
    have u4 := s4 dv nv (.bool false) (.int .i64 (s.ep + 1)) pv prv v1
    have u2 := s2 dv nv (.bool false) (.int .i64 (s.ep + 1)) prv (.bool true) rfl
    rw [set_set] at w7
    simp only [wpA_region, wpA_seq, wpA_cond, wpA_exit, wpA_ret, condI_false, seqQ_normal, seqQ_exit, blkQ_exit, endI_mk, goE, andThen_exit, goI_out, goI_ops, opsA_nil, opsA_cons, stepA_move, stepA_assign, stepA_store, stepA_nilCheck, stepA_binOp, stepA_fieldAddr, thenV_some, thenS_some, nilV_ptr, eval_tmp, eval_const, put_some, put_none, aBin_lss, absV_int, absV_bool, cells_bool, aField_eq, fieldGo_ptr, aStore_eq, storeGo_ptr, get_set_same, set_set, Nat.reduceEqDiff, reduceCtorEq, Option.map_some, Nat.zero_add, if_true, if_false, ft_94_2, ft_94_4, zt_4, zt_54, f0, f7, f34, f35, e1, g5, vc, u4, u2, retA_ret, Try.results26, resultsA_1]
    refine hid_mk ⟨_, 0, rs5, prv, owT ow5 (isId prv) 4, ?_, rfl, w7, rfl, (fr5.trans (LFr.set (by rw [w5.owL]; decide) _)).tag fun x hx _ hh => by have := newp x hh; omega⟩
    unfold OpenR
    rw [if_pos hq]
    refine ⟨row, hri, ?_⟩
    rw [hwr, if_pos rfl]
    exact ⟨rfl, rfl⟩
end Go.Proofs.Ytlbekgogjlchjaa.Pk
namespace Go.Proofs.Ytlbekgogjlchjaa.Pk
open Go Go.Proofs Go.Proofs.Ytlbekgogjlchjaa.Ab
set_option linter.unusedVariables false
set_option linter.unusedSimpArgs false
theorem logLen {h0 h : AHeap} {L : Nat} {room : Int} {n : Nat} {rs : Nat → NR} {dv nv pv : V} {ow : Nat → Nat} {s : LS} (w : LogS h0 h L room n rs dv nv pv ow s) : Pure Try.prog 33 [.ptr L 0] h (.int .i64 (s.row.length : Nat)) := by
  have gL := w.get
  have d4 : ∀ (a b c d e : V), dropC (AObj.cells [a, b, c, d, e] 94 none) 4 = some [e] := fun _ _ _ _ _ => rfl
  have hl := w.pk.length (by decide) Try.prog (t := 54) kt_54
  rw [Nat.div_one, rowV_len] at hl
  refine SCalls.enterI (c := _) Try.func33 rfl (by kernel_rfl) (by simp) ?_
  simp only [wpA_skip, wpA_region, wpA_seq, wpA_cond, wpA_ret, condI_false, seqQ_normal, endI_mk, goI_out, goI_ops, opsA_nil, opsA_cons, stepA_move, stepA_assign, stepA_load, stepA_nilCheck, stepA_binOp, stepA_fieldAddr, stepA_len, thenV_some, nilV_ptr, eval_tmp, eval_const, put_some, enterF_zero, enterF_succ, ptr_nil_eql, absV_int, absV_pnil, aField_eq, fieldGo_ptr, aLoad_eq, loadGo_one, aPlace_ptr, Nat.reduceEqDiff, reduceCtorEq, Nat.zero_add, if_true, if_false, ft_94_4, kt_51, lt_54, gL, d4, hl, retA_ret, Try.results33, resultsA_1]
  exact hid_mk ⟨rfl, rfl⟩
theorem logEpoch {h0 h : AHeap} {L : Nat} {room : Int} {n : Nat} {rs : Nat → NR} {dv nv pv : V} {ow : Nat → Nat} {s : LS} (w : LogS h0 h L room n rs dv nv pv ow s) : Pure Try.prog 34 [.ptr L 0] h (.int .i64 s.ep) := by
  have gL := w.get
  have d3 : ∀ (a b c d e : V), dropC (AObj.cells [a, b, c, d, e] 94 none) 3 = some [d, e] := fun _ _ _ _ _ => rfl
  refine SCalls.enterI (c := _) Try.func34 rfl (by kernel_rfl) (by simp) ?_
  simp only [wpA_skip, wpA_region, wpA_seq, wpA_cond, wpA_ret, condI_false, seqQ_normal, endI_mk, goI_out, goI_ops, opsA_nil, opsA_cons, stepA_move, stepA_assign, stepA_load, stepA_nilCheck, stepA_binOp, stepA_fieldAddr, thenV_some, nilV_ptr, eval_tmp, eval_const, put_some, enterF_zero, enterF_succ, ptr_nil_eql, absV_int, absV_pnil, aField_eq, fieldGo_ptr, aLoad_eq, loadGo_one, aPlace_ptr, Nat.reduceEqDiff, reduceCtorEq, Nat.zero_add, if_true, if_false, ft_94_3, kt_51, lt_3, gL, d3, retA_ret, Try.results34, resultsA_1]
  exact hid_mk ⟨rfl, rfl⟩
theorem row_at {h : AHeap} {v : V} {l : List (List Nat)} (o : Own h 30 1 v (rowV l)) {i : Nat} (hi : i < l.length) : ∃ j rr, aIndexAddr Try.prog 54 v (.int .i64 (i : Int)) = some (.ptr j i) ∧ dropC (h.get j) i = some (.imm l[i].length (bytesV l[i]) :: rr) := by
  have hk' : i < (rowV l).length := by rw [rowV_len]; exact hi
  obtain ⟨j, x1, x2, ⟨rr, x3⟩, _⟩ := own_elem (P := Try.prog) (t := 54) (kk := .i64) ss_54 o (k := i) hk'
  rw [rowV_get hk'] at x3
  exact ⟨j, rr, x1, x3⟩
theorem row_len {h : AHeap} {v : V} {l : List (List Nat)} (o : Own h 30 1 v (rowV l)) : aLen Try.prog 54 v h = some (.int .i64 (l.length : Nat)) := by
  have hl := o.length (by decide) Try.prog (t := 54) kt_54
  rw [Nat.div_one, rowV_len] at hl
  exact hl
set_option maxRecDepth 10000 in
theorem logGet {h0 h : AHeap} {L : Nat} {room : Int} {n : Nat} {rs : Nat → NR} {dv nv pv : V} {ow : Nat → Nat} {s : LS} (w : LogS h0 h L room n rs dv nv pv ow s) {i : Nat} (hi : i < s.row.length) : Pure Try.prog 32 [.ptr L 0, .int .i64 (i : Int)] h (.tuple [.imm s.row[i].length (bytesV s.row[i]), .int .i64 0]) := by
  have gL := w.get
  have d4 : ∀ (a b c d e : V), dropC (AObj.cells [a, b, c, d, e] 94 none) 4 = some [e] := fun _ _ _ _ _ => rfl
  have c1 : decide ((i : Int) < 0) = false := decide_eq_false (by omega)
  have c2 : decide (((s.row.length : Nat) : Int) ≤ (i : Int)) = false := decide_eq_false (by omega)
  obtain ⟨j, rr, x1, x3⟩ := row_at w.pk hi
  have hb := (w.rok _ (List.getElem_mem hi)).1
  refine SCalls.enterI (c := _) Try.func32 rfl (by kernel_rfl) (by simp) ?_
  simp only [wpA_region, wpA_seq, seqQ_normal, goI_out, goI_ops, opsA_nil, opsA_cons, opsA_guardS, gvI_same, slotAt_zero, slotAt_succ, stepA_move, stepA_assign, stepA_binOp, stepA_call, thenV_some, eval_tmp, eval_const, put_some, enterF_zero, enterF_succ, aBin_lss, absV_int, absV_snil, Nat.reduceEqDiff, reduceCtorEq, List.map_cons, List.map_nil, if_true, if_false, c1]
  refine callI_pure cal33 (logLen w) ?_
  simp only [wpA_skip, wpA_region, wpA_seq, wpA_cond, condI_false, seqQ_normal, goI_out, goI_ops, opsA_nil, opsA_cons, opsA_guardS, gvI_same, slotAt_zero, slotAt_succ, stepA_move, stepA_pick, stepA_load, stepA_nilCheck, stepA_binOp, stepA_fieldAddr, stepA_indexAddr, stepA_call, thenV_some, pickV_false, nilV_ptr, eval_tmp, eval_const, put_some, enterF_zero, enterF_succ, aBin_geq, absV_bool, aField_eq, fieldGo_ptr, aLoad_eq, loadGo_one, aPlace_ptr, Nat.reduceEqDiff, reduceCtorEq, List.map_cons, List.map_nil, Nat.zero_add, if_true, if_false, ft_94_4, lt_30, lt_54, c2, gL, d4, x1, x3]
  refine callI_pure cal50 (pCloneB _ (by omega) h) ?_
  simp only [wpA_ret, seqQ_normal, endI_mk, goI_out, goI_ops, opsA_nil, opsA_cons, stepA_assign, eval_tmp, eval_const, put_some, enterF_succ, absV_int, Nat.reduceEqDiff, if_true, if_false, retA_ret, Try.results32, resultsA_2]
  exact hid_mk ⟨rfl, rfl⟩
set_option maxHeartbeats 1000000 in
set_option maxRecDepth 20000 in
theorem logAppend {h0 h : AHeap} {L : Nat} {room : Int} {n : Nat} {rs : Nat → NR} {dv nv pv : V} {ow : Nat → Nat} {s : LS} (w : LogS h0 h L room n rs dv nv pv ow s) (hn : n ≤ 2 ^ 10) (b : List Nat) (hb : ∀ x ∈ b, x < 256) (reach : List Bool) {rv : V} (rvl : RVal h ow rv reach) (hr : reach.length ≤ 2 ^ 47) :
    SCalls Try.prog 25 [.ptr L 0, .imm b.length (bytesV b), rv] h (fun x h' => x = .tuple [.int .i64 ((appL room n (rch reach) b s).2.1 : Nat), .int .i64 (appL room n (rch reach) b s).2.2] ∧ ∃ rs' pv' ow', LogS h0 h' L room n rs' dv nv pv' ow' (appL room n (rch reach) b s).1 ∧ LFr h h' ow ow') := by
  have gL := w.get
  have d2 : ∀ (a b c d e : V), dropC (AObj.cells [a, b, c, d, e] 94 none) 2 = some [c, d, e] := fun _ _ _ _ _ => rfl
  have d4 : ∀ (a b c d e : V), dropC (AObj.cells [a, b, c, d, e] 94 none) 4 = some [e] := fun _ _ _ _ _ => rfl
  have s2 : ∀ (a b c d e x : V), x.one = true → setC (some 1) (AObj.cells [a, b, c, d, e] 94 none) 2 [x] = some (.cells [a, b, x, d, e] 94 none) := fun a b c d e x hx => by rw [setC_one hx]; rfl
  have s4 : ∀ (a b c d e x : V), x.one = true → setC (some 1) (AObj.cells [a, b, c, d, e] 94 none) 4 [x] = some (.cells [a, b, c, d, x] 94 none) := fun a b c d e x hx => by rw [setC_one hx]; rfl
  refine SCalls.enterI (c := _) Try.func25 rfl (by kernel_rfl) (by simp) ?_
  cases hop : s.op with
  | false =>
    have ha : appL room n (rch reach) b s = (s, 0, 8) := app_shut hop
    rw [hop] at gL
    simp only [wpA_region, wpA_seq, wpA_cond, wpA_ret, condI_true, seqQ_normal, seqQ_ret, endI_mk, goI_out, goI_ops, opsA_nil, opsA_cons, opsA_guardS, gvI_same, slotAt_zero, slotAt_succ, stepA_move, stepA_assign, stepA_pick, stepA_load, stepA_nilCheck, stepA_binOp, stepA_unOp, stepA_fieldAddr, thenV_some, pickV_false, nilV_ptr, eval_tmp, eval_const, put_some, enterF_zero, enterF_succ, aUn_not, ptr_nil_eql, absV_int, absV_bool, absV_pnil, aField_eq, fieldGo_ptr, aLoad_eq, loadGo_one, aPlace_ptr, Nat.reduceEqDiff, reduceCtorEq, Nat.zero_add, if_true, if_false, Bool.not_false, ft_94_2, kt_51, lt_4, gL, d2, retA_ret, Try.results25, resultsA_2]
    rw [ha]
    exact hid_mk ⟨rfl, rs, pv, ow, w, LFr.refl _ _⟩
  | true =>
  rw [hop] at gL
  by_cases hz : b.length = 0
  · have ha : appL room n (rch reach) b s = (s, 0, 2) := app_range hop (.inl hz)
    have c1 : (((b.length : Nat) : Int) == 0) = true := by rw [hz]; rfl
    simp only [wpA_skip, wpA_region, wpA_seq, wpA_cond, wpA_ret, condI_true, condI_false, seqQ_normal, seqQ_ret, endI_mk, goI_out, goI_ops, opsA_nil, opsA_cons, opsA_guardS, gvI_same, gvI_tf, slotAt_zero, slotAt_succ, stepA_move, stepA_assign, stepA_pick, stepA_load, stepA_nilCheck, stepA_binOp, stepA_unOp, stepA_fieldAddr, stepA_len, thenV_some, pickV_true, pickV_false, nilV_ptr, eval_tmp, eval_const, put_some, enterF_zero, enterF_succ, aBin_eql, aUn_not, ptr_nil_eql, absV_int, absV_bool, absV_pnil, aField_eq, fieldGo_ptr, aLoad_eq, loadGo_one, aPlace_ptr, aLen_imm, Nat.reduceEqDiff, reduceCtorEq, Nat.zero_add, if_true, if_false, Bool.not_true, ft_94_2, kt_30, kt_51, lt_4, gL, d2, c1, retA_ret, Try.results25, resultsA_2]
    rw [ha]
    exact hid_mk ⟨rfl, rs, pv, ow, w, LFr.refl _ _⟩
  have c1 : (((b.length : Nat) : Int) == 0) = false := by rw [beq_eq_false_iff_ne]; omega
  by_cases hg : 2048 < b.length
  · have ha : appL room n (rch reach) b s = (s, 0, 2) := app_range hop (.inr hg)
    have c2 : decide ((2048 : Int) < ((b.length : Nat) : Int)) = true := decide_eq_true (by omega)
    simp only [wpA_skip, wpA_region, wpA_seq, wpA_cond, wpA_ret, condI_true, condI_false, seqQ_normal, seqQ_ret, endI_mk, goI_out, goI_ops, opsA_nil, opsA_cons, opsA_guardS, gvI_same, slotAt_zero, slotAt_succ, stepA_move, stepA_assign, stepA_pick, stepA_load, stepA_nilCheck, stepA_binOp, stepA_unOp, stepA_fieldAddr, stepA_len, thenV_some, pickV_false, nilV_ptr, eval_tmp, eval_const, put_some, enterF_zero, enterF_succ, aBin_eql, aBin_gtr, aUn_not, ptr_nil_eql, absV_int, absV_bool, absV_pnil, aField_eq, fieldGo_ptr, aLoad_eq, loadGo_one, aPlace_ptr, aLen_imm, Nat.reduceEqDiff, reduceCtorEq, Nat.zero_add, if_true, if_false, Bool.not_true, ft_94_2, kt_30, kt_51, lt_4, gL, d2, c1, c2, retA_ret, Try.results25, resultsA_2]
    rw [ha]
    exact hid_mk ⟨rfl, rs, pv, ow, w, LFr.refl _ _⟩
  have c2 : decide ((2048 : Int) < ((b.length : Nat) : Int)) = false := decide_eq_false (by omega)
  have len0 := row_len w.pk
  by_cases hf : 4096 ≤ s.row.length
  · have ha : appL room n (rch reach) b s = (s, 0, 3) := by unfold appL; rw [if_neg (by rw [hop]; decide), if_neg (by omega), if_pos hf]
    have c3 : decide ((4096 : Int) ≤ ((s.row.length : Nat) : Int)) = true := decide_eq_true (by omega)
    simp only [wpA_skip, wpA_region, wpA_seq, wpA_cond, wpA_ret, condI_true, condI_false, seqQ_normal, seqQ_ret, endI_mk, goI_out, goI_ops, opsA_nil, opsA_cons, opsA_guardS, gvI_same, slotAt_zero, slotAt_succ, stepA_move, stepA_assign, stepA_pick, stepA_load, stepA_nilCheck, stepA_binOp, stepA_unOp, stepA_fieldAddr, stepA_len, thenV_some, pickV_false, nilV_ptr, eval_tmp, eval_const, put_some, enterF_zero, enterF_succ, aBin_eql, aBin_gtr, aBin_geq, aUn_not, ptr_nil_eql, absV_int, absV_bool, absV_pnil, aField_eq, fieldGo_ptr, aLoad_eq, loadGo_one, aPlace_ptr, aLen_imm, Nat.reduceEqDiff, reduceCtorEq, Nat.zero_add, if_true, if_false, Bool.not_true, ft_94_2, ft_94_4, kt_30, kt_51, lt_4, lt_54, gL, d2, d4, c1, c2, len0, c3, retA_ret, Try.results25, resultsA_2]
    rw [ha]
    exact hid_mk ⟨rfl, rs, pv, ow, w, LFr.refl _ _⟩
  have c3 : decide ((4096 : Int) ≤ ((s.row.length : Nat) : Int)) = false := decide_eq_false (by omega)
  simp only [wpA_skip, wpA_region, wpA_seq, wpA_cond, condI_false, seqQ_normal, goI_out, goI_ops, opsA_nil, opsA_cons, opsA_guardS, gvI_same, slotAt_zero, slotAt_succ, stepA_move, stepA_assign, stepA_pick, stepA_load, stepA_nilCheck, stepA_binOp, stepA_unOp, stepA_fieldAddr, stepA_len, stepA_call, thenV_some, pickV_false, nilV_ptr, eval_tmp, eval_const, put_some, enterF_zero, enterF_succ, aBin_eql, aBin_gtr, aBin_geq, aUn_not, ptr_nil_eql, absV_int, absV_bool, absV_pnil, aField_eq, fieldGo_ptr, aLoad_eq, loadGo_one, aPlace_ptr, aLen_imm, Nat.reduceEqDiff, reduceCtorEq, List.map_cons, List.map_nil, Nat.zero_add, if_true, if_false, Bool.not_true, ft_94_2, ft_94_4, kt_30, kt_51, lt_4, lt_54, gL, d2, d4, c1, c2, len0, c3]
  refine callI_of cal49 (logWrite w.ns (s.row.length : Nat) hb (by omega) w.get ⟨w.lt, by rw [w.owL]; decide⟩ w.nk (fun x hx => by rw [w.own_ x hx]; decide) hn reach rvl hr) fun x h1 ⟨ex, rs1, ow1, ns1, sm1⟩ => ?_
  subst ex
  have w1 := w.after sm1 ns1
  have g1 := w1.get
  simp only [hop] at g1
  have hA : appL room n (rch reach) b s = if (wrL room n s.ep (s.row.length : Nat) b (rch reach) s.nd).2 = true then (⟨(wrL room n s.ep (s.row.length : Nat) b (rch reach) s.nd).1, true, s.ep, s.row ++ [b]⟩, s.row.length, 0)
      else (⟨(wrL room n s.ep (s.row.length : Nat) b (rch reach) s.nd).1, false, s.ep, s.row⟩, 0, 8) := by
    unfold appL; rw [if_neg (by rw [hop]; decide), if_neg (by omega), if_neg hf]
  cases hok : (wrL room n s.ep (s.row.length : Nat) b (rch reach) s.nd).2 with
  | false =>
    rw [if_neg (by rw [hok]; decide)] at hA
    rw [hA]
    have u2 := s2 dv nv (.bool true) (.int .i64 s.ep) pv (.bool false) rfl
    simp only [wpA_region, wpA_seq, wpA_cond, wpA_ret, condI_true, seqQ_normal, seqQ_ret, endI_mk, goI_out, goI_ops, opsA_nil, opsA_cons, stepA_move, stepA_assign, stepA_store, stepA_nilCheck, stepA_unOp, stepA_fieldAddr, thenV_some, thenS_some, nilV_ptr, eval_tmp, eval_const, put_some, put_none, enterF_zero, enterF_succ, aUn_not, absV_int, absV_bool, cells_bool, aField_eq, fieldGo_ptr, aStore_eq, storeGo_ptr, Nat.reduceEqDiff, reduceCtorEq, Option.map_some, Nat.zero_add, if_true, if_false, Bool.not_false, ft_94_2, zt_4, g1, u2, retA_ret, Try.results25, resultsA_2]
    exact hid_mk ⟨rfl, rs1, pv, ow1, w1.setL false s.ep, (LFr.same sm1).trans (LFr.set (by rw [w1.owL]; decide) _)⟩
  | true =>
    rw [if_pos hok] at hA
    rw [hA]
    have hrl := rowV_len s.row
    obtain ⟨v, h2, ea, o2, k2, nw2⟩ := append_elemM (P := Try.prog) sl_54 (by decide) w1.pk (xs := [.imm b.length (bytesV b)]) rfl rfl (fun m hm => by
      change m * 1 = (rowV s.row).length + 1 at hm
      rw [hrl] at hm
      exact ⟨by simp only [lim]; omega, by simp only [lim]; omega⟩)
    have lit : aBuildSlice Try.prog 54 1 [(0, .imm b.length (bytesV b))] h1 = some (.sl h1.n 0 1 1, h1.push (.cells [.imm b.length (bytesV b)] 30 none)) := by rw [buildSlice_go sl_54]; rfl
    have m1 : ¬ idOf pv = some L := fun e => by have := w1.owp L e; rw [w1.owL] at this; cases this
    have m2 : ¬ idOf pv = some h1.n := fun e => by have := w1.pk.lt _ e; omega
    obtain ⟨vc, v1⟩ := one_of_own o2
    have g2 : h2.get L = .cells [dv, nv, .bool true, .int .i64 s.ep, pv] 94 none := (k2.get L w1.lt m1).trans g1
    have u4 := s4 dv nv (.bool true) (.int .i64 s.ep) pv v v1
    have w2 := w1.setRow k2 (row := s.row ++ [b]) (by
      show Own h2 30 1 v (rowV (s.row ++ [b]))
      have : rowV (s.row ++ [b]) = rowV s.row ++ [.imm b.length (bytesV b)] := by unfold rowV; rw [List.map_append]; rfl
      rw [this]; exact o2) (fun x hx => by
      rcases nw2 with e | e
      · rw [e] at hx
        have := w1.owp x hx
        exact ⟨w1.new x (by omega), .inr this⟩
      · have h3 := e x hx
        have := w1.keep.n
        exact ⟨by omega, .inl (w1.ns.zero h3)⟩) (fun c hc => by
      rcases List.mem_append.1 hc with h3 | h3
      · exact w.rok c h3
      · simp at h3; subst h3; exact ⟨by omega, hb⟩) (by rw [List.length_append]; simp; omega)
    simp only [hop] at w2
    simp only [wpA_skip, wpA_seq, wpA_cond, wpA_draw, condI_false, seqQ_normal, goI_out, goI_ops, opsA_nil, opsA_cons, stepA_unOp, thenV_some, eval_tmp, put_some, enterF_succ, aUn_not, Nat.reduceEqDiff, if_true, if_false, Bool.not_true]
    refine SWp.drawnS (fun x => idOf pv = some x) [7, 8, 11] (.q 0 (.q 1 (.q 2 (.q 3 (.q 4 (.q 5 (.c 6 (.e 7 (.e 8 (.q 9 (.q 10 (.a 11 .done))) .stop) .stop)))))))) (by kernel_rfl) (by kernel_rfl) (by kernel_rfl) ?_
    simp only [mOk_move, mOk_nilCheck, mOk_fieldAddr, mOk_load, mOkV_ptr, nne2, nne3, not_false_eq_true, siI_q, sqI_some, implies_true, qI_nil, qI_cons, thenQ_some, q_move, q_load, q_nilCheck, q_fieldAddr, goI_mk, nilV_ptr, eval_tmp, put_some, enterF_zero, enterF_succ, aField_eq, fieldGo_ptr, aLoad_eq, loadGo_one, aPlace_ptr, List.getElem?_cons_zero, List.getElem?_cons_succ, Nat.reduceEqDiff, reduceCtorEq, Nat.zero_add, true_and, if_true, if_false, ft_94_4, lt_54, g1, d4, m1]
    refine siI_c rfl rfl rfl (fun h' _ => pCloneB b (by omega) h') ?_
    simp only [mOk_nilCheck, mOk_fieldAddr, nne2, nne3, nne4, nne1', nne2', nne3', siI_stop, siI_q, siI_a, siI_e, sqI_some, saI_some, seI_some, keepT1, implies_true, qI_nil, qI_cons, thenQ_some, q_nilCheck, q_fieldAddr, goI_ops, goI_mk, opsA_nil, opsA_cons, stepA_buildSlice, stepA_store, stepA_append, thenH_some, nilV_ptr, eval_tmp, put_some, enterF_succ, aField_eq, fieldGo_ptr, aStore_eq, List.getElem?_cons_zero, List.getElem?_cons_succ, Bool.false_eq_true, Nat.reduceEqDiff, List.map_cons, List.map_nil, Nat.zero_add, and_true, true_and, if_true, if_false, ft_94_4, zt_54, lit, ea]
    simp only [nne2, nne3, nne4, nne1', nne2', nne3', siI_done, wpA_region, wpA_seq, wpA_ret, seqQ_normal, endI_mk, goI_out, goI_ops, goI_mk, opsA_nil, opsA_cons, stepA_move, stepA_assign, thenS_some, eval_tmp, eval_const, put_some, put_none, enterF_succ, absV_int, storeGo_ptr, Nat.reduceEqDiff, Option.map_some, if_true, if_false, g2, vc, u4, retA_ret, Try.results25, resultsA_2]
    have fr2 : LFr h1 h2 ow1 ow1 := ⟨k2.mono fun x hx => by rw [w1.owp x hx]; decide, fun _ _ h0 => h0⟩
    exact ⟨k2, hid_mk ⟨rfl, rs1, v, _, w2, (((LFr.same sm1).trans fr2).trans (LFr.set (by rw [w1.owL]; decide) _)).tag fun x hx h0 hh => by
      rcases nw2 with e | e
      · have h3 := w1.owp x (by rw [← e]; exact hh)
        have h4 := sm1.ow x hx
        omega
      · have h3 := e x hh
        have := sm1.keep.n
        omega⟩⟩
end Go.Proofs.Ytlbekgogjlchjaa.Pk
namespace Go.Proofs.Ytlbekgogjlchjaa.Pk
open Go Go.Proofs Go.Proofs.Ytlbekgogjlchjaa.Ab
set_option linter.unusedVariables false
set_option linter.unusedSimpArgs false
/-! ### A node started again -/
theorem ptrs_set {f g : Nat → Nat} {n k : Nat} (hk : k < n) (h : ∀ q, q < n → q ≠ k → g q = f q) : (ptrs f n).set k (V.ptr (g k) 0) = ptrs g n := by
  refine List.ext_getElem (by simp [ptrs]) fun i h1 h2 => ?_
  rw [List.getElem_set]
  split
  · rename_i e; subst e; simp [ptrs]
  · rename_i e
    simp only [ptrs, List.getElem_map, List.getElem_range]
    rw [h i (by rw [ptrs_len] at h2; exact h2) fun hh => e hh.symm]
set_option maxHeartbeats 1000000 in
set_option maxRecDepth 20000 in
theorem logRestart {h0 h : AHeap} {L : Nat} {room : Int} {n : Nat} {rs : Nat → NR} {dv nv pv : V} {ow : Nat → Nat} {s : LS} (w : LogS h0 h L room n rs dv nv pv ow s) (hn : n ≤ 2 ^ 10) {q : Nat} (hq : q < n) {l' : Pays} (ok : NOk (redoL l')) (pl : ∀ p ∈ l', p.length ≤ 4096 ∧ ∀ x ∈ p, x < 256)
    {fid : FuncId} {caps : List V} (hc : callable Try.prog fid = true) (H : SCalls Try.prog fid (.ptr (rs q).i 0 :: caps) h (fun x h' => ∃ v' safe, IsDisk h' (.ptr (rs q).i 0) room (nI (l'.flatMap frame)) safe (rs q).i v' ∧ idOf v' = idOf (rs q).v ∧ Keep h h' (NP (rs q)))) :
    SCalls Try.prog 54 [.ptr L 0, .int .i64 (q : Int), .func (.func fid) [] caps] h (fun x h' => x = .int .i64 0 ∧ ∃ rs' ow', LogS h0 h' L room n rs' dv nv pv ow' { s with nd := updN s.nd q l' } ∧ LFr h h' ow ow') := by
  have gL := w.get
  have d1 : ∀ (a b c d e : V), dropC (AObj.cells [a, b, c, d, e] 94 none) 1 = some [b, c, d, e] := fun _ _ _ _ _ => rfl
  have d0 : ∀ (a b c d e : V), dropC (AObj.cells [a, b, c, d, e] 94 none) 0 = some [a, b, c, d, e] := fun _ _ _ _ _ => rfl
  have lN := w.nk.length (by decide) Try.prog (t := 92) kt_92
  rw [Nat.div_one, ptrs_len] at lN
  have c1 : decide ((q : Int) < 0) = false := decide_eq_false (by omega)
  have c2 : decide (((n : Nat) : Int) ≤ (q : Int)) = false := decide_eq_false (by omega)
  obtain ⟨j, r1, x1, x2, x3⟩ := own_ptr (t := 91) ss_91 w.dk hq
  refine SCalls.enterI (c := _) Try.func54 rfl (by kernel_rfl) (by simp) ?_
  simp only [wpA_skip, wpA_region, wpA_seq, wpA_cond, condI_false, seqQ_normal, goI_out, goI_ops, opsA_nil, opsA_cons, opsA_guardS, gvI_same, slotAt_zero, slotAt_succ, stepA_move, stepA_assign, stepA_pick, stepA_load, stepA_nilCheck, stepA_binOp, stepA_fieldAddr, stepA_indexAddr, stepA_len, stepA_callv, callvI_func, thenV_some, pickV_false, nilV_ptr, eval_tmp, eval_const, put_some, enterF_zero, enterF_succ, aBin_lss, aBin_geq, ptr_nil_eql, absV_int, absV_bool, absV_pnil, aField_eq, fieldGo_ptr, aLoad_eq, loadGo_one, aPlace_ptr, Nat.reduceEqDiff, reduceCtorEq, List.map_cons, List.map_nil, Nat.add_zero, Nat.zero_add, List.nil_append, List.cons_append, if_true, if_false, ft_94_0, ft_94_1, kt_51, lt_24, lt_91, lt_92, gL, d1, d0, lN, c1, c2, x1, x3]
  refine callI_of hc H fun x h1 ⟨v1, safe, dk1, iv1, k1⟩ => ?_
  have tagq : ∀ x, NP (rs q) x → ow x = q + 5 := w.ns.ond q hq
  have kk : Keep h h1 (fun x => 5 ≤ ow x) := k1.mono fun x hx => by have := tagq x hx; omega
  have g1 : h1.get L = .cells [dv, nv, .bool s.op, .int .i64 s.ep, pv] 94 none := (kk.get L w.lt (by rw [w.owL]; decide)).trans w.get
  have dk' : Own h1 24 1 dv (ptrs (fun q => (rs q).i) n) := w.dk.keep kk fun x hx => by rw [w.owd x hx]; decide
  have nk' : Own h1 28 1 nv (ptrs (fun q => (rs q).a) n) := w.nk.keep kk fun x hx => by rw [w.own_ x hx]; decide
  have pk' : Own h1 30 1 pv (rowV s.row) := w.pk.keep kk fun x hx => by rw [w.owp x hx]; decide
  obtain ⟨j', r1', x1', x2', x3'⟩ := own_ptr (t := 91) ss_91 dk' hq
  have tj : ow j' = 2 := w.owd j' x2'
  have nL : ¬ NP (rs q) L := fun hh => by have := tagq L hh; rw [w.owL] at this; omega
  have nj : ¬ NP (rs q) j' := fun hh => by have := tagq j' hh; omega
  simp only [wpA_seq, wpA_draw, seqQ_normal, goI_out, goI_ops, opsA_nil]
  refine SWp.drawnS (fun x => NP (rs q) x) [12, 14] (.q 0 (.q 1 (.q 2 (.q 3 (.q 4 (.q 5 (.q 6 (.q 7 (.q 8 (.q 9 (.q 10 (.q 11 (.e 12 (.q 13 (.a 14 .done)) .stop))))))))))))) (by kernel_rfl) (by kernel_rfl) (by kernel_rfl) ?_
  simp only [mOk_move, mOk_nilCheck, mOk_fieldAddr, mOk_indexAddr, mOk_load, mOkV_ptr, nne2, nne3, nne4, nne1', not_false_eq_true, siI_stop, siI_q, siI_e, sqI_some, seI_some, implies_true, qI_nil, qI_cons, thenQ_some, q_move, q_load, q_nilCheck, q_fieldAddr, q_indexAddr, goI_mk, opsA_cons, stepA_call, nilV_ptr, eval_tmp, put_some, enterF_zero, enterF_succ, aField_eq, fieldGo_ptr, aLoad_eq, loadGo_one, aPlace_ptr, List.getElem?_cons_zero, List.getElem?_cons_succ, Nat.reduceEqDiff, reduceCtorEq, List.map_cons, List.map_nil, Nat.add_zero, Nat.zero_add, and_true, true_and, if_true, if_false, ft_94_0, ft_94_1, lt_24, lt_91, lt_92, g1, d1, d0, x1', x3', nL, nj]
  refine callI_of cal15 (nbOpen dk1 ok pl) fun x h2 ⟨r', ex, d', ei, k2, hx⟩ => ?_
  subst ex
  have hpn : ∀ x, Parts (rs q).i v1 x → NP (rs q) x := fun x hh => by
    rcases hh with hh | hh
    · exact Parts.np (.inl hh)
    · exact Parts.np (.inr (by rw [← iv1]; exact hh))
  have k2n : Keep h1 h2 (NP (rs q)) := k2.mono hpn
  have kA : Keep h h2 (NP (rs q)) := k1.trans' k2n
  have kk2 : Keep h h2 (fun x => 5 ≤ ow x) := kA.mono fun x hx => by have := tagq x hx; omega
  have nk2 : Own h2 28 1 nv (ptrs (fun q => (rs q).a) n) := w.nk.keep kk2 fun x hx => by rw [w.own_ x hx]; decide
  have hk' : q < (ptrs (fun q => (rs q).a) n).length := by rw [ptrs_len]; exact hq
  obtain ⟨j3, y1, y2, _, y4⟩ := own_elem (P := Try.prog) (t := 92) (kk := .i64) ss_92 nk2 (k := q) hk'
  obtain ⟨ob, z1, z2, z3⟩ := y4 (V.ptr r'.a 0) rfl
  have kn1 := k1.n
  have w2 := w.ns.step hq d' kA fun x hh => by
    rcases hx x hh with h3 | h3
    · exact .inl (hpn x h3)
    · exact .inr (by omega)
  have w3 := w2.1.on (own := (· = j3)) (h' := h2.set j3 ob) (Keep.set _ _ _) (fun x hx => by
    rw [show x = j3 from hx, owN_lt (w.ns.old j3 (by rw [w.own_ j3 y2]; decide)), w.own_ j3 y2]; decide)
  have kS : Keep h2 (h2.set j3 ob) (· = j3) := Keep.set _ _ _
  have t3 := w.own_ j3 y2
  have hlow : ∀ x, ow x ≠ 0 → owN ow h.n (NP r') (q + 5) x = ow x := fun x hx => owN_lt (w.ns.old x hx)
  have hfin : LogS h0 (h2.set j3 ob) L room n (updN rs q r') dv nv pv (owN ow h.n (NP r') (q + 5)) { s with nd := updN s.nd q l' } := by
    have kn0 := w.keep.n
    refine ⟨(w.keep.trans kA fun x hx hh => by have := tagq x hh; have := w.new x (by omega); omega).trans kS fun x hx hh => by have := w.new j3 (by omega); omega, fun x hx => ?_, (hlow L (by rw [w.owL]; decide)).trans w.owL, ?_, ?_, ?_, ?_, fun x hx => ?_, fun x hx => ?_, fun x hx => ?_, w3, w.rok, w.rl⟩
    · by_cases hl : x < h.n
      · rw [owN_lt hl] at hx; exact w.new x hx
      · omega
    · exact (kS.get L (Nat.lt_of_lt_of_le w.lt kA.n) (fun e => by rw [← e, w.owL] at t3; cases t3)).trans ((kk2.get L w.lt (by rw [w.owL]; decide)).trans w.get)
    · rw [ptrs_congr (g := fun q => (rs q).i) fun p hp => by
        by_cases e : p = q
        · subst e; rw [updN_same]; exact ei
        · rw [updN_ne e]]
      exact (w.dk.keep kk2 fun x hx => by rw [w.owd x hx]; decide).keep kS fun x hx hh => by have := w.owd x hx; rw [show x = j3 from hh] at this; omega
    · have e := ptrs_set (f := fun q => (rs q).a) (g := fun p => (updN rs q r' p).a) hq (fun p hp hne => by simp only [updN_ne hne])
      simp only [updN_same] at e
      rw [← e]
      exact z2
    · exact (w.pk.keep kk2 fun x hx => by rw [w.owp x hx]; decide).keep kS fun x hx hh => by have := w.owp x hx; rw [show x = j3 from hh] at this; omega
    · have := w.owd x hx; rw [hlow x (by omega)]; exact this
    · have := w.own_ x hx; rw [hlow x (by omega)]; exact this
    · have := w.owp x hx; rw [hlow x (by omega)]; exact this
  simp only [mOk_indexAddr, nne2, nne3, nne4, nne1', nne2', nne3', siI_done, siI_q, siI_a, sqI_some, saI_some, implies_true, qI_nil, qI_cons, thenQ_some, q_indexAddr, wpA_region, wpA_seq, wpA_ret, seqQ_normal, endI_mk, goI_out, goI_ops, goI_mk, opsA_nil, opsA_cons, stepA_assign, stepA_store, thenS_some, eval_tmp, eval_const, put_some, put_none, enterF_succ, absV_int, cells_ptr, aStore_eq, storeGo_ptr, List.getElem?_cons_zero, List.getElem?_cons_succ, Bool.false_eq_true, Nat.reduceEqDiff, Option.map_some, true_and, if_true, if_false, zt_28, y1, z1, retA_ret, Try.results54, resultsA_1]
  have fr : LFr h (h2.set j3 ob) ow (owN ow h.n (NP r') (q + 5)) := ⟨(kA.mono fun x hx => by have := tagq x hx; omega).trans kS fun x hx hh => by rw [show x = j3 from hh, t3]; decide, fun x hx h0 => by rw [owN_lt hx]; exact h0⟩
  exact ⟨k2n, hid_mk ⟨rfl, _, _, hfin, fr⟩⟩
set_option maxRecDepth 10000 in
/-- No such node. -/
theorem logRestartNo {h0 h : AHeap} {L : Nat} {room : Int} {n : Nat} {rs : Nat → NR} {dv nv pv : V} {ow : Nat → Nat} {s : LS} (w : LogS h0 h L room n rs dv nv pv ow s) (q : Int) (hq : q < 0 ∨ (n : Int) ≤ q) (fv : V) :
    SCalls Try.prog 54 [.ptr L 0, .int .i64 q, fv] h (fun x h' => x = .int .i64 1 ∧ h' = h) := by
  have gL := w.get
  have d1 : ∀ (a b c d e : V), dropC (AObj.cells [a, b, c, d, e] 94 none) 1 = some [b, c, d, e] := fun _ _ _ _ _ => rfl
  have lN := w.nk.length (by decide) Try.prog (t := 92) kt_92
  rw [Nat.div_one, ptrs_len] at lN
  refine SCalls.enterI (c := _) Try.func54 rfl (by kernel_rfl) (by simp) ?_
  by_cases h1 : q < 0
  · have c1 : decide (q < 0) = true := decide_eq_true h1
    simp only [wpA_region, wpA_seq, wpA_cond, wpA_ret, condI_true, seqQ_normal, seqQ_ret, endI_mk, goI_out, goI_ops, opsA_nil, opsA_cons, opsA_guardS, gvI_same, gvI_tf, slotAt_zero, slotAt_succ, stepA_move, stepA_assign, stepA_pick, stepA_binOp, thenV_some, pickV_true, pickV_false, eval_tmp, eval_const, put_some, enterF_zero, enterF_succ, aBin_lss, ptr_nil_eql, absV_int, absV_bool, absV_pnil, Nat.reduceEqDiff, reduceCtorEq, if_true, if_false, kt_51, c1, retA_ret, Try.results54, resultsA_1]
    exact hid_mk ⟨rfl, rfl⟩
  · have c1 : decide (q < 0) = false := decide_eq_false h1
    have c2 : decide (((n : Nat) : Int) ≤ q) = true := decide_eq_true (by omega)
    simp only [wpA_region, wpA_seq, wpA_cond, wpA_ret, condI_true, seqQ_normal, seqQ_ret, endI_mk, goI_out, goI_ops, opsA_nil, opsA_cons, opsA_guardS, gvI_same, slotAt_zero, slotAt_succ, stepA_move, stepA_assign, stepA_pick, stepA_load, stepA_nilCheck, stepA_binOp, stepA_fieldAddr, stepA_len, thenV_some, pickV_false, nilV_ptr, eval_tmp, eval_const, put_some, enterF_zero, enterF_succ, aBin_lss, aBin_geq, ptr_nil_eql, absV_int, absV_bool, absV_pnil, aField_eq, fieldGo_ptr, aLoad_eq, loadGo_one, aPlace_ptr, Nat.reduceEqDiff, reduceCtorEq, Nat.zero_add, if_true, if_false, ft_94_1, kt_51, lt_92, gL, d1, lN, c1, c2, retA_ret, Try.results54, resultsA_1]
    exact hid_mk ⟨rfl, rfl⟩
set_option maxRecDepth 10000 in
theorem cClo {h : AHeap} {room : Int} {r : NR} {l : Pays} (d : NdB h room r l) {c1 c2 : Nat} (keep turn : Int) (g1 : h.get c1 = .cells [.int .i64 keep] 3 none) (g2 : h.get c2 = .cells [.int .i64 turn] 3 none) :
    SCalls Try.prog 55 [.ptr r.i 0, .ptr c1 0, .ptr c2 0] h (fun x h' => ∃ v' safe, IsDisk h' (.ptr r.i 0) room (nI (l.flatMap frame)) safe r.i v' ∧ idOf v' = idOf r.v ∧ Keep h h' (NP r)) := by
  refine SCalls.enterI (c := _) Try.func55 rfl (by kernel_rfl) (by simp) ?_
  simp only [wpA_region, goI_ops, opsA_cons, stepA_move, stepA_load, stepA_call, thenV_some, eval_tmp, put_some, enterF_zero, enterF_succ, aLoad_eq, loadGo_one, aPlace_ptr, dropC_cells, Nat.reduceEqDiff, List.map_cons, List.map_nil, Nat.zero_add, Nat.zero_le, List.length_cons, List.length_nil, List.drop_zero, if_true, if_false, lt_3, g1, g2]
  refine callI_of cal21 (nbCrash d keep turn) fun x h1 hp => ?_
  simp only [endI_mk, goI_out, goI_ops, opsA_nil, retA_normal, Try.results55, resultsA_0]
  exact hid_mk hp
set_option maxRecDepth 10000 in
theorem logCrash {h0 h : AHeap} {L : Nat} {room : Int} {n : Nat} {rs : Nat → NR} {dv nv pv : V} {ow : Nat → Nat} {s : LS} (w : LogS h0 h L room n rs dv nv pv ow s) (hn : n ≤ 2 ^ 10) (q keep turn : Int) :
    SCalls Try.prog 29 [.ptr L 0, .int .i64 q, .int .i64 keep, .int .i64 turn] h (fun x h' => ∃ rs' ow', LogS h0 h' L room n rs' dv nv pv ow' s ∧ LFr h h' ow ow') := by
  have kP : Keep h ((h.push (.cells [.int .i64 keep] 3 none)).push (.cells [.int .i64 turn] 3 none)) none_ := (Keep.push _ _ _).then_push _
  have q1 : ((h.push (.cells [.int .i64 keep] 3 none)).push (.cells [.int .i64 turn] 3 none)).get h.n = .cells [.int .i64 keep] 3 none := (get_push_lt (by simp only [push_n]; omega)).trans get_push_new
  have q2 : ((h.push (.cells [.int .i64 keep] 3 none)).push (.cells [.int .i64 turn] 3 none)).get (h.n + 1) = .cells [.int .i64 turn] 3 none := get_push_new
  have w1 := w.on kP
  refine SCalls.enterI (c := _) Try.func29 rfl (by kernel_rfl) (by simp) ?_
  simp only [wpA_region, wpA_seq, seqQ_normal, goI_out, goI_ops, opsA_nil, opsA_cons, stepA_move, stepA_assign, stepA_box, stepA_makeFunc, stepA_call, thenH_some, eval_tmp, eval_const, put_some, enterF_zero, enterF_succ, absV_int, cells_int, aBox_eq, push_n, Nat.reduceEqDiff, reduceCtorEq, List.map_cons, List.map_nil, Option.map_some, if_true, if_false]
  generalize (h.push (.cells [.int .i64 keep] 3 none)).push (.cells [.int .i64 turn] 3 none) = H at kP q1 q2 w1 ⊢
  by_cases hq : 0 ≤ q ∧ q < n
  · obtain ⟨k, rfl⟩ : ∃ k : Nat, q = k := ⟨q.toNat, by omega⟩
    have hk : k < n := by omega
    have d := w1.ns.nd k hk
    refine callI_of cal54 (logRestart w1 hn hk d.ok d.pl cal55 (cClo d keep turn q1 q2)) fun x h1 ⟨ex, rs', ow', w2, fr⟩ => ?_
    subst ex
    have e : updN s.nd k (s.nd k) = s.nd := by
      funext p
      by_cases e : p = k
      · subst e; rw [updN_same]
      · rw [updN_ne e]
    rw [e] at w2
    simp only [wpA_ret, seqQ_normal, endI_mk, goI_out, goI_ops, opsA_nil, opsA_cons, stepA_assign, eval_tmp, put_some, enterF_succ, Nat.reduceEqDiff, if_true, if_false, retA_ret, Try.results29, resultsA_1]
    exact hid_mk ⟨rs', ow', w2, (LFr.none ow kP).trans fr⟩
  · refine callI_of cal54 (logRestartNo w1 q (by omega) _) fun x h1 ⟨ex, e⟩ => ?_
    subst ex; subst e
    simp only [wpA_ret, seqQ_normal, endI_mk, goI_out, goI_ops, opsA_nil, opsA_cons, stepA_assign, eval_tmp, put_some, enterF_succ, Nat.reduceEqDiff, if_true, if_false, retA_ret, Try.results29, resultsA_1]
    exact hid_mk ⟨rs, ow, w1, LFr.none ow kP⟩
set_option maxRecDepth 10000 in
theorem lClo {h : AHeap} {room : Int} {r : NR} {l : Pays} (d : NdB h room r l) :
    SCalls Try.prog 56 [.ptr r.i 0] h (fun x h' => ∃ v' safe, IsDisk h' (.ptr r.i 0) room (nI (([] : Pays).flatMap frame)) safe r.i v' ∧ idOf v' = idOf r.v ∧ Keep h h' (NP r)) := by
  refine SCalls.enterI (c := _) Try.func56 rfl (by kernel_rfl) (by simp) ?_
  simp only [wpA_region, goI_ops, opsA_cons, stepA_move, stepA_call, eval_tmp, put_some, enterF_zero, enterF_succ, List.map_cons, List.map_nil, if_true]
  refine callI_of cal57 (nbLose d) fun x h1 hp => ?_
  simp only [endI_mk, goI_out, goI_ops, opsA_nil, retA_normal, Try.results56, resultsA_0]
  exact hid_mk hp
set_option maxRecDepth 10000 in
theorem logLose {h0 h : AHeap} {L : Nat} {room : Int} {n : Nat} {rs : Nat → NR} {dv nv pv : V} {ow : Nat → Nat} {s : LS} (w : LogS h0 h L room n rs dv nv pv ow s) (hn : n ≤ 2 ^ 10) {q : Nat} (hq : q < n) :
    SCalls Try.prog 31 [.ptr L 0, .int .i64 (q : Int)] h (fun x h' => x = .int .i64 0 ∧ ∃ rs' ow', LogS h0 h' L room n rs' dv nv pv ow' { s with nd := updN s.nd q [] } ∧ LFr h h' ow ow') := by
  refine SCalls.enterI (c := _) Try.func31 rfl (by kernel_rfl) (by simp) ?_
  simp only [wpA_region, wpA_seq, seqQ_normal, goI_out, goI_ops, opsA_nil, opsA_cons, stepA_move, stepA_assign, stepA_call, eval_tmp, eval_const, eval_func, put_some, enterF_zero, enterF_succ, absV_int, Nat.reduceEqDiff, reduceCtorEq, List.map_cons, List.map_nil, if_true, if_false]
  refine callI_of cal54 (logRestart w hn hq (l' := []) NOk.nil (by simp) cal56 (lClo (w.ns.nd q hq))) fun x h1 ⟨ex, rs', ow', w2, fr⟩ => ?_
  subst ex
  simp only [wpA_ret, seqQ_normal, endI_mk, goI_out, goI_ops, opsA_nil, opsA_cons, stepA_assign, eval_tmp, put_some, enterF_succ, Nat.reduceEqDiff, if_true, if_false, retA_ret, Try.results31, resultsA_1]
  exact hid_mk ⟨rfl, rs', ow', w2, fr⟩
end Go.Proofs.Ytlbekgogjlchjaa.Pk
