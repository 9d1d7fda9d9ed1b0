/-
  What functions of the program do, told of abstract states. Conditions: as each theorem says.
-/
import Derived.Test.YthnleejpeocaeaaDoorExG
namespace Go.Proofs.YthnleejpeocaeaaDoor.Pk
open Go Go.Proofs Go.Proofs.YthnleejpeocaeaaDoor.Ab
set_option linter.unusedVariables false
set_option linter.unusedSimpArgs false

/-! ### How many, and which operations -/
/-- All lists of kids are shorter than memory. -/
inductive OkE : Ex → Prop
  | mk (o n : Int) (l : List Ex) (hl : l.length < 2 ^ 47) (h : ∀ k ∈ l, OkE k) (ho : -2 ^ 63 ≤ o ∧ o < 2 ^ 63) (hn : -2 ^ 63 ≤ n ∧ n < 2 ^ 63) : OkE (.mk o n l)
theorem OkE.len {e : Ex} (h : OkE e) : e.ks.length < 2 ^ 47 := by cases h; assumption
theorem OkE.kid {e : Ex} (h : OkE e) : ∀ k ∈ e.ks, OkE k := by cases h; assumption
/-- What the cells of an expression that came in are. -/
def QE (l : List V) : Prop := ∃ e : Ex, OkE e ∧ l = encE e
theorem qE : ∀ l, ShQ.fitsQ QE (.cat (.int .i64) (.cat (.int .i64) (.cat (.sl (.ext 3)) .unit))) l → QE l := fun l h => by
  obtain ⟨l1, _, rfl, ⟨o, rfl, w1⟩, l2, _, rfl, ⟨n, rfl, w2⟩, l3, _, rfl, ⟨es, rfl, hn, hes⟩, rfl⟩ := h
  have : ∃ ks : List Ex, (∀ k ∈ ks, OkE k) ∧ es.length = ks.length ∧ es.flatten = ks.flatMap encE := by
    clear hn
    induction es with
    | nil => exact ⟨[], by simp, rfl, rfl⟩
    | cons a r ih =>
      obtain ⟨ks, h1, h2, h3⟩ := ih fun e he => hes e (by simp [he])
      obtain ⟨⟨k, hk, rfl⟩, _⟩ := hes a (by simp)
      refine ⟨k :: ks, fun x hx => ?_, by simp [h2], by simp [h3]⟩
      rcases List.mem_cons.1 hx with rfl | hx
      · exact hk
      · exact h1 x hx
  obtain ⟨ks, h1, h2, h3⟩ := this
  refine ⟨.mk o n ks, .mk o n ks (by omega) h1 (wf_i64 w1) (wf_i64 w2), ?_⟩
  rw [encE_eq, h2, h3]
  rfl
mutual
def szE : Ex → Nat
  | .mk _ _ l => szL l + 1
def szL : List Ex → Nat
  | [] => 0
  | k :: r => szE k + szL r
end
theorem szL_drop {l : List Ex} {i : Nat} (hi : i < l.length) : szL (l.take (i + 1)) = szL (l.take i) + szE l[i] := by
  induction l generalizing i with
  | nil => simp at hi
  | cons a r ih =>
    cases i with
    | zero => simp [szL]
    | succ i => simp only [List.take_succ_cons, szL, List.getElem_cons_succ]; rw [ih (by simpa using hi)]; omega
theorem szE_kid {e : Ex} : ∀ k ∈ e.ks, szE k < szE e := by
  obtain ⟨o, n, l⟩ := e
  have : ∀ (l : List Ex) (k : Ex), k ∈ l → szE k ≤ szL l := fun l => by
    induction l with
    | nil => intro k hk; simp at hk
    | cons a r ih =>
      intro k hk
      rcases List.mem_cons.1 hk with rfl | hk
      · simp [szL]
      · have := ih k hk; simp only [szL]; omega
  intro k hk
  have := this l k hk
  simp only [szE]; omega
theorem wrap_add (a b : Int) : IntKind.i64.wrap (IntKind.i64.wrap a + IntKind.i64.wrap b) = IntKind.i64.wrap (a + b) := by
  rw [IntKind.wrap_i64, IntKind.wrap_i64 a, IntKind.wrap_i64 b, IntKind.wrap_i64 (a + b)]; omega

set_option maxRecDepth 10000 in
theorem pCountR : ∀ (s : Nat) (e : Ex) (h : AHeap), szE e = s → OkE e → Pure Tryd.prog 11 [.agg (encE e)] h (.int .i64 (IntKind.i64.wrap (szE e : Nat))) := by
  intro s
  induction s using Nat.strongRecOn with
  | _ s ih =>
  intro e h hs hok
  obtain ⟨o, n, ks⟩ := e
  refine Pure.val (Clo.int _ _) ?_
  have hlen := hok.len
  simp only [Ex.ks] at hlen
  refine SCalls.enterI (c := _) Tryd.func11 rfl (by kernel_rfl) (by simp) ?_
  have hc : (V.agg (encE (.mk o n ks))).cells = some (encE (.mk o n ks)) := rfl
  have hd2 : dropC (AObj.cells (encE (.mk o n ks)) 40 none) 2 = some [.imm ks.length (ks.flatMap encE)] := by rw [encE_eq]; rfl
  simp only [wpA_region, wpA_seq, wpA_block, wpA_loop, seqQ_normal, goI_out, goI_ops, opsA_nil, opsA_cons, stepA_assign, stepA_box, thenH_some, eval_tmp, eval_const, enterF_zero, absV_int, aBox_eq, Option.map_some, hc]
  refine SWp.loopG (α := Nat) (fun i f h' => f 1 = .ptr h.n 0 ∧ f 4 = .int .i64 (i : Nat) ∧ f 3 = .int .i64 (IntKind.i64.wrap ((szL (ks.take i) + 1 : Nat) : Int)) ∧ i ≤ ks.length ∧ h' = h.push (.cells (encE (.mk o n ks)) 40 none)) (fun i => ks.length - i) 0 ⟨rfl, rfl, rfl, Nat.zero_le _, rfl⟩ ?_
  rintro i f h' ⟨f1, f4, f3, hi, rfl⟩
  refine wpI_sound (by kernel_rfl) ?_
  by_cases hlt : i < ks.length
  rotate_left
  · have c3 : decide ((i : Int) < ((ks.length : Nat) : Int)) = false := by simp only [decide_eq_false_iff_not]; omega
    rw [List.take_of_length_le (by omega)] at f3
    simp only [wpA_region, wpA_seq, wpA_cond, wpA_exit, wpA_ret, condI_false, seqQ_normal, seqQ_exit, blkQ_exit, endI_mk, goE, andThen_exit, goI_out, goI_ops, opsA_nil, opsA_cons, stepA_move, stepA_assign, stepA_load, stepA_binOp, stepA_fieldAddr, stepA_len, thenV_some, eval_tmp, put_some, aBin_lss, aField_eq, fieldGo_ptr, aLoad_eq, loadGo_one, aPlace_ptr, aLen_imm, get_push_new, Nat.reduceEqDiff, Nat.zero_add, if_true, if_false, ft_40_2, kt_38, lt_38, f1, f4, f3, hd2, c3, retA_ret, Tryd.results11, resultsA_1]
    exact hid_mk ⟨by simp [szE], Keep.push _ _ _⟩
  · have c3 : decide ((i : Int) < ((ks.length : Nat) : Int)) = true := by simp only [decide_eq_true_eq]; omega
    have x0 := ex_ix (kk := .i64) hlt
    have hsz := szL_drop hlt
    have hkid : ks[i] ∈ (Ex.mk o n ks).ks := List.getElem_mem hlt
    have hlt2 := szE_kid _ hkid
    have hok2 := hok.kid _ hkid
    generalize ks[i] = A at *
    have lr : ∀ (q : List V), loadGo (some (some 3)) (some (encE A ++ q)) = some (.agg (encE A)) := fun q => load_row (encE_len A)
    have w2 : IntKind.i64.wrap (((i : Nat) : Int) + 1) = ((i + 1 : Nat) : Int) := by rw [Go.IntWalk.i64_in _ (by omega)]; omega
    have w3 : IntKind.i64.wrap (IntKind.i64.wrap ((szL (ks.take i) + 1 : Nat) : Int) + IntKind.i64.wrap ((szE A : Nat) : Int)) = IntKind.i64.wrap ((szL (ks.take (i + 1)) + 1 : Nat) : Int) := by rw [wrap_add, hsz]; congr 1; omega
    simp only [wpA_skip, wpA_region, wpA_seq, wpA_cond, wpA_block, condI_true, seqQ_normal, goI_out, goI_ops, opsA_nil, opsA_cons, stepA_move, stepA_load, stepA_binOp, stepA_fieldAddr, stepA_indexAddr, stepA_len, stepA_call, thenV_some, eval_tmp, put_some, aBin_lss, aField_eq, fieldGo_ptr, aLoad_eq, loadGo_one, aPlace_ptr, aPlace_at, aLen_imm, get_push_new, Nat.reduceEqDiff, List.map_cons, List.map_nil, Nat.zero_add, if_true, if_false, ft_40_2, kt_38, lt_38, lt_40, f1, f4, f3, hd2, c3, x0, lr]
    refine callI_pure cal11 (ih (szE A) (by omega) A _ rfl hok2) ?_
    simp only [wpA_region, seqQ_normal, blkQ_normal, endI_mk, andThen_normal, goI_out, goI_ops, opsA_nil, opsA_cons, stepA_move, stepA_assign, stepA_binOp, thenV_some, eval_tmp, eval_const, put_some, aBin_add, absV_int, Nat.reduceEqDiff, if_true, if_false, f4, w2, w3]
    exact hid_mk ⟨i + 1, ⟨f1, rfl, rfl, by omega, rfl⟩, by omega⟩

mutual
def useX (op : Int) : Ex → Bool
  | .mk o _ l => o == op || useL op l
def useL (op : Int) : List Ex → Bool
  | [] => false
  | k :: r => useX op k || useL op r
end
end Go.Proofs.YthnleejpeocaeaaDoor.Pk
