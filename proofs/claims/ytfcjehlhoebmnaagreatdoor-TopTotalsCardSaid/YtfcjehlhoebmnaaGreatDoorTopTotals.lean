/-
  The law TopTotals returns true for all arguments: any bytes are taken as a topology or refused, a topology that may not be starts no cluster, and one that may be starts one.
  Conditions: none besides those of the given row.
-/
import Derived.Test.YtfcjehlhoebmnaaGreatDoorRows
import Derived.WalkKit
import Derived.ProofKit
import Derived.OpenShut
import Derived.ShutString
import Derived.ChangeOld
import Derived.Below
import Derived.SizedLaws
import Derived.Test.YtfcjehlhoebmnaaGreatDoorTotY
import Derived.JoinedOf
import Derived.LaidLaws
import Derived.Test.YtfcjehlhoebmnaaGreatDoorCards
import Derived.Test.YtfcjehlhoebmnaaGreatDoorTie
namespace Go.Proofs.YtfcjehlhoebmnaaGreatDoor.topTotals
open Go.ChangeShapes Go.WideShapes Go.ChangeAt Go.RowKit
open Go.ChangeMaps (open_string shut_string)
set_option linter.unusedVariables false
set_option linter.unusedSimpArgs false

theorem own : ownKnob Tryz.prog.godebug = none := by kernel_rfl
theorem laidOut : laidOutB Tryz.prog = true := by kernel_rfl

/-! ### The walk, by the contract of the law -/
theorem walk (a0 : Option Addr) (len0 cap0 : Nat) (e0 : List (List Ab.V)) (a1 : Array Value) (e1 : List Ab.V) (w : World) (hT : Ab.GlobOk (Ab.gl Pk.gE) w) (w0 : ∀ x ∈ e0, Ab.Sh.fitsB (.int .u8) x) (r0 : Ab.VRel (Ab.entryRen w) (.imm e0.length e0.flatten) (.slice a0 len0 cap0)) (n0 : e0.length < 2 ^ 47) (w1 : Ab.ShQ.fitsQ Pk.QE (.cat (.sl (.cat (.int .i64) (.cat (.sl (.int .i64)) (.cat (.ext 3) (.cat (.int .i64) .unit))))) (.cat (.int .i64) .unit)) e1) (r1 : Ab.VRel (Ab.entryRen w) (.agg e1) (.agg a1)) :
    Calls Tryz.prog 4 #[.slice a0 len0 cap0, .agg a1] w fun e w' => e = .returned (.bool true) ∧ Below w.heap.size w w' := by
  obtain ⟨bs, rfl, hb⟩ := Pk.bytes_nat w0
  obtain ⟨l, p, hok, _, rfl⟩ := Pk.topo_of w1
  rw [List.length_map, Pk.flat_nat] at r0
  rw [List.length_map] at n0
  exact (Pk.topTotalsE l p hok bs hb (by omega)).callsG rfl hT (.cons r0 (.cons r1 (.nil _)))

/-! ### The row's step -/
theorem laidM {W : World} (h : laidMetH Tryz.prog Rows.topTotalsRow.laid W) : laidMet Tryz.prog Rows.topTotalsRow.laid W := h
theorem globs {W : World} (hL : laidMetH Tryz.prog Rows.topTotalsRow.laid W) : Ab.GlobOk (Ab.gl Pk.gE) W := by
  have h := laidM hL
  exact Pk.globOk4 h
/-- The settled world, the variables holding what their initialisers lay. -/
noncomputable def laidWorld (os : Os) : World :=
  { World.holding Tryz.prog os ⟨#[], #[], []⟩ with
    heap := ((((World.holding Tryz.prog os ⟨#[], #[], []⟩).heap.modify 2 (fun
      | .cells _ t frozen => .cells (Pk.kidsE.map fun z => Value.int .i64 z).toArray t frozen
      | o => o)).modify 0 (fun
      | .cells _ t frozen => .cells (Pk.needsI.map fun z => Value.int .i64 z).toArray t frozen
      | o => o)).modify 1 (fun
      | .cells _ t frozen => .cells (Pk.usesE.map fun z => Value.int .i64 z).toArray t frozen
      | o => o)) }
theorem laidWorld_met (os : Os) (args : Array Value) : laidMetH Tryz.prog Rows.topTotalsRow.laid ((laidWorld os).forCall (fun _ _ => 0) ⟨#[], args, []⟩).memory :=
  (show laidMet Tryz.prog Rows.topTotalsRow.laid _ from laidMet_of_run' 8 (by kernel_rfl) (by kernel_rfl))

set_option maxRecDepth 100000 in
theorem lifted (os : Os) (started : os.Started) (H : Type) (enc : TypeId × Value → H) :
    ReturnsInHanded {} Tryz.checked os 4 .any (fun w args => (Rows.topTotalsSpec.pre enc Tryz.prog Tryz.f4 Rows.topTotalsRow.domain false w args ∧ laidMetH Tryz.prog Rows.topTotalsRow.laid w) ∧ sizedMet enc Tryz.prog Tryz.f4 (OpenSpec.ofChange Rows.topTotalsSpec) false w args) (Rows.topTotalsSpec.post enc Tryz.prog Tryz.f4 false true false false) := by
  refine returnsInHanded_of_change_and (C := Tryz.checked) (X := fun w _ => laidMetH Tryz.prog Rows.topTotalsRow.laid w) (fun _ _ _ hh h => h.of_heap hh) own started (by kernel_rfl) Tryz.func4
    (ChangeSpec.witness_at (enc := enc) (C := Tryz.checked) (os := os) (X := fun w _ => laidMetH Tryz.prog Rows.topTotalsRow.laid w) false (laidWorld os) #[.slice none 0 0, .agg #[.slice none 0 0, .int .i64 0]] 8 rfl (by kernel_rfl) (by kernel_rfl) (by kernel_rfl) (by kernel_rfl) (by kernel_rfl) (laidWorld_met os _)) ?_
  intro W base args ds gs before hval0 hW hcnd hsz hL _
  have hT := globs hL
  have hval : ∀ (j : Nat) t v, Tryz.f4.params[j]? = some t → args[j]? = some v → Value.okWide Tryz.prog W .any base t v := hval0
  have hW' := hW
  obtain ⟨p, q, hA0, hV, rfl, hfz, hnd⟩ := hW
  have hA : DataW.TrodAll enc Tryz.prog W 0 (fun _ => true) true Tryz.f4.params.toList args.toList ds p := hA0
  rw [Tryz.params4] at hA hval
  obtain ⟨v0, vs0, d0, ds0, p0, q0, hargs, rfl, rfl, h0, r0⟩ := trodAll_cons hA
  obtain ⟨v1, vs1, d1, ds1, p1, q1, rfl, rfl, rfl, h1, r1⟩ := trodAll_cons r0
  obtain ⟨rfl, rfl, rfl⟩ := trodAll_nil r1
  obtain rfl : args = #[v0, v1] := by cases args; simp_all
  obtain ⟨rfl, rfl⟩ := trodVars_none hV
  obtain ⟨a0, len0, cap0, rfl⟩ := okWide_slice Tryz.underlying42 (hval 0 42 v0 rfl rfl)
  have k0 := h0
  have lt0 : ∀ x ∈ p0, x.block < W.heap.size := by obtain ⟨m, hm⟩ := k0; exact DataW.trod_lt m _ _ _ hm
  obtain ⟨e0, w0, rr0, n0⟩ := Ab.arg_sliceB (n := 6) (s := (.int .u8)) Tryz.underlying42 (by kernel_rfl) ⟨by kernel_rfl, by decide, of_decide_eq_true (by kernel_rfl)⟩ (fun n hn => by simpa using List.all_eq_true.1 hsz n (DataW.weights_mem_each (j := 0) (t := 42) (by kernel_rfl) rfl n hn)) h0
  obtain ⟨a1, rfl, _⟩ := okWide_struct Tryz.underlying45 (hval 1 45 v1 rfl rfl)
  have k1 := h1
  have lt1 : ∀ x ∈ p1, x.block < W.heap.size := by obtain ⟨m, hm⟩ := k1; exact DataW.trod_lt m _ _ _ hm
  obtain ⟨e1, w1, rr1⟩ := Ab.arg_aggQ (n := 6) (n' := 6) (T0 := 88) (s := (.cat (.sl (.cat (.int .i64) (.cat (.sl (.int .i64)) (.cat (.ext 3) (.cat (.int .i64) .unit))))) (.cat (.int .i64) .unit))) (t := 45) Tryz.underlying88 (by kernel_rfl) (by kernel_rfl) Pk.qE (by kernel_rfl) (fun n hn => by simpa using List.all_eq_true.1 hsz n (DataW.weights_mem_each (j := 1) (t := 45) (by kernel_rfl) rfl n hn)) h1
  clear hA0 hval0
  refine (walk a0 len0 cap0 e0 a1 e1 W hT w0 rr0 n0 w1 rr1).mono fun e W' ⟨he, bel⟩ => ?_
  subst he
  exact ⟨_, rfl, _, _, _, [], _, [], hW', trodAll_mk1 (shut_bool Tryz.underlying4 _), (trodAll_cons_mk (Below.trod laidOut (by kernel_rfl) (of_decide_eq_true (by kernel_rfl)) k0 bel lt0) (trodAll_cons_mk (Below.trod laidOut (by kernel_rfl) (of_decide_eq_true (by kernel_rfl)) k1 bel lt1) trodAll_mk0)), rfl, bel.frame _, fun h => by cases h⟩

theorem and_t {a b : Bool} (h : a = true) (k : b = true) : (a && b) = true := by rw [h, k]; rfl
set_option maxHeartbeats 200000000 in
/-- The closed facts, each by itself (the memory of all at once is too much). -/
theorem closedF : joinedFacts Tryz.pinned.checked.prog 4 Tryz.f4 Rows.topTotalsSpec Rows.topTotalsRow = true := by
  unfold joinedFacts
  refine and_t (and_t (and_t (and_t (and_t (and_t (and_t (and_t (and_t (and_t (and_t (and_t (and_t (and_t (and_t (and_t (and_t (and_t (and_t (and_t (and_t (and_t (and_t (and_t (and_t (and_t (and_t (and_t (and_t (and_t (and_t ?_ ?_) ?_) ?_) ?_) ?_) ?_) ?_) ?_) ?_) ?_) ?_) ?_) ?_) ?_) ?_) ?_) ?_) ?_) ?_) ?_) ?_) ?_) ?_) ?_) ?_) ?_) ?_) ?_) ?_) ?_) ?_
  all_goals as_aux_lemma => kernel_rfl
theorem over : Rows.topTotalsRow.holds Tryz.pinned (OpenSpec.ofChange Rows.topTotalsSpec) :=
  OpenClaim.holds_of_wide 4 Tryz.f4 rfl rfl rfl rfl rfl rfl rfl ⟨rfl, rfl, rfl, rfl, rfl⟩ rfl rfl rfl rfl rfl (by kernel_rfl) Tryz.func4 closedF
    (of_decide_eq_true (by kernel_rfl)) (by unfold Func.isWrapper; first | (rw [if_pos (by decide +kernel)]; kernel_rfl) | (rw [if_neg (by decide +kernel)]; exact ⟨rfl, rfl⟩))
    (fun os started H enc _ => lifted os started H enc)
theorem plainT : Tryz.f4.params.toList.all (fun t => !Tryz.prog.wantsStandIn t) = true := by kernel_rfl
theorem named : Tryz.prog.funcNamed Rows.topTotalsRow.func = some 4 := by kernel_rfl

/-- The statement. -/
theorem proved : Rows.TopTotalsCardSaid :=
  Claim7.holds_tied_plain_at .later [] Rows.topTotalsCard.laidKinds true Rows.topTotalsCard.stood.harness Rows.topTotalsCard.stood.looks over (fun _ h => by cases h) (by kernel_rfl) (fun _ h => by cases h) topTotals_row_tie rfl ⟨rfl, rfl⟩ (by kernel_rfl) rfl
    (fun f fn hf hfn => by
      obtain rfl : f = 4 := (Option.some.inj (named.symm.trans hf)).symm
      obtain rfl : fn = Tryz.f4 := (Option.some.inj (Tryz.func4.symm.trans hfn)).symm
      refine ⟨by kernel_rfl, fun j t ht => ?_⟩
      have hm : t ∈ Tryz.f4.params.toList := List.mem_of_getElem? (by rw [Array.getElem?_toList]; exact ht)
      have h2 : Tryz.prog.wantsStandIn t = false := by simpa using List.all_eq_true.1 plainT t hm
      exact h2)
    (by kernel_rfl)
#print axioms proved
end Go.Proofs.YtfcjehlhoebmnaaGreatDoor.topTotals
