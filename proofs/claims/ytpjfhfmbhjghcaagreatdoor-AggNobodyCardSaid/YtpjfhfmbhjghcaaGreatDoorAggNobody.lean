/-
  For all arguments, the law AggNobody returns true.
  Conditions: none besides those of the given row.
-/
import Derived.Test.YtpjfhfmbhjghcaaGreatDoorRows
import Derived.WalkKit
import Derived.ProofKit
import Derived.OpenShut
import Derived.ShutString
import Derived.ChangeOld
import Derived.Below
import Derived.SizedLaws
import Derived.Test.YtpjfhfmbhjghcaaGreatDoorAgT
import Derived.JoinedOf
import Derived.LaidLaws
import Derived.Test.YtpjfhfmbhjghcaaGreatDoorCards
import Derived.Test.YtpjfhfmbhjghcaaGreatDoorTie
namespace Go.Proofs.YtpjfhfmbhjghcaaGreatDoor.aggNobody
open Go.ChangeShapes Go.WideShapes Go.ChangeAt Go.RowKit
open Go.ChangeMaps (open_string shut_string)
set_option linter.unusedVariables false
set_option linter.unusedSimpArgs false

theorem own : ownKnob Tryz.prog.godebug = none := by kernel_rfl
theorem laidOut : laidOutB Tryz.prog = true := by kernel_rfl

/-! ### The walk, by the contract of the law -/
theorem walk (a0 : Array Value) (e0 : List Ab.V) (a1 : Int) (w : World) (hT : Ab.GlobOk Pk.kgl w) (w0 : Ab.Sh.fitsB (.cat (.int .i64) (.cat (.int .i64) (.cat (.int .i64) .unit))) e0) (r0 : Ab.VRel (Ab.entryRen w) (.agg e0) (.agg a0)) (w1 : (Lit.int .i64 a1).wf = true) :
    Calls Tryz.prog 6 #[.agg a0, .int .i64 a1] w fun e w' => e = .returned (.bool true) ∧ Below w.heap.size w w' := by
  obtain ⟨r, rfl⟩ := Pk.rec_of w0
  exact (Pk.aggNobody r a1 _ Pk.kgOk).callsG rfl hT (.cons r0 (.cons (.int _ _) (.nil _)))

/-! ### The row's step -/
theorem laidM {W : World} (h : laidMetH Tryz.prog Rows.aggNobodyRow.laid W) : laidMet Tryz.prog Rows.aggNobodyRow.laid W := h
theorem globs {W : World} (hL : laidMetH Tryz.prog Rows.aggNobodyRow.laid W) : Ab.GlobOk Pk.kgl W := by
  have h := laidM hL
  exact Pk.globOk (by kernel_rfl) (Lib.tabIs_of_head (k := .i64) (zs := Pk.kidsN) (rest := []) (g := 0) (t := 209) (e := 3) (n := 17) (by kernel_rfl) (by kernel_rfl) Tryz.underlying209 Tryz.underlying3 (by kernel_rfl) (by kernel_rfl) h)
/-- The settled world, the variable holding what its initialiser lays. -/
noncomputable def laidWorld (os : Os) : World :=
  { World.holding Tryz.prog os ⟨#[], #[], []⟩ with heap := (World.holding Tryz.prog os ⟨#[], #[], []⟩).heap.modify 0 fun
      | .cells _ t frozen => .cells (Pk.kidsN.map fun z => Value.int .i64 z).toArray t frozen
      | o => o }
theorem laidWorld_met (os : Os) (args : Array Value) : laidMetH Tryz.prog Rows.aggNobodyRow.laid ((laidWorld os).forCall (fun _ _ => 0) ⟨#[], args, []⟩).memory :=
  (show laidMet Tryz.prog Rows.aggNobodyRow.laid _ from laidMet_of_run' 8 (by kernel_rfl) (by kernel_rfl))

set_option maxRecDepth 100000 in
theorem lifted (os : Os) (started : os.Started) (H : Type) (enc : TypeId × Value → H) :
    ReturnsInHanded {} Tryz.checked os 6 .any (fun w args => (Rows.aggNobodySpec.pre enc Tryz.prog Tryz.f6 Rows.aggNobodyRow.domain false w args ∧ laidMetH Tryz.prog Rows.aggNobodyRow.laid w) ∧ sizedMet enc Tryz.prog Tryz.f6 (OpenSpec.ofChange Rows.aggNobodySpec) false w args) (Rows.aggNobodySpec.post enc Tryz.prog Tryz.f6 false true false false) := by
  refine returnsInHanded_of_change_and (C := Tryz.checked) (X := fun w _ => laidMetH Tryz.prog Rows.aggNobodyRow.laid w) (fun _ _ _ hh h => h.of_heap hh) own started (by kernel_rfl) Tryz.func6
    (ChangeSpec.witness_at (enc := enc) (C := Tryz.checked) (os := os) (X := fun w _ => laidMetH Tryz.prog Rows.aggNobodyRow.laid w) false (laidWorld os) #[.agg #[.int .i64 0, .int .i64 0, .int .i64 0], .int .i64 0] 8 rfl (by kernel_rfl) (by kernel_rfl) (by kernel_rfl) (by kernel_rfl) (by kernel_rfl) (laidWorld_met os _)) ?_
  intro W base args ds gs before hval0 hW hcnd hsz hL _
  have hT := globs hL
  have hval : ∀ (j : Nat) t v, Tryz.f6.params[j]? = some t → args[j]? = some v → Value.okWide Tryz.prog W .any base t v := hval0
  have hW' := hW
  obtain ⟨p, q, hA0, hV, rfl, hfz, hnd⟩ := hW
  have hA : DataW.TrodAll enc Tryz.prog W 0 (fun _ => true) true Tryz.f6.params.toList args.toList ds p := hA0
  rw [Tryz.params6] at hA hval
  obtain ⟨v0, vs0, d0, ds0, p0, q0, hargs, rfl, rfl, h0, r0⟩ := trodAll_cons hA
  obtain ⟨v1, vs1, d1, ds1, p1, q1, rfl, rfl, rfl, h1, r1⟩ := trodAll_cons r0
  obtain ⟨rfl, rfl, rfl⟩ := trodAll_nil r1
  obtain rfl : args = #[v0, v1] := by cases args; simp_all
  obtain ⟨rfl, rfl⟩ := trodVars_none hV
  obtain ⟨a0, rfl, _⟩ := okWide_struct Tryz.underlying38 (hval 0 38 v0 rfl rfl)
  have k0 := h0
  have lt0 : ∀ x ∈ p0, x.block < W.heap.size := by obtain ⟨m, hm⟩ := k0; exact DataW.trod_lt m _ _ _ hm
  obtain ⟨e0, w0, rr0⟩ := Ab.arg_aggB (n := 6) (s := (.cat (.int .i64) (.cat (.int .i64) (.cat (.int .i64) .unit)))) (t := 38) (by kernel_rfl) (fun n hn => by simpa using List.all_eq_true.1 hsz n (DataW.weights_mem_each (j := 0) (t := 38) (by kernel_rfl) rfl n hn)) h0
  obtain ⟨a1, rfl, rfl, rfl, w1⟩ := open_int Tryz.underlying2 (hval 1 2 v1 rfl rfl) h1
  clear hA0 hval0
  refine (walk a0 e0 a1 W hT w0 rr0 w1).mono fun e W' ⟨he, bel⟩ => ?_
  subst he
  exact ⟨_, rfl, _, _, _, [], _, [], hW', trodAll_mk1 (shut_bool Tryz.underlying4 _), (trodAll_cons_mk (Below.trod laidOut (by kernel_rfl) (of_decide_eq_true (by kernel_rfl)) k0 bel lt0) (trodAll_cons_mk (shut_int Tryz.underlying2 w1) trodAll_mk0)), rfl, bel.frame _, fun h => by cases h⟩

theorem over : Rows.aggNobodyRow.holds Tryz.pinned (OpenSpec.ofChange Rows.aggNobodySpec) :=
  OpenClaim.holds_of_wide 6 Tryz.f6 rfl rfl rfl rfl rfl rfl rfl ⟨rfl, rfl, rfl, rfl, rfl⟩ rfl rfl rfl rfl rfl (by kernel_rfl) Tryz.func6 (by kernel_rfl)
    (of_decide_eq_true (by kernel_rfl)) (by unfold Func.isWrapper; first | (rw [if_pos (by decide +kernel)]; kernel_rfl) | (rw [if_neg (by decide +kernel)]; exact ⟨rfl, rfl⟩))
    (fun os started H enc _ => lifted os started H enc)
theorem plainT : Tryz.f6.params.toList.all (fun t => !Tryz.prog.wantsStandIn t) = true := by kernel_rfl
theorem named : Tryz.prog.funcNamed Rows.aggNobodyRow.func = some 6 := by kernel_rfl

/-- The statement. -/
theorem proved : Rows.AggNobodyCardSaid :=
  Claim7.holds_tied_plain_at .later [] Rows.aggNobodyCard.laidKinds true Rows.aggNobodyCard.stood.harness Rows.aggNobodyCard.stood.looks over (fun _ h => by cases h) (by kernel_rfl) (fun _ h => by cases h) aggNobody_row_tie rfl ⟨rfl, rfl⟩ (by kernel_rfl) rfl
    (fun f fn hf hfn => by
      obtain rfl : f = 6 := (Option.some.inj (named.symm.trans hf)).symm
      obtain rfl : fn = Tryz.f6 := (Option.some.inj (Tryz.func6.symm.trans hfn)).symm
      refine ⟨by kernel_rfl, fun j t ht => ?_⟩
      have hm : t ∈ Tryz.f6.params.toList := List.mem_of_getElem? (by rw [Array.getElem?_toList]; exact ht)
      have h2 : Tryz.prog.wantsStandIn t = false := by simpa using List.all_eq_true.1 plainT t hm
      exact h2)
    (by kernel_rfl)
#print axioms proved
end Go.Proofs.YtpjfhfmbhjghcaaGreatDoor.aggNobody
