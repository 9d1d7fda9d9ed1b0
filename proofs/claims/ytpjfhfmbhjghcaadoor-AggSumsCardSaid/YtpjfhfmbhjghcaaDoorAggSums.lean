/-
  For all arguments, the law AggSums returns true.
  Conditions: none besides those of the given row.
-/
import Derived.Test.YtpjfhfmbhjghcaaDoorRows
import Derived.WalkKit
import Derived.ProofKit
import Derived.OpenShut
import Derived.ShutString
import Derived.ChangeOld
import Derived.Below
import Derived.SizedLaws
import Derived.Test.YtpjfhfmbhjghcaaDoorAgS
import Derived.JoinedOf
import Derived.LaidLaws
import Derived.Test.YtpjfhfmbhjghcaaDoorCards
import Derived.Test.YtpjfhfmbhjghcaaDoorTie
namespace Go.Proofs.YtpjfhfmbhjghcaaDoor.aggSums
open Go.ChangeShapes Go.WideShapes Go.ChangeAt Go.RowKit
open Go.ChangeMaps (open_string shut_string)
set_option linter.unusedVariables false
set_option linter.unusedSimpArgs false

theorem own : ownKnob Tryd.prog.godebug = none := by kernel_rfl
theorem laidOut : laidOutB Tryd.prog = true := by kernel_rfl

/-! ### The walk, by the contract of the law -/
theorem walk (a0 : Option Addr) (len0 cap0 : Nat) (e0 : List (List Ab.V)) (a1 : Int) (w : World) (hT : Ab.GlobOk Pk.kgl w) (w0 : ∀ x ∈ e0, Ab.Sh.fitsB (.cat (.int .i64) (.cat (.int .i64) (.cat (.int .i64) .unit))) x) (r0 : Ab.VRel (Ab.entryRen w) (.imm e0.length e0.flatten) (.slice a0 len0 cap0)) (n0 : e0.length < 2 ^ 47) (b0 : e0.length * 24 ≤ 2 ^ 47) (w1 : (Lit.int .i64 a1).wf = true) :
    Calls Tryd.prog 3 #[.slice a0 len0 cap0, .int .i64 a1] w fun e w' => e = .returned (.bool true) ∧ Below w.heap.size w w' := by
  obtain ⟨l, hr1, hr2⟩ := Pk.map_of (fun _ => Pk.rec_of) w0
  rw [hr1, hr2] at r0
  exact (Pk.aggSums l a1 (by omega) _ Pk.kgOk).callsG rfl hT (.cons r0 (.cons (.int _ _) (.nil _)))

/-! ### The row's step -/
theorem laidM {W : World} (h : laidMetH Tryd.prog Rows.aggSumsRow.laid W) : laidMet Tryd.prog Rows.aggSumsRow.laid W := h
theorem globs {W : World} (hL : laidMetH Tryd.prog Rows.aggSumsRow.laid W) : Ab.GlobOk Pk.kgl W := by
  have h := laidM hL
  exact Pk.globOk (by kernel_rfl) (Lib.tabIs_of_head (k := .i64) (zs := Pk.kidsN) (rest := []) (g := 0) (t := 115) (e := 3) (n := 17) (by kernel_rfl) (by kernel_rfl) Tryd.underlying115 Tryd.underlying3 (by kernel_rfl) (by kernel_rfl) h)
/-- The settled world, the variable holding what its initialiser lays. -/
noncomputable def laidWorld (os : Os) : World :=
  { World.holding Tryd.prog os ⟨#[], #[], []⟩ with heap := (World.holding Tryd.prog os ⟨#[], #[], []⟩).heap.modify 0 fun
      | .cells _ t frozen => .cells (Pk.kidsN.map fun z => Value.int .i64 z).toArray t frozen
      | o => o }
theorem laidWorld_met (os : Os) (args : Array Value) : laidMetH Tryd.prog Rows.aggSumsRow.laid ((laidWorld os).forCall (fun _ _ => 0) ⟨#[], args, []⟩).memory :=
  (show laidMet Tryd.prog Rows.aggSumsRow.laid _ from laidMet_of_run' 8 (by kernel_rfl) (by kernel_rfl))

set_option maxRecDepth 100000 in
theorem lifted (os : Os) (started : os.Started) (H : Type) (enc : TypeId × Value → H) :
    ReturnsInHanded {} Tryd.checked os 3 .any (fun w args => (Rows.aggSumsSpec.pre enc Tryd.prog Tryd.f3 Rows.aggSumsRow.domain false w args ∧ laidMetH Tryd.prog Rows.aggSumsRow.laid w) ∧ sizedMet enc Tryd.prog Tryd.f3 (OpenSpec.ofChange Rows.aggSumsSpec) false w args) (Rows.aggSumsSpec.post enc Tryd.prog Tryd.f3 false true false false) := by
  refine returnsInHanded_of_change_and (C := Tryd.checked) (X := fun w _ => laidMetH Tryd.prog Rows.aggSumsRow.laid w) (fun _ _ _ hh h => h.of_heap hh) own started (by kernel_rfl) Tryd.func3
    (ChangeSpec.witness_at (enc := enc) (C := Tryd.checked) (os := os) (X := fun w _ => laidMetH Tryd.prog Rows.aggSumsRow.laid w) false (laidWorld os) #[.slice none 0 0, .int .i64 0] 8 rfl (by kernel_rfl) (by kernel_rfl) (by kernel_rfl) (by kernel_rfl) (by kernel_rfl) (laidWorld_met os _)) ?_
  intro W base args ds gs before hval0 hW hcnd hsz hL _
  have hT := globs hL
  have hval : ∀ (j : Nat) t v, Tryd.f3.params[j]? = some t → args[j]? = some v → Value.okWide Tryd.prog W .any base t v := hval0
  have hW' := hW
  obtain ⟨p, q, hA0, hV, rfl, hfz, hnd⟩ := hW
  have hA : DataW.TrodAll enc Tryd.prog W 0 (fun _ => true) true Tryd.f3.params.toList args.toList ds p := hA0
  rw [Tryd.params3] at hA hval
  obtain ⟨v0, vs0, d0, ds0, p0, q0, hargs, rfl, rfl, h0, r0⟩ := trodAll_cons hA
  obtain ⟨v1, vs1, d1, ds1, p1, q1, rfl, rfl, rfl, h1, r1⟩ := trodAll_cons r0
  obtain ⟨rfl, rfl, rfl⟩ := trodAll_nil r1
  obtain rfl : args = #[v0, v1] := by cases args; simp_all
  obtain ⟨rfl, rfl⟩ := trodVars_none hV
  obtain ⟨a0, len0, cap0, rfl⟩ := okWide_slice Tryd.underlying22 (hval 0 22 v0 rfl rfl)
  have k0 := h0
  have lt0 : ∀ x ∈ p0, x.block < W.heap.size := by obtain ⟨m, hm⟩ := k0; exact DataW.trod_lt m _ _ _ hm
  obtain ⟨e0, w0, rr0, n0⟩ := Ab.arg_sliceB (n := 6) (s := (.cat (.int .i64) (.cat (.int .i64) (.cat (.int .i64) .unit)))) Tryd.underlying22 (by kernel_rfl) ⟨by kernel_rfl, by decide, of_decide_eq_true (by kernel_rfl)⟩ (fun n hn => by simpa using List.all_eq_true.1 hsz n (DataW.weights_mem_each (j := 0) (t := 22) (by kernel_rfl) rfl n hn)) h0
  have b0 := Ab.arg_sliceW (k := 24) Tryd.underlying22 (by kernel_rfl) (fun n hn => by simpa using List.all_eq_true.1 hsz n (DataW.weights_mem_each (j := 0) (t := 22) (by kernel_rfl) rfl n hn)) h0 rr0
  obtain ⟨a1, rfl, rfl, rfl, w1⟩ := open_int Tryd.underlying2 (hval 1 2 v1 rfl rfl) h1
  clear hA0 hval0
  refine (walk a0 len0 cap0 e0 a1 W hT w0 rr0 n0 b0 w1).mono fun e W' ⟨he, bel⟩ => ?_
  subst he
  exact ⟨_, rfl, _, _, _, [], _, [], hW', trodAll_mk1 (shut_bool Tryd.underlying4 _), (trodAll_cons_mk (Below.trod laidOut (by kernel_rfl) (of_decide_eq_true (by kernel_rfl)) k0 bel lt0) (trodAll_cons_mk (shut_int Tryd.underlying2 w1) trodAll_mk0)), rfl, bel.frame _, fun h => by cases h⟩

theorem over : Rows.aggSumsRow.holds Tryd.pinned (OpenSpec.ofChange Rows.aggSumsSpec) :=
  OpenClaim.holds_of_wide 3 Tryd.f3 rfl rfl rfl rfl rfl rfl rfl ⟨rfl, rfl, rfl, rfl, rfl⟩ rfl rfl rfl rfl rfl (by kernel_rfl) Tryd.func3 (by kernel_rfl)
    (of_decide_eq_true (by kernel_rfl)) (by unfold Func.isWrapper; first | (rw [if_pos (by decide +kernel)]; kernel_rfl) | (rw [if_neg (by decide +kernel)]; exact ⟨rfl, rfl⟩))
    (fun os started H enc _ => lifted os started H enc)
theorem plainT : Tryd.f3.params.toList.all (fun t => !Tryd.prog.wantsStandIn t) = true := by kernel_rfl
theorem named : Tryd.prog.funcNamed Rows.aggSumsRow.func = some 3 := by kernel_rfl

/-- The statement. -/
theorem proved : Rows.AggSumsCardSaid :=
  Claim7.holds_tied_plain_at .later [] Rows.aggSumsCard.laidKinds true Rows.aggSumsCard.stood.harness Rows.aggSumsCard.stood.looks over (fun _ h => by cases h) (by kernel_rfl) (fun _ h => by cases h) aggSums_row_tie rfl ⟨rfl, rfl⟩ (by kernel_rfl) rfl
    (fun f fn hf hfn => by
      obtain rfl : f = 3 := (Option.some.inj (named.symm.trans hf)).symm
      obtain rfl : fn = Tryd.f3 := (Option.some.inj (Tryd.func3.symm.trans hfn)).symm
      refine ⟨by kernel_rfl, fun j t ht => ?_⟩
      have hm : t ∈ Tryd.f3.params.toList := List.mem_of_getElem? (by rw [Array.getElem?_toList]; exact ht)
      have h2 : Tryd.prog.wantsStandIn t = false := by simpa using List.all_eq_true.1 plainT t hm
      exact h2)
    (by kernel_rfl)
#print axioms proved
end Go.Proofs.YtpjfhfmbhjghcaaDoor.aggSums
