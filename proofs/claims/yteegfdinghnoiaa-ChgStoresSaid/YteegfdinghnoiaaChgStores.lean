/-
  For all arguments, the law ChgStores returns true.
  Conditions: none besides those of the given row.
-/
import Derived.Test.YteegfdinghnoiaaRows
import Derived.WalkKit
import Derived.ProofKit
import Derived.OpenShut
import Derived.ShutString
import Derived.ChangeOld
import Derived.Below
import Derived.SizedLaws
import Derived.Test.YteegfdinghnoiaaKsE
namespace Go.Proofs.Yteegfdinghnoiaa.chgStores
open Go.ChangeShapes Go.WideShapes Go.ChangeAt Go.RowKit
open Go.ChangeMaps (open_string shut_string)
set_option linter.unusedVariables false
set_option linter.unusedSimpArgs false

theorem own : ownKnob Try.prog.godebug = none := by kernel_rfl
theorem laidOut : laidOutB Try.prog = true := by kernel_rfl

/-! ### The walk, by the contract of the law -/
theorem walk (a0 : Option Addr) (len0 cap0 : Nat) (e0 : List (List Ab.V)) (w : World) (w0 : ∀ x ∈ e0, Ab.Sh.fitsB (.cat .bool (.cat (.int .i64) (.cat (.int .i64) (.cat (.int .i64) .unit)))) x) (r0 : Ab.VRel (Ab.entryRen w) (.imm e0.length e0.flatten) (.slice a0 len0 cap0)) (n0 : e0.length < 2 ^ 47) (b0 : e0.length * 32 ≤ 2 ^ 47) :
    Calls Try.prog 3 #[.slice a0 len0 cap0] w fun e w' => e = .returned (.bool true) ∧ Below w.heap.size w w' := by
  obtain ⟨l, hr1, hr2⟩ := Pk.map_of (fun _ => Pk.dd_of) w0
  rw [hr1, hr2] at r0
  exact (Pk.chgStores l (by omega) Ab.noHeap).calls rfl (.cons r0 (.nil _))

/-! ### The row's step -/
set_option maxRecDepth 100000 in
theorem lifted (os : Os) (started : os.Started) (H : Type) (enc : TypeId × Value → H) :
    ReturnsInHanded {} Try.checked os 3 .any (Rows.chgStoresSpec.pre6 enc Try.prog Try.f3 Rows.chgStoresRow.domain false) (Rows.chgStoresSpec.post enc Try.prog Try.f3 false true false false) := by
  refine returnsInHanded_of_change_sized (C := Try.checked) own started (by kernel_rfl) Try.func3
    (ChangeSpec.witness6 (enc := enc) (C := Try.checked) false ⟨#[], #[.slice none 0 0], []⟩ 8 (by kernel_rfl) (by kernel_rfl) (by kernel_rfl) (by kernel_rfl)) ?_
  intro W base args ds gs before hval0 hW hcnd hsz _
  have hval : ∀ (j : Nat) t v, Try.f3.params[j]? = some t → args[j]? = some v → Value.okWide Try.prog W .any base t v := hval0
  have hW' := hW
  obtain ⟨p, q, hA0, hV, rfl, hfz, hnd⟩ := hW
  have hA : DataW.TrodAll enc Try.prog W 0 (fun _ => true) true Try.f3.params.toList args.toList ds p := hA0
  rw [Try.params3] at hA hval
  obtain ⟨v0, vs0, d0, ds0, p0, q0, hargs, rfl, rfl, h0, r0⟩ := trodAll_cons hA
  obtain ⟨rfl, rfl, rfl⟩ := trodAll_nil r0
  obtain rfl : args = #[v0] := by cases args; simp_all
  obtain ⟨rfl, rfl⟩ := trodVars_none hV
  obtain ⟨a0, len0, cap0, rfl⟩ := okWide_slice Try.underlying22 (hval 0 22 v0 rfl rfl)
  have k0 := h0
  have lt0 : ∀ x ∈ p0, x.block < W.heap.size := by obtain ⟨m, hm⟩ := k0; exact DataW.trod_lt m _ _ _ hm
  obtain ⟨e0, w0, rr0, n0⟩ := Ab.arg_sliceB (n := 6) (s := (.cat .bool (.cat (.int .i64) (.cat (.int .i64) (.cat (.int .i64) .unit))))) Try.underlying22 (by kernel_rfl) ⟨by kernel_rfl, by decide, of_decide_eq_true (by kernel_rfl)⟩ (fun n hn => by simpa using List.all_eq_true.1 hsz n (DataW.weights_mem_each (j := 0) (t := 22) (by kernel_rfl) rfl n hn)) h0
  have b0 := Ab.arg_sliceW (k := 32) Try.underlying22 (by kernel_rfl) (fun n hn => by simpa using List.all_eq_true.1 hsz n (DataW.weights_mem_each (j := 0) (t := 22) (by kernel_rfl) rfl n hn)) h0 rr0
  clear hA0 hval0
  refine (walk a0 len0 cap0 e0 W w0 rr0 n0 b0).mono fun e W' ⟨he, bel⟩ => ?_
  subst he
  exact ⟨_, rfl, _, _, _, [], _, [], hW', trodAll_mk1 (shut_bool Try.underlying4 _), (trodAll_cons_mk (Below.trod laidOut (by kernel_rfl) (of_decide_eq_true (by kernel_rfl)) k0 bel lt0) trodAll_mk0), rfl, bel.frame _, fun h => by cases h⟩

theorem over : Rows.chgStoresRow.holds Try.pinned (OpenSpec.ofChange Rows.chgStoresSpec) :=
  OpenClaim.holds_of_wide 3 Try.f3 rfl rfl rfl rfl rfl rfl rfl ⟨rfl, rfl, rfl, rfl, rfl⟩ rfl rfl rfl rfl rfl (by kernel_rfl) Try.func3 (by kernel_rfl)
    (of_decide_eq_true (by kernel_rfl)) (by unfold Func.isWrapper; first | (rw [if_pos (by decide +kernel)]; kernel_rfl) | (rw [if_neg (by decide +kernel)]; exact ⟨rfl, rfl⟩))
    (fun os started H enc _ => lifted os started H enc)

/-- The statement. -/
theorem proved : Rows.ChgStoresSaid := over
#print axioms proved
end Go.Proofs.Yteegfdinghnoiaa.chgStores
