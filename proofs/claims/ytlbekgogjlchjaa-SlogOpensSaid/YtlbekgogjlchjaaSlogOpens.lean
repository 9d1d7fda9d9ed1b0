/-
  For all arguments, the law SlogOpens returns true.
  Conditions: none besides those of the given row.
-/
import Derived.Test.YtlbekgogjlchjaaRows
import Derived.WalkKit
import Derived.ProofKit
import Derived.OpenShut
import Derived.ShutString
import Derived.ChangeOld
import Derived.Below
import Derived.SizedLaws
import Derived.Test.YtlbekgogjlchjaaSoYR
namespace Go.Proofs.Ytlbekgogjlchjaa.slogOpens
open Go.ChangeShapes Go.WideShapes Go.ChangeAt Go.RowKit
open Go.ChangeMaps (open_string shut_string)
set_option linter.unusedVariables false
set_option linter.unusedSimpArgs false

theorem own : ownKnob Try.prog.godebug = none := by kernel_rfl
theorem laidOut : laidOutB Try.prog = true := by kernel_rfl

/-! ### The walk, by the contract of the law -/
theorem walk (a0 : Option Addr) (len0 cap0 : Nat) (e0 : List (List Ab.V)) (a1 : Option Addr) (len1 cap1 : Nat) (e1 : List (List Ab.V)) (w : World) (w0 : ∀ x ∈ e0, Ab.Sh.fitsB (.sl (.int .u8)) x) (r0 : Ab.VRel (Ab.entryRen w) (.imm e0.length e0.flatten) (.slice a0 len0 cap0)) (n0 : e0.length < 2 ^ 47) (b0 : e0.length * 24 ≤ 2 ^ 47) (w1 : ∀ x ∈ e1, Ab.Sh.fitsB (.int .u8) x) (r1 : Ab.VRel (Ab.entryRen w) (.imm e1.length e1.flatten) (.slice a1 len1 cap1)) (n1 : e1.length < 2 ^ 47) :
    Calls Try.prog 12 #[.slice a0 len0 cap0, .slice a1 len1 cap1] w fun e w' => e = .returned (.bool true) ∧ Below w.heap.size w w' := by
  obtain ⟨l, h1, h2, h3⟩ := Pk.brow_of w0
  rw [h1, h2] at r0
  rw [h1] at n0
  obtain ⟨who, rfl, hb⟩ := Pk.bytes_nat w1
  rw [List.length_map, Pk.flat_nat] at r1
  rw [List.length_map] at n1
  exact (Pk.slogOpens l (by omega) (fun b hb => (h3 b hb).1) who (by omega) hb Ab.noHeap).calls rfl (.cons r0 (.cons r1 (.nil _)))

/-! ### The row's step -/
set_option maxRecDepth 100000 in
theorem lifted (os : Os) (started : os.Started) (H : Type) (enc : TypeId × Value → H) :
    ReturnsInHanded {} Try.checked os 12 .any (Rows.slogOpensSpec.pre6 enc Try.prog Try.f12 Rows.slogOpensRow.domain false) (Rows.slogOpensSpec.post enc Try.prog Try.f12 false true false false) := by
  refine returnsInHanded_of_change_sized (C := Try.checked) own started (by kernel_rfl) Try.func12
    (ChangeSpec.witness6 (enc := enc) (C := Try.checked) false ⟨#[], #[.slice none 0 0, .slice none 0 0], []⟩ 8 (by kernel_rfl) (by kernel_rfl) (by kernel_rfl) (by kernel_rfl)) ?_
  intro W base args ds gs before hval0 hW hcnd hsz _
  have hval : ∀ (j : Nat) t v, Try.f12.params[j]? = some t → args[j]? = some v → Value.okWide Try.prog W .any base t v := hval0
  have hW' := hW
  obtain ⟨p, q, hA0, hV, rfl, hfz, hnd⟩ := hW
  have hA : DataW.TrodAll enc Try.prog W 0 (fun _ => true) true Try.f12.params.toList args.toList ds p := hA0
  rw [Try.params12] at hA hval
  obtain ⟨v0, vs0, d0, ds0, p0, q0, hargs, rfl, rfl, h0, r0⟩ := trodAll_cons hA
  obtain ⟨v1, vs1, d1, ds1, p1, q1, rfl, rfl, rfl, h1, r1⟩ := trodAll_cons r0
  obtain ⟨rfl, rfl, rfl⟩ := trodAll_nil r1
  obtain rfl : args = #[v0, v1] := by cases args; simp_all
  obtain ⟨rfl, rfl⟩ := trodVars_none hV
  obtain ⟨a0, len0, cap0, rfl⟩ := okWide_slice Try.underlying54 (hval 0 54 v0 rfl rfl)
  have k0 := h0
  have lt0 : ∀ x ∈ p0, x.block < W.heap.size := by obtain ⟨m, hm⟩ := k0; exact DataW.trod_lt m _ _ _ hm
  obtain ⟨e0, w0, rr0, n0⟩ := Ab.arg_sliceB (n := 6) (s := (.sl (.int .u8))) Try.underlying54 (by kernel_rfl) ⟨by kernel_rfl, by decide, of_decide_eq_true (by kernel_rfl)⟩ (fun n hn => by simpa using List.all_eq_true.1 hsz n (DataW.weights_mem_each (j := 0) (t := 54) (by kernel_rfl) rfl n hn)) h0
  have b0 := Ab.arg_sliceW (k := 24) Try.underlying54 (by kernel_rfl) (fun n hn => by simpa using List.all_eq_true.1 hsz n (DataW.weights_mem_each (j := 0) (t := 54) (by kernel_rfl) rfl n hn)) h0 rr0
  obtain ⟨a1, len1, cap1, rfl⟩ := okWide_slice Try.underlying30 (hval 1 30 v1 rfl rfl)
  have k1 := h1
  have lt1 : ∀ x ∈ p1, x.block < W.heap.size := by obtain ⟨m, hm⟩ := k1; exact DataW.trod_lt m _ _ _ hm
  obtain ⟨e1, w1, rr1, n1⟩ := Ab.arg_sliceB (n := 6) (s := (.int .u8)) Try.underlying30 (by kernel_rfl) ⟨by kernel_rfl, by decide, of_decide_eq_true (by kernel_rfl)⟩ (fun n hn => by simpa using List.all_eq_true.1 hsz n (DataW.weights_mem_each (j := 1) (t := 30) (by kernel_rfl) rfl n hn)) h1
  clear hA0 hval0
  refine (walk a0 len0 cap0 e0 a1 len1 cap1 e1 W w0 rr0 n0 b0 w1 rr1 n1).mono fun e W' ⟨he, bel⟩ => ?_
  subst he
  exact ⟨_, rfl, _, _, _, [], _, [], hW', trodAll_mk1 (shut_bool Try.underlying4 _), (trodAll_cons_mk (Below.trod laidOut (by kernel_rfl) (of_decide_eq_true (by kernel_rfl)) k0 bel lt0) (trodAll_cons_mk (Below.trod laidOut (by kernel_rfl) (of_decide_eq_true (by kernel_rfl)) k1 bel lt1) trodAll_mk0)), rfl, bel.frame _, fun h => by cases h⟩

theorem over : Rows.slogOpensRow.holds Try.pinned (OpenSpec.ofChange Rows.slogOpensSpec) :=
  OpenClaim.holds_of_wide 12 Try.f12 rfl rfl rfl rfl rfl rfl rfl ⟨rfl, rfl, rfl, rfl, rfl⟩ rfl rfl rfl rfl rfl (by kernel_rfl) Try.func12 (by kernel_rfl)
    (of_decide_eq_true (by kernel_rfl)) (by unfold Func.isWrapper; first | (rw [if_pos (by decide +kernel)]; kernel_rfl) | (rw [if_neg (by decide +kernel)]; exact ⟨rfl, rfl⟩))
    (fun os started H enc _ => lifted os started H enc)

/-- The statement. -/
theorem proved : Rows.SlogOpensSaid := over
#print axioms proved
end Go.Proofs.Ytlbekgogjlchjaa.slogOpens
