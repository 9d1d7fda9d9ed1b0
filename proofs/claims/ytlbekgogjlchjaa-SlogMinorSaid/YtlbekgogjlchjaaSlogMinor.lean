/-
  For all arguments, the law SlogMinor returns true.
  Conditions: none besides those of the given row.
-/
import Derived.Test.YtlbekgogjlchjaaRows
import Derived.WalkKit
import Derived.ProofKit
import Derived.OpenShut
import Derived.ShutString
import Derived.ChangeOld
import Derived.Below
import Derived.SizedLaws
import Derived.Test.YtlbekgogjlchjaaSnYP
namespace Go.Proofs.Ytlbekgogjlchjaa.slogMinor
open Go.ChangeShapes Go.WideShapes Go.ChangeAt Go.RowKit
open Go.ChangeMaps (open_string shut_string)
set_option linter.unusedVariables false
set_option linter.unusedSimpArgs false

theorem own : ownKnob Try.prog.godebug = none := by kernel_rfl
theorem laidOut : laidOutB Try.prog = true := by kernel_rfl

/-! ### The walk, by the contract of the law -/
theorem walk (a0 : Int) (a1 : Option Addr) (len1 cap1 : Nat) (e1 : List (List Ab.V)) (a2 : Option Addr) (len2 cap2 : Nat) (e2 : List (List Ab.V)) (w : World) (w0 : (Lit.int .u8 a0).wf = true) (w1 : ∀ x ∈ e1, Ab.Sh.fitsB (.sl (.int .u8)) x) (r1 : Ab.VRel (Ab.entryRen w) (.imm e1.length e1.flatten) (.slice a1 len1 cap1)) (n1 : e1.length < 2 ^ 47) (b1 : e1.length * 24 ≤ 2 ^ 47) (w2 : ∀ x ∈ e2, Ab.Sh.fitsB .bool x) (r2 : Ab.VRel (Ab.entryRen w) (.imm e2.length e2.flatten) (.slice a2 len2 cap2)) (n2 : e2.length < 2 ^ 47) :
    Calls Try.prog 9 #[.int .u8 a0, .slice a1 len1 cap1, .slice a2 len2 cap2] w fun e w' => e = .returned (.bool true) ∧ Below w.heap.size w w' := by
  obtain ⟨n, rfl, hn⟩ := Pk.wf_u8n w0
  obtain ⟨l, h1, h2, h3⟩ := Pk.brow_of w1
  rw [h1, h2] at r1
  rw [h1] at n1
  obtain ⟨r, g1, g2⟩ := Pk.bools_of w2
  rw [g1, g2] at r2
  rw [g1] at n2
  exact (Pk.slogMinor n hn l (by omega) (fun b hb => (h3 b hb).1) (fun b hb => (h3 b hb).2) r (by omega) Ab.noHeap).calls rfl (.cons (.int _ _) (.cons r1 (.cons r2 (.nil _))))

/-! ### The row's step -/
set_option maxRecDepth 100000 in
theorem lifted (os : Os) (started : os.Started) (H : Type) (enc : TypeId × Value → H) :
    ReturnsInHanded {} Try.checked os 9 .any (Rows.slogMinorSpec.pre6 enc Try.prog Try.f9 Rows.slogMinorRow.domain false) (Rows.slogMinorSpec.post enc Try.prog Try.f9 false true false false) := by
  refine returnsInHanded_of_change_sized (C := Try.checked) own started (by kernel_rfl) Try.func9
    (ChangeSpec.witness6 (enc := enc) (C := Try.checked) false ⟨#[], #[.int .u8 0, .slice none 0 0, .slice none 0 0], []⟩ 8 (by kernel_rfl) (by kernel_rfl) (by kernel_rfl) (by kernel_rfl)) ?_
  intro W base args ds gs before hval0 hW hcnd hsz _
  have hval : ∀ (j : Nat) t v, Try.f9.params[j]? = some t → args[j]? = some v → Value.okWide Try.prog W .any base t v := hval0
  have hW' := hW
  obtain ⟨p, q, hA0, hV, rfl, hfz, hnd⟩ := hW
  have hA : DataW.TrodAll enc Try.prog W 0 (fun _ => true) true Try.f9.params.toList args.toList ds p := hA0
  rw [Try.params9] at hA hval
  obtain ⟨v0, vs0, d0, ds0, p0, q0, hargs, rfl, rfl, h0, r0⟩ := trodAll_cons hA
  obtain ⟨v1, vs1, d1, ds1, p1, q1, rfl, rfl, rfl, h1, r1⟩ := trodAll_cons r0
  obtain ⟨v2, vs2, d2, ds2, p2, q2, rfl, rfl, rfl, h2, r2⟩ := trodAll_cons r1
  obtain ⟨rfl, rfl, rfl⟩ := trodAll_nil r2
  obtain rfl : args = #[v0, v1, v2] := by cases args; simp_all
  obtain ⟨rfl, rfl⟩ := trodVars_none hV
  obtain ⟨a0, rfl, rfl, rfl, w0⟩ := open_int Try.underlying5 (hval 0 5 v0 rfl rfl) h0
  obtain ⟨a1, len1, cap1, rfl⟩ := okWide_slice Try.underlying54 (hval 1 54 v1 rfl rfl)
  have k1 := h1
  have lt1 : ∀ x ∈ p1, x.block < W.heap.size := by obtain ⟨m, hm⟩ := k1; exact DataW.trod_lt m _ _ _ hm
  obtain ⟨e1, w1, rr1, n1⟩ := Ab.arg_sliceB (n := 6) (s := (.sl (.int .u8))) Try.underlying54 (by kernel_rfl) ⟨by kernel_rfl, by decide, of_decide_eq_true (by kernel_rfl)⟩ (fun n hn => by simpa using List.all_eq_true.1 hsz n (DataW.weights_mem_each (j := 1) (t := 54) (by kernel_rfl) rfl n hn)) h1
  have b1 := Ab.arg_sliceW (k := 24) Try.underlying54 (by kernel_rfl) (fun n hn => by simpa using List.all_eq_true.1 hsz n (DataW.weights_mem_each (j := 1) (t := 54) (by kernel_rfl) rfl n hn)) h1 rr1
  obtain ⟨a2, len2, cap2, rfl⟩ := okWide_slice Try.underlying55 (hval 2 55 v2 rfl rfl)
  have k2 := h2
  have lt2 : ∀ x ∈ p2, x.block < W.heap.size := by obtain ⟨m, hm⟩ := k2; exact DataW.trod_lt m _ _ _ hm
  obtain ⟨e2, w2, rr2, n2⟩ := Ab.arg_sliceB (n := 6) (s := .bool) Try.underlying55 (by kernel_rfl) ⟨by kernel_rfl, by decide, of_decide_eq_true (by kernel_rfl)⟩ (fun n hn => by simpa using List.all_eq_true.1 hsz n (DataW.weights_mem_each (j := 2) (t := 55) (by kernel_rfl) rfl n hn)) h2
  clear hA0 hval0
  refine (walk a0 a1 len1 cap1 e1 a2 len2 cap2 e2 W w0 w1 rr1 n1 b1 w2 rr2 n2).mono fun e W' ⟨he, bel⟩ => ?_
  subst he
  exact ⟨_, rfl, _, _, _, [], _, [], hW', trodAll_mk1 (shut_bool Try.underlying4 _), (trodAll_cons_mk (shut_int Try.underlying5 w0) (trodAll_cons_mk (Below.trod laidOut (by kernel_rfl) (of_decide_eq_true (by kernel_rfl)) k1 bel lt1) (trodAll_cons_mk (Below.trod laidOut (by kernel_rfl) (of_decide_eq_true (by kernel_rfl)) k2 bel lt2) trodAll_mk0))), rfl, bel.frame _, fun h => by cases h⟩

theorem over : Rows.slogMinorRow.holds Try.pinned (OpenSpec.ofChange Rows.slogMinorSpec) :=
  OpenClaim.holds_of_wide 9 Try.f9 rfl rfl rfl rfl rfl rfl rfl ⟨rfl, rfl, rfl, rfl, rfl⟩ rfl rfl rfl rfl rfl (by kernel_rfl) Try.func9 (by kernel_rfl)
    (of_decide_eq_true (by kernel_rfl)) (by unfold Func.isWrapper; first | (rw [if_pos (by decide +kernel)]; kernel_rfl) | (rw [if_neg (by decide +kernel)]; exact ⟨rfl, rfl⟩))
    (fun os started H enc _ => lifted os started H enc)

/-- The statement. -/
theorem proved : Rows.SlogMinorSaid := over
#print axioms proved
end Go.Proofs.Ytlbekgogjlchjaa.slogMinor
