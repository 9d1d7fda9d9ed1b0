/-
  For all arguments, the law SlotAgain returns true.
  Conditions: none besides those of the given row.
-/
import Derived.Test.YtlbekgogjlchjaaRows
import Derived.WalkKit
import Derived.ProofKit
import Derived.OpenShut
import Derived.ShutString
import Derived.ChangeOld
import Derived.Below
import Derived.SizedLaws
import Derived.Test.YtlbekgogjlchjaaSlW
namespace Go.Proofs.Ytlbekgogjlchjaa.slotAgain
open Go.ChangeShapes Go.WideShapes Go.ChangeAt Go.RowKit
open Go.ChangeMaps (open_string shut_string)
set_option linter.unusedVariables false
set_option linter.unusedSimpArgs false

theorem own : ownKnob Try.prog.godebug = none := by kernel_rfl
theorem laidOut : laidOutB Try.prog = true := by kernel_rfl

/-! ### The walk, by the contract of the law -/
theorem walk (a0 : Int) (a1 : Int) (a2 : Option Addr) (len2 cap2 : Nat) (e2 : List (List Ab.V)) (a3 : Option Addr) (len3 cap3 : Nat) (e3 : List (List Ab.V)) (w : World) (w0 : (Lit.int .u16 a0).wf = true) (w1 : (Lit.int .u16 a1).wf = true) (w2 : ∀ x ∈ e2, Ab.Sh.fitsB (.int .u8) x) (r2 : Ab.VRel (Ab.entryRen w) (.imm e2.length e2.flatten) (.slice a2 len2 cap2)) (n2 : e2.length < 2 ^ 47) (w3 : ∀ x ∈ e3, Ab.Sh.fitsB (.int .u8) x) (r3 : Ab.VRel (Ab.entryRen w) (.imm e3.length e3.flatten) (.slice a3 len3 cap3)) (n3 : e3.length < 2 ^ 47) :
    Calls Try.prog 5 #[.int .u16 a0, .int .u16 a1, .slice a2 len2 cap2, .slice a3 len3 cap3] w fun e w' => e = .returned (.bool true) ∧ Below w.heap.size w w' := by
  obtain ⟨at_, rfl, ha⟩ := Pk.wf_u16n w0
  obtain ⟨ep, rfl, he⟩ := Pk.wf_u16n w1
  obtain ⟨b, rfl, hb⟩ := Pk.bytes_nat w2
  obtain ⟨c, rfl, hc⟩ := Pk.bytes_nat w3
  rw [List.length_map, Pk.flat_nat] at r2 r3
  rw [List.length_map] at n2 n3
  exact (Pk.slotAgain at_ ep b c ha he hb hc (by omega) (by omega) Ab.noHeap).calls rfl (.cons (.int _ _) (.cons (.int _ _) (.cons r2 (.cons r3 (.nil _)))))

/-! ### The row's step -/
set_option maxRecDepth 100000 in
theorem lifted (os : Os) (started : os.Started) (H : Type) (enc : TypeId × Value → H) :
    ReturnsInHanded {} Try.checked os 5 .any (Rows.slotAgainSpec.pre6 enc Try.prog Try.f5 Rows.slotAgainRow.domain false) (Rows.slotAgainSpec.post enc Try.prog Try.f5 false true false false) := by
  refine returnsInHanded_of_change_sized (C := Try.checked) own started (by kernel_rfl) Try.func5
    (ChangeSpec.witness6 (enc := enc) (C := Try.checked) false ⟨#[], #[.int .u16 0, .int .u16 0, .slice none 0 0, .slice none 0 0], []⟩ 8 (by kernel_rfl) (by kernel_rfl) (by kernel_rfl) (by kernel_rfl)) ?_
  intro W base args ds gs before hval0 hW hcnd hsz _
  have hval : ∀ (j : Nat) t v, Try.f5.params[j]? = some t → args[j]? = some v → Value.okWide Try.prog W .any base t v := hval0
  have hW' := hW
  obtain ⟨p, q, hA0, hV, rfl, hfz, hnd⟩ := hW
  have hA : DataW.TrodAll enc Try.prog W 0 (fun _ => true) true Try.f5.params.toList args.toList ds p := hA0
  rw [Try.params5] at hA hval
  obtain ⟨v0, vs0, d0, ds0, p0, q0, hargs, rfl, rfl, h0, r0⟩ := trodAll_cons hA
  obtain ⟨v1, vs1, d1, ds1, p1, q1, rfl, rfl, rfl, h1, r1⟩ := trodAll_cons r0
  obtain ⟨v2, vs2, d2, ds2, p2, q2, rfl, rfl, rfl, h2, r2⟩ := trodAll_cons r1
  obtain ⟨v3, vs3, d3, ds3, p3, q3, rfl, rfl, rfl, h3, r3⟩ := trodAll_cons r2
  obtain ⟨rfl, rfl, rfl⟩ := trodAll_nil r3
  obtain rfl : args = #[v0, v1, v2, v3] := by cases args; simp_all
  obtain ⟨rfl, rfl⟩ := trodVars_none hV
  obtain ⟨a0, rfl, rfl, rfl, w0⟩ := open_int Try.underlying44 (hval 0 44 v0 rfl rfl) h0
  obtain ⟨a1, rfl, rfl, rfl, w1⟩ := open_int Try.underlying44 (hval 1 44 v1 rfl rfl) h1
  obtain ⟨a2, len2, cap2, rfl⟩ := okWide_slice Try.underlying30 (hval 2 30 v2 rfl rfl)
  have k2 := h2
  have lt2 : ∀ x ∈ p2, x.block < W.heap.size := by obtain ⟨m, hm⟩ := k2; exact DataW.trod_lt m _ _ _ hm
  obtain ⟨e2, w2, rr2, n2⟩ := Ab.arg_sliceB (n := 6) (s := (.int .u8)) Try.underlying30 (by kernel_rfl) ⟨by kernel_rfl, by decide, of_decide_eq_true (by kernel_rfl)⟩ (fun n hn => by simpa using List.all_eq_true.1 hsz n (DataW.weights_mem_each (j := 2) (t := 30) (by kernel_rfl) rfl n hn)) h2
  obtain ⟨a3, len3, cap3, rfl⟩ := okWide_slice Try.underlying30 (hval 3 30 v3 rfl rfl)
  have k3 := h3
  have lt3 : ∀ x ∈ p3, x.block < W.heap.size := by obtain ⟨m, hm⟩ := k3; exact DataW.trod_lt m _ _ _ hm
  obtain ⟨e3, w3, rr3, n3⟩ := Ab.arg_sliceB (n := 6) (s := (.int .u8)) Try.underlying30 (by kernel_rfl) ⟨by kernel_rfl, by decide, of_decide_eq_true (by kernel_rfl)⟩ (fun n hn => by simpa using List.all_eq_true.1 hsz n (DataW.weights_mem_each (j := 3) (t := 30) (by kernel_rfl) rfl n hn)) h3
  clear hA0 hval0
  refine (walk a0 a1 a2 len2 cap2 e2 a3 len3 cap3 e3 W w0 w1 w2 rr2 n2 w3 rr3 n3).mono fun e W' ⟨he, bel⟩ => ?_
  subst he
  exact ⟨_, rfl, _, _, _, [], _, [], hW', trodAll_mk1 (shut_bool Try.underlying4 _), (trodAll_cons_mk (shut_int Try.underlying44 w0) (trodAll_cons_mk (shut_int Try.underlying44 w1) (trodAll_cons_mk (Below.trod laidOut (by kernel_rfl) (of_decide_eq_true (by kernel_rfl)) k2 bel lt2) (trodAll_cons_mk (Below.trod laidOut (by kernel_rfl) (of_decide_eq_true (by kernel_rfl)) k3 bel lt3) trodAll_mk0)))), rfl, bel.frame _, fun h => by cases h⟩

theorem over : Rows.slotAgainRow.holds Try.pinned (OpenSpec.ofChange Rows.slotAgainSpec) :=
  OpenClaim.holds_of_wide 5 Try.f5 rfl rfl rfl rfl rfl rfl rfl ⟨rfl, rfl, rfl, rfl, rfl⟩ rfl rfl rfl rfl rfl (by kernel_rfl) Try.func5 (by kernel_rfl)
    (of_decide_eq_true (by kernel_rfl)) (by unfold Func.isWrapper; first | (rw [if_pos (by decide +kernel)]; kernel_rfl) | (rw [if_neg (by decide +kernel)]; exact ⟨rfl, rfl⟩))
    (fun os started H enc _ => lifted os started H enc)

/-- The statement. -/
theorem proved : Rows.SlotAgainSaid := over
#print axioms proved
end Go.Proofs.Ytlbekgogjlchjaa.slotAgain
