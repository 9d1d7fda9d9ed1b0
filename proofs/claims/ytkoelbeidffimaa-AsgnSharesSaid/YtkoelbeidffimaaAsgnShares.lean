/-
  For every tasks, alive and prev, the law AsgnShares returns true.
  Conditions: none besides those of the given row.
-/
import Derived.Test.YtkoelbeidffimaaRows
import Derived.WalkKit
import Derived.ProofKit
import Derived.OpenShut
import Derived.ShutString
import Derived.ChangeOld
import Derived.Below
import Derived.SizedLaws
import Derived.Test.YtkoelbeidffimaaAsI
namespace Go.Proofs.Ytkoelbeidffimaa.asgnShares
open Go.ChangeShapes Go.WideShapes Go.ChangeAt Go.RowKit
open Go.ChangeMaps (open_string shut_string)
set_option linter.unusedVariables false
set_option linter.unusedSimpArgs false

theorem own : ownKnob Try.prog.godebug = none := by kernel_rfl
theorem laidOut : laidOutB Try.prog = true := by kernel_rfl

/-! ### The walk, by the contract of the law -/
theorem walk (a0 : Int) (a1 : Option Addr) (len1 cap1 : Nat) (e1 : List (List Ab.V)) (a2 : Option Addr) (len2 cap2 : Nat) (e2 : List (List Ab.V)) (w : World) (w0 : (Lit.int .u8 a0).wf = true) (w1 : ∀ x ∈ e1, Ab.Sh.fitsB .bool x) (r1 : Ab.VRel (Ab.entryRen w) (.imm e1.length e1.flatten) (.slice a1 len1 cap1)) (n1 : e1.length < 2 ^ 47) (w2 : ∀ x ∈ e2, Ab.Sh.fitsB (.int .i64) x) (r2 : Ab.VRel (Ab.entryRen w) (.imm e2.length e2.flatten) (.slice a2 len2 cap2)) (n2 : e2.length < 2 ^ 47) :
    Calls Try.prog 11 #[.int .u8 a0, .slice a1 len1 cap1, .slice a2 len2 cap2] w fun e w' => e = .returned (.bool true) ∧ Below w.heap.size w w' := by
  obtain ⟨n, rfl, hn⟩ := Ab.wf_u8 w0
  obtain ⟨l, rfl⟩ := Ab.bools_of w1
  obtain ⟨p, rfl, hp⟩ := Ab.ints_of w2
  rw [List.length_map, Ab.flat_one] at r1 r2
  rw [List.length_map] at n2
  exact (Pk.asgnShares n l p hn n2 Ab.noHeap).calls rfl (.cons (.int _ _) (.cons r1 (.cons r2 (.nil _))))

/-! ### The row's step -/
set_option maxRecDepth 100000 in
theorem lifted (os : Os) (started : os.Started) (H : Type) (enc : TypeId × Value → H) :
    ReturnsInHanded {} Try.checked os 11 .any (Rows.asgnSharesSpec.pre6 enc Try.prog Try.f11 Rows.asgnSharesRow.domain false) (Rows.asgnSharesSpec.post enc Try.prog Try.f11 false true false false) := by
  refine returnsInHanded_of_change_sized (C := Try.checked) own started (by kernel_rfl) Try.func11
    (ChangeSpec.witness6 (enc := enc) (C := Try.checked) false ⟨#[], #[.int .u8 0, .slice none 0 0, .slice none 0 0], []⟩ 8 (by kernel_rfl) (by kernel_rfl) (by kernel_rfl) (by kernel_rfl)) ?_
  intro W base args ds gs before hval0 hW hcnd hsz _
  have hval : ∀ (j : Nat) t v, Try.f11.params[j]? = some t → args[j]? = some v → Value.okWide Try.prog W .any base t v := hval0
  have hW' := hW
  obtain ⟨p, q, hA0, hV, rfl, hfz, hnd⟩ := hW
  have hA : DataW.TrodAll enc Try.prog W 0 (fun _ => true) true Try.f11.params.toList args.toList ds p := hA0
  rw [Try.params11] at hA hval
  obtain ⟨v0, vs0, d0, ds0, p0, q0, hargs, rfl, rfl, h0, r0⟩ := trodAll_cons hA
  obtain ⟨v1, vs1, d1, ds1, p1, q1, rfl, rfl, rfl, h1, r1⟩ := trodAll_cons r0
  obtain ⟨v2, vs2, d2, ds2, p2, q2, rfl, rfl, rfl, h2, r2⟩ := trodAll_cons r1
  obtain ⟨rfl, rfl, rfl⟩ := trodAll_nil r2
  obtain rfl : args = #[v0, v1, v2] := by cases args; simp_all
  obtain ⟨rfl, rfl⟩ := trodVars_none hV
  obtain ⟨a0, rfl, rfl, rfl, w0⟩ := open_int Try.underlying5 (hval 0 5 v0 rfl rfl) h0
  obtain ⟨a1, len1, cap1, rfl⟩ := okWide_slice Try.underlying71 (hval 1 71 v1 rfl rfl)
  have k1 := h1
  have lt1 : ∀ x ∈ p1, x.block < W.heap.size := by obtain ⟨m, hm⟩ := k1; exact DataW.trod_lt m _ _ _ hm
  obtain ⟨e1, w1, rr1, n1⟩ := Ab.arg_sliceB (n := 6) (s := .bool) Try.underlying71 (by kernel_rfl) ⟨by kernel_rfl, by decide, of_decide_eq_true (by kernel_rfl)⟩ (fun n hn => by simpa using List.all_eq_true.1 hsz n (DataW.weights_mem_each (j := 1) (t := 71) (by kernel_rfl) rfl n hn)) h1
  obtain ⟨a2, len2, cap2, rfl⟩ := okWide_slice Try.underlying24 (hval 2 24 v2 rfl rfl)
  have k2 := h2
  have lt2 : ∀ x ∈ p2, x.block < W.heap.size := by obtain ⟨m, hm⟩ := k2; exact DataW.trod_lt m _ _ _ hm
  obtain ⟨e2, w2, rr2, n2⟩ := Ab.arg_sliceB (n := 6) (s := (.int .i64)) Try.underlying24 (by kernel_rfl) ⟨by kernel_rfl, by decide, of_decide_eq_true (by kernel_rfl)⟩ (fun n hn => by simpa using List.all_eq_true.1 hsz n (DataW.weights_mem_each (j := 2) (t := 24) (by kernel_rfl) rfl n hn)) h2
  clear hA0 hval0
  refine (walk a0 a1 len1 cap1 e1 a2 len2 cap2 e2 W w0 w1 rr1 n1 w2 rr2 n2).mono fun e W' ⟨he, bel⟩ => ?_
  subst he
  exact ⟨_, rfl, _, _, _, [], _, [], hW', trodAll_mk1 (shut_bool Try.underlying4 _), (trodAll_cons_mk (shut_int Try.underlying5 w0) (trodAll_cons_mk (Below.trod laidOut (by kernel_rfl) (of_decide_eq_true (by kernel_rfl)) k1 bel lt1) (trodAll_cons_mk (Below.trod laidOut (by kernel_rfl) (of_decide_eq_true (by kernel_rfl)) k2 bel lt2) trodAll_mk0))), rfl, bel.frame _, fun h => by cases h⟩

theorem over : Rows.asgnSharesRow.holds Try.pinned (OpenSpec.ofChange Rows.asgnSharesSpec) :=
  OpenClaim.holds_of_wide 11 Try.f11 rfl rfl rfl rfl rfl rfl rfl ⟨rfl, rfl, rfl, rfl, rfl⟩ rfl rfl rfl rfl rfl (by kernel_rfl) Try.func11 (by kernel_rfl)
    (of_decide_eq_true (by kernel_rfl)) (by unfold Func.isWrapper; first | (rw [if_pos (by decide +kernel)]; kernel_rfl) | (rw [if_neg (by decide +kernel)]; exact ⟨rfl, rfl⟩))
    (fun os started H enc _ => lifted os started H enc)

/-- The statement. -/
theorem proved : Rows.AsgnSharesSaid := over
#print axioms proved
end Go.Proofs.Ytkoelbeidffimaa.asgnShares
