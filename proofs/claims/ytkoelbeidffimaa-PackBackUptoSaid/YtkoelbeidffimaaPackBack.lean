/-
  For every n, m, x and l of bulk at most 1048576, the law PackBack returns true.
  Conditions: The arguments are together of bulk at most 1048576.
-/
import Derived.Test.YtkoelbeidffimaaRows
import Derived.WalkKit
import Derived.ProofKit
import Derived.OpenShut
import Derived.ShutString
import Derived.ChangeOld
import Derived.Below
import Derived.SizedLaws
import Derived.JoinedCond
import Derived.Test.YtkoelbeidffimaaPaN
namespace Go.Proofs.Ytkoelbeidffimaa.packBack
open Go.ChangeShapes Go.WideShapes Go.ChangeAt Go.RowKit
open Go.ChangeMaps (open_string shut_string)
set_option linter.unusedVariables false
set_option linter.unusedSimpArgs false

theorem own : ownKnob Try.prog.godebug = none := by kernel_rfl
theorem laidOut : laidOutB Try.prog = true := by kernel_rfl

/-! ### The bulk of what came in -/
theorem sum_eq {H : Type} (l : List (DataW H)) : Ab.sumB Rows.uptoBulk l = Rows.uptoBulkAll l := by
  induction l with
  | nil => simp [Ab.sumB, Rows.uptoBulkAll]
  | cons x l ih => simp only [Ab.sumB, Rows.uptoBulkAll, ih]
theorem isBulk {H : Type} : Ab.IsBulk (Rows.uptoBulk (H := H)) where
  lit l := by cases l <;> simp [Rows.uptoBulk]
  str bs := by simp [Rows.uptoBulk]
  nil := by simp [Rows.uptoBulk]
  slice es sp := by rw [sum_eq]; simp only [Rows.uptoBulk]; omega
  agg ps := by rw [sum_eq]; simp only [Rows.uptoBulk]; omega

/-! ### The walk, by the contract of the law -/
theorem walk (a0 : Int) (a1 : Int) (a2 : Option Addr) (len2 cap2 : Nat) (e2 : List (List Ab.V)) (a3 : Option Addr) (len3 cap3 : Nat) (e3 : List (List Ab.V)) (w : World) (w0 : (Lit.int .u64 a0).wf = true) (w1 : (Lit.int .i64 a1).wf = true) (w2 : ∀ x ∈ e2, Ab.Sh.fitsB (.int .u8) x) (r2 : Ab.VRel (Ab.entryRen w) (.imm e2.length e2.flatten) (.slice a2 len2 cap2)) (w3 : ∀ x ∈ e3, Ab.Sh.fitsB (.int .i32) x) (r3 : Ab.VRel (Ab.entryRen w) (.imm e3.length e3.flatten) (.slice a3 len3 cap3)) (mm : Ab.massL e2.flatten + Ab.massL e3.flatten ≤ 1048576) :
    Calls Try.prog 5 #[.int .u64 a0, .int .i64 a1, .slice a2 len2 cap2, .slice a3 len3 cap3] w fun e w' => e = .returned (.bool true) ∧ Below w.heap.size w w' := by
  obtain ⟨n, rfl, hn⟩ := Pk.wf_u64' w0
  obtain ⟨x, rfl, hx⟩ := Pk.bytes_nat w2
  obtain ⟨l, rfl, hl⟩ := Pk.ints_of w3
  rw [Pk.flat_nat, Pk.flat_ints, Pk.mass_bytes, Pk.mass_ints] at mm
  rw [List.length_map, Pk.flat_nat] at r2
  rw [List.length_map, Pk.flat_ints] at r3
  have h32 : ∀ n ∈ l, -2147483648 ≤ n ∧ n ≤ 2147483647 := fun n hn => by
    have h := hl n hn
    simp only [Lit.wf, Bool.and_eq_true, decide_eq_true_eq] at h
    exact h
  exact (Pk.packBack n a1 x l hn (Pk.wf_i64' w1) hx h32 (by omega) Ab.noHeap).calls rfl (.cons (.int _ _) (.cons (.int _ _) (.cons r2 (.cons r3 (.nil _)))))

/-! ### The row's step -/
set_option maxRecDepth 100000 in
theorem lifted (os : Os) (started : os.Started) (H : Type) (enc : TypeId × Value → H) (F : Stop.Interp) :
    ReturnsInHanded {} Try.checked os 5 .any ((Rows.OpenSpec.upto Rows.packBackSpec).pre6 enc Try.prog Try.f5 Rows.packBackUptoRow.domain false) (((Rows.OpenSpec.upto Rows.packBackSpec).at F).post enc Try.prog Try.f5 false true false false) := by
  refine returnsInHanded_of_cond (C := Try.checked) (s := Rows.OpenSpec.upto Rows.packBackSpec) (k := Rows.uptoSmall) rfl own started (by kernel_rfl) Try.func5
    (OpenSpec.witness (enc := enc) (C := Try.checked) (s := Rows.OpenSpec.upto Rows.packBackSpec) (k := Rows.uptoSmall) rfl false ⟨#[], #[.int .u64 0, .int .i64 0, .slice none 0 0, .slice none 0 0], []⟩ 8 (by kernel_rfl) (by kernel_rfl) (by kernel_rfl)
      (x := ([.lit (.int .u64 0), .lit (.int .i64 0), .nil, .nil], [], [])) (by kernel_rfl) rfl (by kernel_rfl)) ?_
  intro W base args ds gs before hval0 hW hcnd hk _
  have hval : ∀ (j : Nat) t v, Try.f5.params[j]? = some t → args[j]? = some v → Value.okWide Try.prog W .any base t v := hval0
  have hW' := hW
  obtain ⟨p, q, hA0, hV, rfl, hfz, hnd⟩ := hW
  have hA : DataW.TrodAll enc Try.prog W 0 (fun _ => true) true Try.f5.params.toList args.toList ds p := hA0
  rw [Try.params5] at hA hval
  obtain ⟨v0, vs0, d0, ds0, p0, q0, hargs, rfl, rfl, h0, r0⟩ := trodAll_cons hA
  obtain ⟨v1, vs1, d1, ds1, p1, q1, rfl, rfl, rfl, h1, r1⟩ := trodAll_cons r0
  obtain ⟨v2, vs2, d2, ds2, p2, q2, rfl, rfl, rfl, h2, r2⟩ := trodAll_cons r1
  obtain ⟨v3, vs3, d3, ds3, p3, q3, rfl, rfl, rfl, h3, r3⟩ := trodAll_cons r2
  obtain ⟨rfl, rfl, rfl⟩ := trodAll_nil r3
  obtain rfl : args = #[v0, v1, v2, v3] := by cases args; simp_all
  obtain ⟨rfl, rfl⟩ := trodVars_none hV
  have hbk : Rows.uptoBulkAll _ ≤ 1048576 := of_decide_eq_true hk
  simp only [List.append_nil] at hbk
  obtain ⟨a0, rfl, rfl, rfl, w0⟩ := open_int Try.underlying23 (hval 0 23 v0 rfl rfl) h0
  obtain ⟨a1, rfl, rfl, rfl, w1⟩ := open_int Try.underlying2 (hval 1 2 v1 rfl rfl) h1
  obtain ⟨a2, len2, cap2, rfl⟩ := okWide_slice Try.underlying22 (hval 2 22 v2 rfl rfl)
  have k2 := h2
  have lt2 : ∀ x ∈ p2, x.block < W.heap.size := by obtain ⟨m, hm⟩ := k2; exact DataW.trod_lt m _ _ _ hm
  obtain ⟨e2, w2, rr2, n2⟩ := Ab.arg_sliceM isBulk (n := 6) (s := (.int .u8)) Try.underlying22 (by kernel_rfl) ⟨by kernel_rfl, by decide, of_decide_eq_true (by kernel_rfl)⟩ (by simp only [Rows.uptoBulkAll] at hbk; omega) h2
  obtain ⟨a3, len3, cap3, rfl⟩ := okWide_slice Try.underlying53 (hval 3 53 v3 rfl rfl)
  have k3 := h3
  have lt3 : ∀ x ∈ p3, x.block < W.heap.size := by obtain ⟨m, hm⟩ := k3; exact DataW.trod_lt m _ _ _ hm
  obtain ⟨e3, w3, rr3, n3⟩ := Ab.arg_sliceM isBulk (n := 6) (s := (.int .i32)) Try.underlying53 (by kernel_rfl) ⟨by kernel_rfl, by decide, of_decide_eq_true (by kernel_rfl)⟩ (by simp only [Rows.uptoBulkAll] at hbk; omega) h3
  clear hA0 hval0
  refine (walk a0 a1 a2 len2 cap2 e2 a3 len3 cap3 e3 W w0 w1 w2 rr2 w3 rr3 (by simp only [Rows.uptoBulkAll] at hbk; omega)).mono fun e W' ⟨he, bel⟩ => ?_
  subst he
  exact ⟨_, rfl, _, _, _, [], _, [], hW', trodAll_mk1 (shut_bool Try.underlying4 _), (trodAll_cons_mk (shut_int Try.underlying23 w0) (trodAll_cons_mk (shut_int Try.underlying2 w1) (trodAll_cons_mk (Below.trod laidOut (by kernel_rfl) (of_decide_eq_true (by kernel_rfl)) k2 bel lt2) (trodAll_cons_mk (Below.trod laidOut (by kernel_rfl) (of_decide_eq_true (by kernel_rfl)) k3 bel lt3) trodAll_mk0)))), rfl, bel.frame _, fun h => by cases h⟩

theorem over : Rows.packBackUptoRow.holds Try.pinned (Rows.OpenSpec.upto Rows.packBackSpec) :=
  OpenClaim.holds_of_cond 5 Try.f5 rfl rfl rfl rfl rfl rfl rfl ⟨rfl, rfl, rfl, rfl, rfl⟩ rfl rfl rfl rfl rfl (by kernel_rfl) Try.func5 (by kernel_rfl)
    (of_decide_eq_true (by kernel_rfl)) (by unfold Func.isWrapper; first | (rw [if_pos (by decide +kernel)]; kernel_rfl) | (rw [if_neg (by decide +kernel)]; exact ⟨rfl, rfl⟩))
    (fun os started H enc _ F => lifted os started H enc F)

/-- The statement. -/
theorem proved : Rows.PackBackUptoSaid := over
#print axioms proved
end Go.Proofs.Ytkoelbeidffimaa.packBack
