/-
  For all l, keep and turn, the law DiskSyncs returns true.
  Conditions: none besides those of the given row.
-/
import Derived.Test.YtohiphnmebklfaaRows
import Derived.WalkKit
import Derived.ProofKit
import Derived.OpenShut
import Derived.ShutString
import Derived.ChangeOld
import Derived.Below
import Derived.SizedLaws
import Derived.Test.YtohiphnmebklfaaDkG
namespace Go.Proofs.Ytohiphnmebklfaa.diskSyncs
open Go.ChangeShapes Go.WideShapes Go.ChangeAt Go.RowKit
open Go.ChangeMaps (open_string shut_string)
set_option linter.unusedVariables false
set_option linter.unusedSimpArgs false

theorem own : ownKnob Try.prog.godebug = none := by kernel_rfl
theorem laidOut : laidOutB Try.prog = true := by kernel_rfl

/-! ### The walk, by the contract of the law -/
theorem walk (a0 : Option Addr) (len0 cap0 : Nat) (e0 : List (List Ab.V)) (a1 : Int) (a2 : Int) (w : World) (w0 : ∀ x ∈ e0, Ab.Sh.fits (.sl (.int .u8)) x) (r0 : Ab.VRel (Ab.entryRen w) (.imm e0.length e0.flatten) (.slice a0 len0 cap0)) (n0 : e0.length < 2 ^ 47) (w1 : (Lit.int .i64 a1).wf = true) (w2 : (Lit.int .i64 a2).wf = true) :
    Calls Try.prog 5 #[.slice a0 len0 cap0, .int .i64 a1, .int .i64 a2] w fun e w' => e = .returned (.bool true) ∧ Below w.heap.size w w' := by
  obtain ⟨L, rfl⟩ := Pk.bytes_fits w0
  rw [List.length_map] at r0 n0
  have e1 : (L.map Pk.encB).flatten = L.flatMap Pk.encB := by rw [List.flatMap_def]
  rw [e1] at r0
  exact (Pk.diskSyncs L a1 a2 n0 Ab.noHeap).calls rfl (.cons r0 (.cons (.int _ _) (.cons (.int _ _) (.nil _))))

/-! ### The row's step -/
set_option maxRecDepth 100000 in
theorem lifted (os : Os) (started : os.Started) (H : Type) (enc : TypeId × Value → H) :
    ReturnsInHanded {} Try.checked os 5 .any (Rows.diskSyncsSpec.pre6 enc Try.prog Try.f5 Rows.diskSyncsRow.domain false) (Rows.diskSyncsSpec.post enc Try.prog Try.f5 false true false false) := by
  refine returnsInHanded_of_change_sized (C := Try.checked) own started (by kernel_rfl) Try.func5
    (ChangeSpec.witness6 (enc := enc) (C := Try.checked) false ⟨#[], #[.slice none 0 0, .int .i64 0, .int .i64 0], []⟩ 8 (by kernel_rfl) (by kernel_rfl) (by kernel_rfl) (by kernel_rfl)) ?_
  intro W base args ds gs before hval0 hW hcnd hsz _
  have hval : ∀ (j : Nat) t v, Try.f5.params[j]? = some t → args[j]? = some v → Value.okWide Try.prog W .any base t v := hval0
  have hW' := hW
  obtain ⟨p, q, hA0, hV, rfl, hfz, hnd⟩ := hW
  have hA : DataW.TrodAll enc Try.prog W 0 (fun _ => true) true Try.f5.params.toList args.toList ds p := hA0
  rw [Try.params5] at hA hval
  obtain ⟨v0, vs0, d0, ds0, p0, q0, hargs, rfl, rfl, h0, r0⟩ := trodAll_cons hA
  obtain ⟨v1, vs1, d1, ds1, p1, q1, rfl, rfl, rfl, h1, r1⟩ := trodAll_cons r0
  obtain ⟨v2, vs2, d2, ds2, p2, q2, rfl, rfl, rfl, h2, r2⟩ := trodAll_cons r1
  obtain ⟨rfl, rfl, rfl⟩ := trodAll_nil r2
  obtain rfl : args = #[v0, v1, v2] := by cases args; simp_all
  obtain ⟨rfl, rfl⟩ := trodVars_none hV
  obtain ⟨a0, len0, cap0, rfl⟩ := okWide_slice Try.underlying22 (hval 0 22 v0 rfl rfl)
  have k0 := h0
  have lt0 : ∀ x ∈ p0, x.block < W.heap.size := by obtain ⟨m, hm⟩ := k0; exact DataW.trod_lt m _ _ _ hm
  obtain ⟨e0, w0, rr0, zz0⟩ := Ab.arg_slice (n := 6) (s := (.sl (.int .u8))) Try.underlying22 (by kernel_rfl) ⟨by kernel_rfl, by decide⟩ h0
  have n0 : e0.length < 2 ^ 47 := by
    rcases zz0 with hz | ⟨el, sp, hd, hl⟩
    · rw [hz]; decide
    · have hbb := sized_slice (P := Try.prog) hsz (j := 0) (t := 22) (by kernel_rfl) (by rw [hd]; rfl) Try.underlying22
      have hb1 : 1 ≤ Try.prog.bytesOf 29 := of_decide_eq_true (by kernel_rfl)
      have hb2 := Nat.le_trans (Nat.le_mul_of_pos_right _ hb1) hbb
      have hb3 := reachBytes_lt
      omega
  obtain ⟨a1, rfl, rfl, rfl, w1⟩ := open_int Try.underlying3 (hval 1 3 v1 rfl rfl) h1
  obtain ⟨a2, rfl, rfl, rfl, w2⟩ := open_int Try.underlying3 (hval 2 3 v2 rfl rfl) h2
  clear hA0 hval0
  refine (walk a0 len0 cap0 e0 a1 a2 W w0 rr0 n0 w1 w2).mono fun e W' ⟨he, bel⟩ => ?_
  subst he
  exact ⟨_, rfl, _, _, _, [], _, [], hW', trodAll_mk1 (shut_bool Try.underlying4 _), (trodAll_cons_mk (Below.trod laidOut (by kernel_rfl) (of_decide_eq_true (by kernel_rfl)) k0 bel lt0) (trodAll_cons_mk (shut_int Try.underlying3 w1) (trodAll_cons_mk (shut_int Try.underlying3 w2) trodAll_mk0))), rfl, bel.frame _, fun h => by cases h⟩

theorem over : Rows.diskSyncsRow.holds Try.pinned (OpenSpec.ofChange Rows.diskSyncsSpec) :=
  OpenClaim.holds_of_wide 5 Try.f5 rfl rfl rfl rfl rfl rfl rfl ⟨rfl, rfl, rfl, rfl, rfl⟩ rfl rfl rfl rfl rfl (by kernel_rfl) Try.func5 (by kernel_rfl)
    (of_decide_eq_true (by kernel_rfl)) (by unfold Func.isWrapper; first | (rw [if_pos (by decide +kernel)]; kernel_rfl) | (rw [if_neg (by decide +kernel)]; exact ⟨rfl, rfl⟩))
    (fun os started H enc _ => lifted os started H enc)

/-- The statement. -/
theorem proved : Rows.DiskSyncsSaid := over
#print axioms proved
end Go.Proofs.Ytohiphnmebklfaa.diskSyncs
