/-
  For all arguments, the law AggEnds returns true.
  Conditions: none besides those of the given row.
-/
import Derived.Test.YtedkjhifbibpmaaGreatDoorRows
import Derived.WalkKit
import Derived.ProofKit
import Derived.OpenShut
import Derived.ShutString
import Derived.ChangeOld
import Derived.Below
import Derived.SizedLaws
import Derived.Test.YtedkjhifbibpmaaGreatDoorKhG
import Derived.JoinedOf
import Derived.LaidLaws
import Derived.Test.YtedkjhifbibpmaaGreatDoorCards
import Derived.Test.YtedkjhifbibpmaaGreatDoorTie
namespace Go.Proofs.YtedkjhifbibpmaaGreatDoor.aggEnds
open Go.ChangeShapes Go.WideShapes Go.ChangeAt Go.RowKit
open Go.ChangeMaps (open_string shut_string)
set_option linter.unusedVariables false
set_option linter.unusedSimpArgs false

theorem own : ownKnob Tryz.prog.godebug = none := by kernel_rfl
theorem laidOut : laidOutB Tryz.prog = true := by kernel_rfl

/-! ### The walk, by the contract of the law -/
theorem walk (a0 : Int) (a1 : Option Addr) (len1 cap1 : Nat) (e1 : List (List Ab.V)) (a2 : Int) (a3 : Array Value) (e3 : List Ab.V) (w : World) (hT : Ab.GlobOk Pk.kgl w) (w0 : (Lit.int .u8 a0).wf = true) (w1 : ∀ x ∈ e1, Ab.Sh.fitsB (.cat (.int .i64) (.cat (.int .i64) (.cat (.int .i64) .unit))) x) (r1 : Ab.VRel (Ab.entryRen w) (.imm e1.length e1.flatten) (.slice a1 len1 cap1)) (n1 : e1.length < 2 ^ 47) (b1 : e1.length * 24 ≤ 2 ^ 47) (w2 : (Lit.int .u16 a2).wf = true) (w3 : Ab.Sh.fitsB (.cat (.int .i64) (.cat (.int .i64) (.cat (.int .i64) .unit))) e3) (r3 : Ab.VRel (Ab.entryRen w) (.agg e3) (.agg a3)) :
    Calls Tryz.prog 4 #[.int .u8 a0, .slice a1 len1 cap1, .int .u16 a2, .agg a3] w fun e w' => e = .returned (.bool true) ∧ Below w.heap.size w w' := by
  obtain ⟨n, rfl, b0⟩ := Ab.wf_u8 w0
  obtain ⟨l, hr1, hr2⟩ := Pk.map_of (fun _ => Pk.rec_of) w1
  obtain ⟨m, rfl, b2⟩ := Ab.wf_u16 w2
  obtain ⟨r, rfl⟩ := Pk.rec_of w3
  rw [hr1, hr2] at r1
  exact (Pk.aggEnds n l m r b0 (by omega) b2 _ Pk.kgOk).callsG rfl hT (.cons (.int _ _) (.cons r1 (.cons (.int _ _) (.cons r3 (.nil _)))))

/-! ### The row's step -/
theorem laidM {W : World} (h : laidMetH Tryz.prog Rows.aggEndsRow.laid W) : laidMet Tryz.prog Rows.aggEndsRow.laid W := h
theorem globs {W : World} (hL : laidMetH Tryz.prog Rows.aggEndsRow.laid W) : Ab.GlobOk Pk.kgl W := by
  have h := laidM hL
  exact Pk.globOk (by kernel_rfl) (Lib.tabIs_of_head (k := .i64) (zs := Pk.kidsN) (rest := []) (g := 1) (t := 283) (e := 3) (n := 17) (by kernel_rfl) (by kernel_rfl) Tryz.underlying283 Tryz.underlying3 (by kernel_rfl) (by kernel_rfl) h)
/-- The settled world, the variable holding what its initialiser lays. -/
noncomputable def laidWorld (os : Os) : World :=
  { World.holding Tryz.prog os ⟨#[], #[], []⟩ with heap := (World.holding Tryz.prog os ⟨#[], #[], []⟩).heap.modify 1 fun
      | .cells _ t frozen => .cells (Pk.kidsN.map fun z => Value.int .i64 z).toArray t frozen
      | o => o }
theorem laidWorld_met (os : Os) (args : Array Value) : laidMetH Tryz.prog Rows.aggEndsRow.laid ((laidWorld os).forCall (fun _ _ => 0) ⟨#[], args, []⟩).memory :=
  (show laidMet Tryz.prog Rows.aggEndsRow.laid _ from laidMet_of_run' 8 (by kernel_rfl) (by kernel_rfl))

set_option maxRecDepth 100000 in
theorem lifted (os : Os) (started : os.Started) (H : Type) (enc : TypeId × Value → H) :
    ReturnsInHanded {} Tryz.checked os 4 .any (fun w args => (Rows.aggEndsSpec.pre enc Tryz.prog Tryz.f4 Rows.aggEndsRow.domain false w args ∧ laidMetH Tryz.prog Rows.aggEndsRow.laid w) ∧ sizedMet enc Tryz.prog Tryz.f4 (OpenSpec.ofChange Rows.aggEndsSpec) false w args) (Rows.aggEndsSpec.post enc Tryz.prog Tryz.f4 false true false false) := by
  refine returnsInHanded_of_change_and (C := Tryz.checked) (X := fun w _ => laidMetH Tryz.prog Rows.aggEndsRow.laid w) (fun _ _ _ hh h => h.of_heap hh) own started (by kernel_rfl) Tryz.func4
    (ChangeSpec.witness_at (enc := enc) (C := Tryz.checked) (os := os) (X := fun w _ => laidMetH Tryz.prog Rows.aggEndsRow.laid w) false (laidWorld os) #[.int .u8 0, .slice none 0 0, .int .u16 0, .agg #[.int .i64 0, .int .i64 0, .int .i64 0]] 8 rfl (by kernel_rfl) (by kernel_rfl) (by kernel_rfl) (by kernel_rfl) (by kernel_rfl) (laidWorld_met os _)) ?_
  intro W base args ds gs before hval0 hW hcnd hsz hL _
  have hT := globs hL
  have hval : ∀ (j : Nat) t v, Tryz.f4.params[j]? = some t → args[j]? = some v → Value.okWide Tryz.prog W .any base t v := hval0
  have hW' := hW
  obtain ⟨p, q, hA0, hV, rfl, hfz, hnd⟩ := hW
  have hA : DataW.TrodAll enc Tryz.prog W 0 (fun _ => true) true Tryz.f4.params.toList args.toList ds p := hA0
  rw [Tryz.params4] at hA hval
  obtain ⟨v0, vs0, d0, ds0, p0, q0, hargs, rfl, rfl, h0, r0⟩ := trodAll_cons hA
  obtain ⟨v1, vs1, d1, ds1, p1, q1, rfl, rfl, rfl, h1, r1⟩ := trodAll_cons r0
  obtain ⟨v2, vs2, d2, ds2, p2, q2, rfl, rfl, rfl, h2, r2⟩ := trodAll_cons r1
  obtain ⟨v3, vs3, d3, ds3, p3, q3, rfl, rfl, rfl, h3, r3⟩ := trodAll_cons r2
  obtain ⟨rfl, rfl, rfl⟩ := trodAll_nil r3
  obtain rfl : args = #[v0, v1, v2, v3] := by cases args; simp_all
  obtain ⟨rfl, rfl⟩ := trodVars_none hV
  obtain ⟨a0, rfl, rfl, rfl, w0⟩ := open_int Tryz.underlying5 (hval 0 5 v0 rfl rfl) h0
  obtain ⟨a1, len1, cap1, rfl⟩ := okWide_slice Tryz.underlying49 (hval 1 49 v1 rfl rfl)
  have k1 := h1
  have lt1 : ∀ x ∈ p1, x.block < W.heap.size := by obtain ⟨m, hm⟩ := k1; exact DataW.trod_lt m _ _ _ hm
  obtain ⟨e1, w1, rr1, n1⟩ := Ab.arg_sliceB (n := 6) (s := (.cat (.int .i64) (.cat (.int .i64) (.cat (.int .i64) .unit)))) Tryz.underlying49 (by kernel_rfl) ⟨by kernel_rfl, by decide, of_decide_eq_true (by kernel_rfl)⟩ (fun n hn => by simpa using List.all_eq_true.1 hsz n (DataW.weights_mem_each (j := 1) (t := 49) (by kernel_rfl) rfl n hn)) h1
  have b1 := Ab.arg_sliceW (k := 24) Tryz.underlying49 (by kernel_rfl) (fun n hn => by simpa using List.all_eq_true.1 hsz n (DataW.weights_mem_each (j := 1) (t := 49) (by kernel_rfl) rfl n hn)) h1 rr1
  obtain ⟨a2, rfl, rfl, rfl, w2⟩ := open_int Tryz.underlying50 (hval 2 50 v2 rfl rfl) h2
  obtain ⟨a3, rfl, _⟩ := okWide_struct Tryz.underlying38 (hval 3 38 v3 rfl rfl)
  have k3 := h3
  have lt3 : ∀ x ∈ p3, x.block < W.heap.size := by obtain ⟨m, hm⟩ := k3; exact DataW.trod_lt m _ _ _ hm
  obtain ⟨e3, w3, rr3⟩ := Ab.arg_aggB (n := 6) (s := (.cat (.int .i64) (.cat (.int .i64) (.cat (.int .i64) .unit)))) (t := 38) (by kernel_rfl) (fun n hn => by simpa using List.all_eq_true.1 hsz n (DataW.weights_mem_each (j := 3) (t := 38) (by kernel_rfl) rfl n hn)) h3
  clear hA0 hval0
  refine (walk a0 a1 len1 cap1 e1 a2 a3 e3 W hT w0 w1 rr1 n1 b1 w2 w3 rr3).mono fun e W' ⟨he, bel⟩ => ?_
  subst he
  exact ⟨_, rfl, _, _, _, [], _, [], hW', trodAll_mk1 (shut_bool Tryz.underlying4 _), (trodAll_cons_mk (shut_int Tryz.underlying5 w0) (trodAll_cons_mk (Below.trod laidOut (by kernel_rfl) (of_decide_eq_true (by kernel_rfl)) k1 bel lt1) (trodAll_cons_mk (shut_int Tryz.underlying50 w2) (trodAll_cons_mk (Below.trod laidOut (by kernel_rfl) (of_decide_eq_true (by kernel_rfl)) k3 bel lt3) trodAll_mk0)))), rfl, bel.frame _, fun h => by cases h⟩

theorem and_t {a b : Bool} (h : a = true) (k : b = true) : (a && b) = true := by rw [h, k]; rfl
set_option maxHeartbeats 200000000 in
/-- The closed facts, each by itself (the memory of all at once is too much). -/
theorem closedF : joinedFacts Tryz.pinned.checked.prog 4 Tryz.f4 Rows.aggEndsSpec Rows.aggEndsRow = true := by
  unfold joinedFacts
  refine and_t (and_t (and_t (and_t (and_t (and_t (and_t (and_t (and_t (and_t (and_t (and_t (and_t (and_t (and_t (and_t (and_t (and_t (and_t (and_t (and_t (and_t (and_t (and_t (and_t (and_t (and_t (and_t (and_t (and_t (and_t ?_ ?_) ?_) ?_) ?_) ?_) ?_) ?_) ?_) ?_) ?_) ?_) ?_) ?_) ?_) ?_) ?_) ?_) ?_) ?_) ?_) ?_) ?_) ?_) ?_) ?_) ?_) ?_) ?_) ?_) ?_) ?_
  all_goals as_aux_lemma => kernel_rfl
theorem over : Rows.aggEndsRow.holds Tryz.pinned (OpenSpec.ofChange Rows.aggEndsSpec) :=
  OpenClaim.holds_of_wide 4 Tryz.f4 rfl rfl rfl rfl rfl rfl rfl ⟨rfl, rfl, rfl, rfl, rfl⟩ rfl rfl rfl rfl rfl (by kernel_rfl) Tryz.func4 closedF
    (of_decide_eq_true (by kernel_rfl)) (by unfold Func.isWrapper; first | (rw [if_pos (by decide +kernel)]; kernel_rfl) | (rw [if_neg (by decide +kernel)]; exact ⟨rfl, rfl⟩))
    (fun os started H enc _ => lifted os started H enc)
theorem plainT : Tryz.f4.params.toList.all (fun t => !Tryz.prog.wantsStandIn t) = true := by kernel_rfl
theorem named : Tryz.prog.funcNamed Rows.aggEndsRow.func = some 4 := by kernel_rfl

/-- The statement. -/
theorem proved : Rows.AggEndsCardSaid :=
  Claim7.holds_tied_plain_at .later [] Rows.aggEndsCard.laidKinds true Rows.aggEndsCard.stood.harness Rows.aggEndsCard.stood.looks over (fun _ h => by cases h) (by kernel_rfl) (fun _ h => by cases h) aggEnds_row_tie rfl ⟨rfl, rfl⟩ (by kernel_rfl) rfl
    (fun f fn hf hfn => by
      obtain rfl : f = 4 := (Option.some.inj (named.symm.trans hf)).symm
      obtain rfl : fn = Tryz.f4 := (Option.some.inj (Tryz.func4.symm.trans hfn)).symm
      refine ⟨by kernel_rfl, fun j t ht => ?_⟩
      have hm : t ∈ Tryz.f4.params.toList := List.mem_of_getElem? (by rw [Array.getElem?_toList]; exact ht)
      have h2 : Tryz.prog.wantsStandIn t = false := by simpa using List.all_eq_true.1 plainT t hm
      exact h2)
    (by kernel_rfl)
#print axioms proved
end Go.Proofs.YtedkjhifbibpmaaGreatDoor.aggEnds
