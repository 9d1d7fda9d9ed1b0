/-
  What functions of the program do, told of abstract states. Conditions: as each theorem says.
-/
import Derived.Test.YtfcjehlhoebmnaaGreatDoorPC
import Derived.Test.YtfcjehlhoebmnaaGreatDoorPB
import Derived.Test.YtfcjehlhoebmnaaGreatDoorEvA
import Derived.Test.YtfcjehlhoebmnaaGreatDoorRA
namespace Go.Proofs.YtfcjehlhoebmnaaGreatDoor.Pk
open Go Go.Proofs Go.Proofs.YtfcjehlhoebmnaaGreatDoor.Ab
set_option linter.unusedVariables false
set_option linter.unusedSimpArgs false
theorem bytX_lt {e : Ex} (hok : OkE e) : ∀ b ∈ bytX e, b < 256 := by
 unfold bytX
 split
 ·exact encB_lt _ e rfl
 ·simp
theorem encV_lt {v : Vx} (hok : OkX v) : ∀ b ∈ encV v, b < 256 := fun b hb => by
 unfold encV encInts encBytes at hb
 simp only [List.mem_append, List.mem_flatMap] at hb
 rcases hb with ((hb | hb | ⟨n, _, hb⟩) | hb) | hb | hb
 ·exact enc_lt _ _ (Nat.le_refl _) b hb
 ·exact enc_lt _ _ (Nat.le_refl _) b hb
 ·exact enc_lt _ _ (Nat.le_refl _) b hb
 ·exact enc_lt _ _ (Nat.le_refl _) b hb
 ·exact enc_lt _ _ (Nat.le_refl _) b hb
 ·exact bytX_lt hok.1 b hb
theorem bytT_lt {p : Int} {l : List Vx} (hok : OkT l) : ∀ b ∈ bytT p l, b < 256 := fun b hb => by
 unfold bytT at hb
 split at hb
 ·unfold encT at hb
  simp only [List.mem_append, List.mem_flatMap] at hb
  rcases hb with (hb | hb) | ⟨v, hv, hb⟩
  ·exact enc_lt _ _ (Nat.le_refl _) b hb
  ·exact enc_lt _ _ (Nat.le_refl _) b hb
  ·exact encV_lt (hok.2 v hv) b hb
 ·cases hb
theorem bytT_len {p : Int} {l : List Vx} (hok : OkT l) : (bytT p l).length ≤ 2 ^ 40 := by
 unfold bytT
 split
 ·rename_i h0
  obtain ⟨hp, hl1, hl2, hall⟩ := chk_all h0
  have h1 := encVs_len (l := l) fun v hv => encV_len (hok.2 v hv) (hall v hv).1 (hall v hv).2.1
  have h2 := (enc_le p.toNat (by omega)).2
  have h3 := (enc_le l.length (by omega)).2
  unfold encT
  simp only [List.length_append]
  omega
 ·simp
theorem tasks_le {p : Int} {l : List Vx} (h0 : (chkT p l).2 = 0) : ∃ n : Nat, n ≤ 192 ∧ tasksX p l = (n : Int) := by
 obtain ⟨_, hp, l1, l24, _, _⟩ := chk_ok h0
 have hc := cntR_le (mgX l) l.length
 obtain ⟨q, rfl⟩ := Int.eq_ofNat_of_zero_le (show 0 ≤ p by omega)
 refine ⟨cntR (mgX l) l.length * q, ?_, by rw [tasks_eq h0]; simp⟩
 have : cntR (mgX l) l.length * q ≤ 24 * 8 := Nat.mul_le_mul (by omega) (by omega)
 omega
theorem glInt : ∀ k cs, gl gE k = some cs → ∀ v ∈ cs, ∃ kd n, v = .int kd n := by
 intro k cs hk v hv
 unfold gl at hk
 rw [Option.map_eq_some_iff] at hk
 obtain ⟨p, hp, rfl⟩ := hk
 have hm := List.mem_of_find?_eq_some hp
 unfold gE at hm
 simp only [List.mem_cons, List.not_mem_nil, or_false] at hm
 rcases hm with rfl | rfl | rfl
 all_goals
  simp only [needsV, usesV, kidsV, List.mem_map] at hv
  obtain ⟨n, _, rfl⟩ := hv
  exact ⟨_, n, rfl⟩
theorem glIn {h : AHeap} (hg : h.glob = gl gE) : GlIn (gl gE) h := fun k cs hk => ⟨by rw [hg]; exact hk, glInt k cs hk⟩
def s0E : SH := { n := 0, t := .e, b := 0, w := [] }
noncomputable def logOkB : Bool := match callF Tryz.prog gE exX (runC Tryz.prog gE exX 100000) 36 [.int .i64 1, .int .i64 1000] s0E with
 | some [(.tuple [.ptr i 0, .int .i64 0], s)] => match s.obj i with
  | .cells _ _ _ => true
  | _ => false
 | _ => false
theorem logOk1 : logOkB = true := by decide +kernel
noncomputable def repOkB (n : Nat) : Bool := match callF Tryz.prog gE exX (runC Tryz.prog gE exX 100000) 37 [.imm 1 [.int .i64 (-1)], .int .i64 (n : Int)] s0E with
 | some [(.sl i 0 m cap, s)] => match s.obj i with
  | .cells c _ _ => c.all fun v => match v with
   | .int _ _ => true
   | _ => false
  | _ => false
 | _ => false
noncomputable def repC (k : Nat) : Bool := (List.range 28).all fun i => repOkB (28 * k + i)
theorem repC0 : repC 0 = true := by decide +kernel
theorem repC1 : repC 1 = true := by decide +kernel
theorem repC2 : repC 2 = true := by decide +kernel
theorem repC3 : repC 3 = true := by decide +kernel
theorem repC4 : repC 4 = true := by decide +kernel
theorem repC5 : repC 5 = true := by decide +kernel
theorem repC6 : repC 6 = true := by decide +kernel
theorem repOk1 {n : Nat} (hn : n ≤ 192) : repOkB n = true := by
 have key : ∀ k, repC k = true → ∀ i, i < 28 → repOkB (28 * k + i) = true := fun k h i hi => List.all_eq_true.1 h i (List.mem_range.2 hi)
 have h : n / 28 = 0 ∨ n / 28 = 1 ∨ n / 28 = 2 ∨ n / 28 = 3 ∨ n / 28 = 4 ∨ n / 28 = 5 ∨ n / 28 = 6 := by omega
 have e : 28 * (n / 28) + n % 28 = n := Nat.div_add_mod n 28
 have hm : n % 28 < 28 := Nat.mod_lt _ (by decide)
 rw [← e]
 rcases h with h | h | h | h | h | h | h <;> rw [h]
 ·exact key 0 repC0 _ hm
 ·exact key 1 repC1 _ hm
 ·exact key 2 repC2 _ hm
 ·exact key 3 repC3 _ hm
 ·exact key 4 repC4 _ hm
 ·exact key 5 repC5 _ hm
 ·exact key 6 repC6 _ hm
theorem s0E_a : s0E.a gE = globHeap (gl gE) := rfl
theorem logNew1 {h : AHeap} (hg : h.glob = gl gE) : SCalls Tryz.prog 36 [.int .i64 1, .int .i64 1000] h fun r h' => r = .tuple [.ptr h.n 0, .int .i64 0] ∧ h' = h.push .dead := by
 have h1 := logOk1
 unfold logOkB at h1
 split at h1
 case h_2 => cases h1
 rename_i i s hc
 split at h1
 case h_2 => cases h1
 rename_i c e x ho
 refine SCalls.closedP (g := gl gE) ((s0E_a ▸ (run_call hc).2).mono fun r h' ⟨e1, e2⟩ => ⟨i, e1, ?_⟩) (CloL.cons (Clo.int _ _) (CloL.cons (Clo.int _ _) CloL.nil)) (glIn hg)
 rw [e2]
 show s.obj i ≠ .dead
 rw [ho]
 exact fun h => nomatch h
theorem repeat1 {h : AHeap} (hg : h.glob = gl gE) {n : Nat} (hn : n ≤ 192) : SCalls Tryz.prog 37 [.imm 1 [.int .i64 (-1)], .int .i64 (n : Int)] h fun r h' => ∃ m cap c e x, r = .sl h.n 0 m cap ∧ h' = h.push (.cells c e x) := by
 have h1 := repOk1 hn
 unfold repOkB at h1
 split at h1
 case h_2 => cases h1
 rename_i i m cap s hc
 split at h1
 case h_2 => cases h1
 rename_i c e x ho
 refine (SCalls.closedS (g := gl gE) (c := c) (e := e) (ex := x) (n := m) (cap := cap) ((s0E_a ▸ (run_call hc).2).mono fun r h' ⟨e1, e2⟩ => ⟨i, e1, by rw [e2]; exact ho⟩) (fun v hv => ?_) (CloL.cons (Clo.imm (CloL.cons (Clo.int _ _) CloL.nil)) (CloL.cons (Clo.int _ _) CloL.nil)) (glIn hg)).mono fun r h' ⟨e1, e2⟩ => ⟨m, cap, c, e, x, e1, e2⟩
 have := List.all_eq_true.1 h1 v hv
 split at this
 ·exact ⟨_, _, rfl⟩
 ·cases this
end Go.Proofs.YtfcjehlhoebmnaaGreatDoor.Pk
