/-
  What functions of the program do, told of abstract states. Conditions: as each theorem says.
-/
import Derived.Test.YtfcjehlhoebmnaaGreatDoorEvA
import Derived.Test.YtfcjehlhoebmnaaGreatDoorPC
import Derived.Test.YtfcjehlhoebmnaaGreatDoorProg
namespace Go.Proofs.YtfcjehlhoebmnaaGreatDoor.Pk
open Go Go.Proofs Go.Proofs.YtfcjehlhoebmnaaGreatDoor.Ab
set_option maxRecDepth 10000
set_option linter.unusedVariables false
set_option linter.unusedSimpArgs false
theorem eval1_idleE (p q : Value) (w : World) : CallsD Tryz.prog 298 #[p, q] .returning w fun e u' w' => e = .returned (.tuple #[]) ∧ u' = .returning ∧ w' = w := by
 refine callsD_of_wpS Tryz.func298 rfl fun c₀ cs hu => ?_
 apply wpS_seq
 apply wpS_region
 simp [wpOpsS, go_sem, recoverD, hu, Tryz.ntmps298, Exit.thenS]
 refine wpS_cond (t := false) (by simp [Act.eval, Array.replicate]) ?_
 simp only [Bool.false_eq_true, if_false]
 refine wpS_of_wp (wp_skip ?_)
 cases c₀
 simp_all [bodyPostS, results, Tryz.results298]
theorem dDefRE {h : AHeap} {vx vy : V} {R : AHeap → Prop} (hR : R h) : SDefR Tryz.prog 298 [vx, vy] h R := by
 intro ρ B w0 w args' hw ha
 obtain ⟨p, t1, e1, hp, ha1⟩ := ha.uncons
 obtain ⟨q, t2, rfl, hq, ha2⟩ := ha1.uncons
 have := ha2.eq_nil
 subst this
 obtain rfl : args' = #[p, q] := Array.ext' (by simpa using e1)
 exact (eval1_idleE p q w).mono fun e u' w' ⟨h1, h2, h3⟩ => ⟨h1, h2, ρ, h, h3 ▸ hw, Ren.le.refl ρ, hR⟩
theorem adO : adOk Tryz.prog 224 := ⟨_, Tryz.func224, by kernel_rfl, by kernel_rfl, by kernel_rfl, by kernel_rfl, 370, 2, by kernel_rfl, by decide⟩
theorem ldO : ldOk Tryz.prog 225 := ⟨_, Tryz.func225, by kernel_rfl, by kernel_rfl, by kernel_rfl, by kernel_rfl, 370, by kernel_rfl⟩
theorem ovSE : ovOk Tryz.prog 343 := ⟨_, Tryz.func343, by kernel_rfl, by kernel_rfl, by kernel_rfl, by kernel_rfl, 420, 482, 2, 4, by kernel_rfl, by kernel_rfl, Tryz.underlying420, by kernel_rfl⟩
theorem ovSZ : ovOk Tryz.prog 352 := ⟨_, Tryz.func352, by kernel_rfl, by kernel_rfl, by kernel_rfl, by kernel_rfl, 426, 443, 3, 4, by kernel_rfl, by kernel_rfl, Tryz.underlying426, by kernel_rfl⟩
noncomputable def kidsV : List V := [0, 0, 0, 0, 0, 0, 2, 2, 2, 2, 2, 2, 2, 3, 1, 2, 2].map (V.int .i64)
noncomputable def needsV : List V := [0,0,0,0, 0,0,0,7, 1,1,0,0, 1,1,0,0, 1,1,0,0, 1,1,0,0, 1,2,0,0, 1,2,1,1048576, 1,2,1,1048576, 2,2,0,0, 1,0,0,7].map (V.int .i64)
noncomputable def usesV : List V := [0, 24, 63, 199, 7, 3, 0].map (V.int .i64)
noncomputable def gE : List (Nat × List V) := [(0, needsV), (1, usesV), (2, kidsV)]
def mtT : List (Nat × String × Nat) := [(138, "Bytes", 374), (138, "Cut", 375), (138, "Sync", 168), (138, "Append", 373)]
def mtGo (t : Nat) (s : String) : List (Nat × String × Nat) → Option Nat
 | [] => none
 | p :: l => cond (Nat.beq p.1 t && decide (p.2.1 = s)) (some p.2.2) (mtGo t s l)
theorem mtGo_mem {t : Nat} {s : String} {f : Nat} : ∀ {l : List (Nat × String × Nat)}, mtGo t s l = some f → (t, s, f) ∈ l
 | [], h => by cases h
 | p :: l, h => by
  unfold mtGo at h
  cases hc : (Nat.beq p.1 t && decide (p.2.1 = s)) with
  | true =>
   rw [hc] at h
   obtain rfl := Option.some.inj h
   simp only [Bool.and_eq_true, decide_eq_true_eq] at hc
   obtain ⟨h1, h2⟩ := hc
   have h1 := Nat.eq_of_beq_eq_true h1
   subst h1; subst h2
   exact List.mem_cons_self
  | false =>
   rw [hc] at h
   exact List.mem_cons_of_mem _ (mtGo_mem h)
theorem mtOk : ∀ p ∈ mtT, methOk Tryz.prog p.1 p.2.1 p.2.2 := by
 unfold mtT
 simp only [List.forall_mem_cons, List.not_mem_nil, false_imp_iff, implies_true, and_true]
 refine ⟨?_, ?_, ?_, ?_⟩ <;> exact ⟨fun v w => by kernel_rfl, by kernel_rfl⟩
theorem nbF {a b : Nat} (h : a ≠ b) : Nat.beq a b = false := by
 cases e : Nat.beq a b
 ·rfl
 ·exact absurd (Nat.eq_of_beq_eq_true e) h
def exT (f : Nat) : Nat := cond (Nat.beq f 224) 3 (cond (Nat.beq f 225) 2 (cond (Nat.beq f 343 || Nat.beq f 352) 1 0))
theorem exOk (f : Nat) : (exT f = 1 → ovOk Tryz.prog f) ∧ (exT f = 2 → ldOk Tryz.prog f) ∧ (exT f = 3 → adOk Tryz.prog f) := by
 unfold exT
 by_cases h1 : f = 224
 ·subst h1
  exact ⟨fun h => (nomatch (show (3 : Nat) = 1 from h)), fun h => (nomatch (show (3 : Nat) = 2 from h)), fun _ => adO⟩
 ·have e1 : Nat.beq f 224 = false := nbF h1
  rw [e1]
  by_cases h2 : f = 225
  ·subst h2
   exact ⟨fun h => (nomatch (show (2 : Nat) = 1 from h)), fun _ => ldO, fun h => (nomatch (show (2 : Nat) = 3 from h))⟩
  ·have e2 : Nat.beq f 225 = false := nbF h2
   rw [e2]
   by_cases h3 : f = 343
   ·subst h3
    exact ⟨fun _ => ovSE, fun h => (nomatch (show (1 : Nat) = 2 from h)), fun h => (nomatch (show (1 : Nat) = 3 from h))⟩
   ·have e3 : Nat.beq f 343 = false := nbF h3
    rw [e3]
    by_cases h4 : f = 352
    ·subst h4
     exact ⟨fun _ => ovSZ, fun h => (nomatch (show (1 : Nat) = 2 from h)), fun h => (nomatch (show (1 : Nat) = 3 from h))⟩
    ·have e4 : Nat.beq f 352 = false := nbF h4
     rw [e4]
     exact ⟨fun h => (nomatch (show (0 : Nat) = 1 from h)), fun h => (nomatch (show (0 : Nat) = 2 from h)), fun h => (nomatch (show (0 : Nat) = 3 from h))⟩
noncomputable def orc0 (fid : FuncId) (args : List V) (s : SH) : Option (V × SH) := match args with
 | [.int .u8 c] => cond (Nat.beq fid 283) (some (.int .u32 (entF (IntKind.u32.wrap c) 8), s)) none
 | _ => none
theorem orc0_ok {f : FuncId} {a : List V} {s s' : SH} {r : V} (h : orc0 f a s = some (r, s')) : Kp s s' ∧ SCalls Tryz.prog f a (s.a gE) fun x h => x = r ∧ h = s'.a gE := by
 unfold orc0 at h
 split at h
 case h_2 => cases h
 rename_i c
 cases hb : Nat.beq f 283 with
 | false => rw [hb] at h; cases h
 | true =>
  rw [hb] at h
  obtain rfl := Nat.eq_of_beq_eq_true hb
  simp only [cond_true, Option.some.injEq, Prod.mk.injEq] at h
  obtain ⟨rfl, rfl⟩ := h
  exact ⟨Kp.refl s, entry c (s.a gE)⟩
noncomputable def exT0 (T : List Ent) (hT : ∀ e ∈ T, e.Ok Tryz.prog gE) : Ext Tryz.prog gE where
 mixed := by kernel_rfl
 ext := exT
 extOk := exOk
 meth := fun t s => mtGo t s mtT
 methOk := fun t s f h => mtOk _ (mtGo_mem h)
 isRng := fun f => Nat.beq f 210
 isDfr := fun f => Nat.beq f 298
 dfrOk := fun g hg vx vy h R hR => by obtain rfl := Nat.eq_of_beq_eq_true hg; exact dDefRE hR
 isOrc := fun f => Nat.beq f 283 || T.any fun e => Nat.beq e.fid f
 orc := fun f a s => cond (Nat.beq f 283) (orc0 f a s) (lookE T f a s)
 orcOk := fun f a s r s' _ h => by
  cases hb : Nat.beq f 283 with
  | true => rw [hb] at h; exact orc0_ok h
  | false => rw [hb] at h; exact lookE_ok hT h
noncomputable def exX : Ext Tryz.prog gE := exT0 [] fun e he => nomatch he
end Go.Proofs.YtfcjehlhoebmnaaGreatDoor.Pk
