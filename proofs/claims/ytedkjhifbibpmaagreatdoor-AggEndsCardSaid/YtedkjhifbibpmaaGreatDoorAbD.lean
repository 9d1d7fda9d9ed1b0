/-
  Abstract values and an abstract heap for Go code, related to the world; the operations on them, and the rules of code. Conditions: none.
-/
import Derived.Test.YtedkjhifbibpmaaGreatDoorAbC
import Derived.Recover
import Derived.Lib.LaidTab
import Derived.OpenShut
import Derived.Shelf.SlSortCmp.InsertionK
set_option linter.unusedVariables false
set_option linter.unusedSimpArgs false
namespace Go.Proofs.YtedkjhifbibpmaaGreatDoor.Ab
open Go Go.RowKit
set_option linter.unusedVariables false

/-! ### What came in, of a type that is made of itself: Q tells what its cells are -/
inductive ShQ where
  | bool | int (k : IntKind) | str | sl (s : ShQ) | unit | cat (a b : ShQ) | ext (n : Nat)
def ShQ.width : ShQ → Nat
  | .unit => 0
  | .cat a b => a.width + b.width
  | .ext n => n
  | _ => 1
section
variable {H : Type} {enc : TypeId × Value → H} {P : Program} {w : World} {base : Nat} {spare : Nat → Bool} {held : Bool} {Q : List V → Prop} {T0 : TypeId}

end
end Go.Proofs.YtedkjhifbibpmaaGreatDoor.Ab

namespace Go.Proofs.YtedkjhifbibpmaaGreatDoor.Ab
open Go Go.RowKit
set_option linter.unusedVariables false
set_option linter.unusedSimpArgs false

/-! ### A function with one deferred closure -/
/-- A deferred call behind a body that returned. -/
def SDefR (P : Program) (g : FuncId) (args : List V) (h : AHeap) (R : AHeap → Prop) : Prop :=
  ∀ (ρ : Ren) (B : Nat) (w0 w : World) (args' : Array Value), WRel ρ B w0 h w → LRel ρ args args'.toList →
    CallsD P g args' .returning w fun e u' w' => e = .returned (.tuple #[]) ∧ u' = .returning ∧ ∃ (ρ' : Ren) (h' : AHeap), WRel ρ' B w0 h' w' ∧ ρ.le ρ' ∧ R h'
/-- A deferred call behind a body that panicked: it recovers. -/
def SDefP (P : Program) (g : FuncId) (args : List V) (h : AHeap) (R : AHeap → Prop) : Prop :=
  ∀ (ρ : Ren) (B : Nat) (w0 w : World) (args' : Array Value) (t : TypeId) (v : Value), WRel ρ B w0 h w → LRel ρ args args'.toList →
    CallsD P g args' (.panicking [{ v := .iface t v, recovered := false }]) w fun e u' w' => e = .returned (.tuple #[]) ∧ u' = .panicking [{ v := .iface t v, recovered := true }] ∧ ∃ (ρ' : Ren) (h' : AHeap), WRel ρ' B w0 h' w' ∧ ρ.le ρ' ∧ R h'

def endsV (P : Program) (fn : Func) (R : V → AHeap → Prop) (f : AFrame) (h : AHeap) : Prop := match resultsA P fn.results.toList f h with | some r => R r h | none => False

theorem SCalls.enterD {P : Program} {fid g : FuncId} {fn : Func} {A A2 C : Code} {rid : Nat} {t x y : Tmp} {ty1 ty2 : TypeId} {pos1 pos2} {aft1 aft2} {tys : Array TypeId} (hfn : P.funcs[fid]? = some fn)
    (hb : fn.body = some (.seq A (.seq A2 (.seq (.region rid #[⟨some t, .makeFunc (.func g) #[] #[.tmp x, .tmp y], ty1, pos1, aft1, none⟩, ⟨none, .defer ⟨.value (.tmp t), #[], tys⟩, ty2, pos2, aft2, none⟩] false) C))))
    (ht : t < fn.ntmps) (hcal : callable P g = true) {args : List V} (hlen : args.length ≤ fn.ntmps) {h : AHeap} {R : V → AHeap → Prop} {M : AFrame → AHeap → Prop} {KR KP : V → V → AFrame → AHeap → Prop}
    (h1 : SWp P fn.ntmps A (fun z f h => z = .normal ∧ SWp P fn.ntmps A2 (fun z f h => (z = .ret ∧ endsV P fn R f h) ∨ (z = .normal ∧ M f h)) f h) (enterF args) h)
    (h3 : ∀ f h, M f h → SWp P fn.ntmps C (fun z f' h' => ((z = .ret ∨ z = .normal) ∧ KR (f x) (f y) f' h') ∨ (z = .panic ∧ KP (f x) (f y) f' h')) (f.put (some t) .top) h)
    (hR : ∀ vx vy f' h', KR vx vy f' h' → SDefR P g [vx, vy] h' (endsV P fn R f'))
    (hP : ∀ vx vy f' h', KP vx vy f' h' → SDefP P g [vx, vy] h' (endsV P fn R f')) : SCalls P fid args h R := by
  intro ρ B w0 w args' hw ha
  refine calls_of_wp_defers hfn hb ?_
  have fin : ∀ (ρ' : Ren) (f : AFrame) (h' : AHeap) (a' : Act) (w' : World), Ren.le { ρ with dfr := [] } { ρ' with dfr := [] } → WRel ρ' B w0 h' w' → FRel ρ' fn.ntmps f a' → endsV P fn R f h' →
      ∃ v, (results fn a'.tmps).run P w' = .ok v w' ∧ ((∃ (ρ' : Ren) (r : V) (r' : Value) (h' : AHeap), Ending.returned v = .returned r' ∧ VRel ρ' r r' ∧ WRel ρ' B w0 h' w' ∧ ρ.le ρ' ∧ R r h') ∨
        (∃ (ρ' : Ren) (ch : List PanicEntry) (h' : AHeap), Ending.returned v = .panicked ch ∧ OneChain ch ∧ WRel ρ' B w0 h' w' ∧ ρ.le ρ' ∧ False)) := by
    intro ρ' f h' a' w' hl hw' hf' hQ
    unfold endsV at hQ
    cases hra : resultsA P fn.results.toList f h' with
    | none => simp [hra] at hQ
    | some r =>
    simp only [hra] at hQ
    obtain ⟨r', q1, q2⟩ := run_resultsA hw' hf' hra
    exact ⟨r', q1, .inl ⟨{ ρ' with dfr := ρ.dfr }, r, r', h', rfl, q2.dfr ρ.dfr, hw'.dfr ρ.dfr, ⟨hl.ren, hl.frz, rfl⟩, hQ⟩⟩
  apply wp_seq
  refine wp_mono (h1 { ρ with dfr := [] } B w0 _ w (hw.dfr []) (enter_rel (ha.dfr []) hlen rfl)) ?_
  rintro e a1 w1 ⟨ρ1, z, f1, hh1, hx, hw1, hf1, hl1, rfl, h2⟩
  cases e <;> simp only [XR] at hx
  show (Code.seq A2 _).wp P _ a1 w1
  apply wp_seq
  refine wp_mono (h2 ρ1 B w0 a1 w1 hw1 hf1) ?_
  rintro e a2 w2 ⟨ρ2, z, f2, hh2, hx, hw2, hf2, hl2, hz⟩
  have l2 : Ren.le { ρ with dfr := [] } { ρ2 with dfr := [] } := ⟨(hl1.trans hl2).ren, (hl1.trans hl2).frz, rfl⟩
  rcases hz with ⟨rfl, hz⟩ | ⟨rfl, hz⟩
  · cases e <;> simp only [XR] at hx
    show Leaves P fn a2.tmps _ a2.defers .returning w2
    rw [show a2.defers = [] from (hf2.defers.trans hl2.dfr).trans hl1.dfr]
    exact fin ρ2 f2 hh2 a2 w2 l2 hw2 hf2 hz
  · cases e <;> simp only [XR] at hx
    show (Code.seq (.region rid _ false) C).wp P _ a2 w2
    apply wp_seq
    apply wp_region
    have hsz := hf2.size
    have hdf : a2.defers = [] := (hf2.defers.trans hl2.dfr).trans hl1.dfr
    have hS := h3 f2 hh2 hz
    obtain ⟨vx, hvx⟩ : ∃ v, v = a2.tmps.getD x undef := ⟨_, rfl⟩
    obtain ⟨vy, hvy⟩ : ∃ v, v = a2.tmps.getD y undef := ⟨_, rfl⟩
    have rx := hf2.tmps x
    have ry := hf2.tmps y
    rw [← hvx] at rx
    rw [← hvy] at ry
    have hput := hf2.put (v := .top) (v' := .func (.func g) #[] #[vx, vy]) (.top _) (some t) (by simpa [dstOk] using ht)
    let d : Deferred := { target := .fn (.func g) #[vx, vy], args := #[] }
    have hgo : C.wp P (bodyPostD P fn fun e w' => (∃ (ρ' : Ren) (r : V) (r' : Value) (h' : AHeap), e = .returned r' ∧ VRel ρ' r r' ∧ WRel ρ' B w0 h' w' ∧ ρ.le ρ' ∧ R r h') ∨
        (∃ (ρ' : Ren) (ch : List PanicEntry) (h' : AHeap), e = .panicked ch ∧ OneChain ch ∧ WRel ρ' B w0 h' w' ∧ ρ.le ρ' ∧ False)) { tmps := (a2.put (some t) (.func (.func g) #[] #[vx, vy])).tmps, defers := [d] } w2 := by
      have hF : FRel { ρ2 with dfr := [d] } fn.ntmps (f2.put (some t) .top) { tmps := (a2.put (some t) (.func (.func g) #[] #[vx, vy])).tmps, defers := [d] } :=
        ⟨fun k => (hput.tmps k).dfr [d], hput.size, rfl⟩
      refine wp_mono (hS { ρ2 with dfr := [d] } B w0 _ w2 (hw2.dfr [d]) hF) ?_
      rintro e a3 w3 ⟨ρ3, z, f3, hh3, hx, hw3, hf3, hl3, hz3⟩
      have hd3 : a3.defers = [d] := hf3.defers.trans hl3.dfr
      have hl3' : ρ2.le { ρ3 with dfr := ρ2.dfr } := hl3.dfr_back
      have ra : LRel { ρ3 with dfr := ρ2.dfr } [f2 x, f2 y] #[vx, vy].toList := LRel.cons (rx.mono hl3') (LRel.cons (ry.mono hl3') (LRel.nil _))
      have l3 : Ren.le { ρ with dfr := [] } { ρ3 with dfr := [] } := ⟨fun i q hq => hl3.ren i q (l2.ren i q hq), fun i q hq => hl3.frz i q (l2.frz i q hq), rfl⟩
      have hinv : (invoke d.target d.args).run P w3 = .ok (.enter g #[vx, vy]) w3 := by
        unfold callable at hcal
        cases hg : P.funcs[g]? with
        | none => simp [hg] at hcal
        | some fg =>
          simp only [hg, Bool.and_eq_true, bne_iff_ne, ne_eq] at hcal
          simp [d, invoke, callFunc, hg, hcal.1, hcal.2, Option.isSome_iff_ne_none.1 hcal.1]
      rcases hz3 with ⟨hz3, hk⟩ | ⟨rfl, hk⟩
      · have fin3 : Leaves P fn a3.tmps (fun e w' => (∃ (ρ' : Ren) (r : V) (r' : Value) (h' : AHeap), e = .returned r' ∧ VRel ρ' r r' ∧ WRel ρ' B w0 h' w' ∧ ρ.le ρ' ∧ R r h') ∨
            (∃ (ρ' : Ren) (ch : List PanicEntry) (h' : AHeap), e = .panicked ch ∧ OneChain ch ∧ WRel ρ' B w0 h' w' ∧ ρ.le ρ' ∧ False)) a3.defers .returning w3 := by
          rw [hd3]
          refine ⟨by simp, _, _, g, #[vx, vy], rfl, hinv, ?_⟩
          refine ((hR _ _ _ _ hk) { ρ3 with dfr := ρ2.dfr } B w0 w3 #[vx, vy] (hw3.dfr ρ2.dfr) ra).mono ?_
          rintro e u' w4 ⟨rfl, rfl, ρ4, h4, hw4, hl4, he⟩
          have hF4 : FRel { ρ4 with dfr := [d] } fn.ntmps f3 a3 := ⟨fun k => VRel.mono0 (ρ := ρ3) (ρ' := { ρ4 with dfr := [d] }) (fun i q hq => hl4.ren i q hq) (fun i q hq => hl4.frz i q hq) (hf3.tmps k), hf3.size, hd3⟩
          exact fin { ρ4 with dfr := [d] } f3 h4 a3 w4 ⟨fun i q hq => hl4.ren i q (l3.ren i q hq), fun i q hq => hl4.frz i q (l3.frz i q hq), rfl⟩ (hw4.dfr [d]) hF4 he
        rcases hz3 with rfl | rfl <;> cases e <;> simp only [XR] at hx <;> exact fin3
      · cases e with
        | panic ch =>
          obtain ⟨tt, vv, rfl⟩ := hx
          show Leaves P fn a3.tmps _ a3.defers (.panicking _) w3
          rw [hd3]
          refine ⟨by simp, _, _, g, #[vx, vy], rfl, hinv, ?_⟩
          refine ((hP _ _ _ _ hk) { ρ3 with dfr := ρ2.dfr } B w0 w3 #[vx, vy] tt vv (hw3.dfr ρ2.dfr) ra).mono ?_
          rintro e u' w4 ⟨rfl, rfl, ρ4, h4, hw4, hl4, he⟩
          have hF4 : FRel { ρ4 with dfr := [d] } fn.ntmps f3 a3 := ⟨fun k => VRel.mono0 (ρ := ρ3) (ρ' := { ρ4 with dfr := [d] }) (fun i q hq => hl4.ren i q hq) (fun i q hq => hl4.frz i q hq) (hf3.tmps k), hf3.size, hd3⟩
          show Leaves P fn a3.tmps _ [] (settle _) w4
          simp only [settle, List.dropWhile_nil]
          exact fin { ρ4 with dfr := [d] } f3 h4 a3 w4 ⟨fun i q hq => hl4.ren i q (l3.ren i q hq), fun i q hq => hl4.frz i q (l3.frz i q hq), rfl⟩ (hw4.dfr [d]) hF4 he
        | _ => simp only [XR] at hx
    have e1 : a2.eval (.tmp x) = vx := by simp [Act.eval, hvx]
    have e2 : a2.eval (.tmp y) = vy := by simp [Act.eval, hvy]
    simp [wpOps, go_sem]
    refine .inl (.inl ?_)
    rw [if_pos (show t < a2.tmps.size from hsz.symm ▸ ht)]
    subst hvx hvy
    simpa [Act.put, hdf, d, go_sem, Oper.upon] using hgo
end Go.Proofs.YtedkjhifbibpmaaGreatDoor.Ab

namespace Go.Proofs.YtedkjhifbibpmaaGreatDoor.Ab
set_option linter.unusedVariables false
/-! ### Blocks laid one behind the other -/
section
variable {h : AHeap} {a b c d o : AObj}
theorem get_push3a : (((h.push a).push b).push c).get h.n = a := by simp [get_push, push_n]; intro hh; omega
theorem get_push3b : (((h.push a).push b).push c).get (h.n + 1) = b := by simp [get_push, push_n]
theorem get_push3c : (((h.push a).push b).push c).get (h.n + 1 + 1) = c := by simp [get_push, push_n]
theorem ext_get {h1 h2 : AHeap} (hn : h1.n = h2.n) (hg : ∀ j, h1.get j = h2.get j) (hl : h1.glob = h2.glob) : h1 = h2 := by
  cases h1; cases h2
  simp only [AHeap.mk.injEq]
  exact ⟨hn, funext hg, hl⟩
theorem set_push_lt {i : Nat} (hi : i ≠ h.n) : (h.push a).set i o = (h.set i o).push a := ext_get rfl (fun j => by
  simp only [get_set, get_push, set_n]
  by_cases hj : j = i
  · subst hj; rw [if_pos rfl, if_neg hi, if_pos rfl]
  · rw [if_neg hj, if_neg hj]) rfl
theorem set_push3a : (((h.push a).push b).push c).set h.n o = ((h.push o).push b).push c := by
  rw [set_push_lt (by simp only [push_n]; omega), set_push_lt (by simp only [push_n]; omega), set_push]
end
end Go.Proofs.YtedkjhifbibpmaaGreatDoor.Ab

namespace Go.Proofs.YtedkjhifbibpmaaGreatDoor.Ab
open Go Go.RowKit
set_option linter.unusedVariables false
/-! ### Calls from a world that holds package-level variables -/
def globHeap (g : Nat → Option (List V)) : AHeap := { n := 0, get := fun _ => .dead, glob := g }
def GlobOk (g : Nat → Option (List V)) (w : World) : Prop := ∀ k cs, g k = some cs → ∃ arr e fz, w.heap[k]? = some (.cells arr e fz) ∧ ARel (entryRen w) cs arr
theorem entry_relG {g : Nat → Option (List V)} {w : World} (hg : GlobOk g w) : WRel (entryRen w) w.heap.size w (globHeap g) w := by
  have h0 := entry_rel w
  refine ⟨⟨h0.heap.dom, fun i j b c c' h => by simp [globHeap] at h, fun _ => trivial, h0.heap.frz, fun k cs hk => ?_, Nat.le_refl _⟩, Bel.refl _ _⟩
  obtain ⟨arr, e, fz, hw, hr⟩ := hg k cs hk
  exact ⟨arr, entry_frz hw, hr⟩
theorem SCalls.callsG {P : Program} {fid : FuncId} {args : List V} {v : V} {a : Value} {g : Nat → Option (List V)} (hc : SCalls P fid args (globHeap g) fun r _ => r = v) (hv : flatV v = some a) {w : World} (hg : GlobOk g w)
    {args' : Array Value} (ha : LRel (entryRen w) args args'.toList) : Calls P fid args' w fun e w' => e = .returned a ∧ Below w.heap.size w w' :=
  (hc (entryRen w) w.heap.size w w args' (entry_relG hg) ha).mono fun e w' hh => by
    rcases hh with ⟨ρ', r, r', h', he, hrr, hw, _, hR⟩ | ⟨_, _, _, _, _, _, _, hE⟩
    · subst hR
      rw [flatV_eq hrr hv] at he
      exact ⟨he, hw.below.below⟩
    · exact hE.elim
/-- A table of integers. -/
theorem tab_glob {P : Program} {w : World} {name : String} {k : IntKind} {zs : List Int} {g : Nat} (hg : P.globalNamed name = some g) (h : Lib.TabIs P w name k zs) : ∃ arr e fz, w.heap[g]? = some (.cells arr e fz) ∧ ARel (entryRen w) (zs.map (V.int k)) arr := by
  unfold Lib.TabIs World.var? at h
  rw [hg] at h
  simp only [Option.bind_some] at h
  split at h
  · rename_i cs e fz hq
    obtain rfl := Option.some.inj h
    refine ⟨_, e, fz, hq, by simp, fun i v v' h1 h2 => ?_⟩
    simp only [List.getElem?_map, Option.map_eq_some_iff, List.getElem?_toArray] at h1 h2
    obtain ⟨n, hn, rfl⟩ := h1
    obtain ⟨m, hm, rfl⟩ := h2
    rw [hn] at hm
    cases hm
    exact .int k n
  · cases h
end Go.Proofs.YtedkjhifbibpmaaGreatDoor.Ab

namespace Go.Proofs.YtedkjhifbibpmaaGreatDoor.Ab
open Go Go.RowKit
set_option linter.unusedVariables false
section
variable {H : Type} {enc : TypeId × Value → H} {P : Program} {w : World} {base : Nat} {spare : Nat → Bool} {held : Bool} {Q : List V → Prop} {T0 : TypeId}
end
end Go.Proofs.YtedkjhifbibpmaaGreatDoor.Ab

namespace Go.Proofs.YtedkjhifbibpmaaGreatDoor.Ab
open Go Go.RowKit
set_option linter.unusedVariables false
section
variable {P : Program} {t : TypeId}
end
end Go.Proofs.YtedkjhifbibpmaaGreatDoor.Ab

namespace Go.Proofs.YtedkjhifbibpmaaGreatDoor.Ab
open Go Go.RowKit
set_option linter.unusedVariables false
/-! ### Values told in a weaker way -/
def WkV (v v2 : V) : Prop := ∀ ρ v', VRel ρ v v' → VRel ρ v2 v'
def WkL (l l2 : List V) : Prop := ∀ ρ l', LRel ρ l l' → LRel ρ l2 l'
theorem WkV.refl (v : V) : WkV v v := fun _ _ h => h
theorem WkL.refl (l : List V) : WkL l l := fun _ _ h => h
theorem WkL.cons {v v2 : V} {l l2 : List V} (a : WkV v v2) (b : WkL l l2) : WkL (v :: l) (v2 :: l2) := fun ρ l' h => by
  obtain ⟨v', t', rfl, h1, h2⟩ := h.uncons
  exact LRel.cons (a ρ v' h1) (b ρ t' h2)
theorem WkL.append {a a2 b b2 : List V} (ha : WkL a a2) (hl : a.length = a2.length) (hb : WkL b b2) : WkL (a ++ b) (a2 ++ b2) := fun ρ l' h => by
  have h1 := h.take a.length
  have h2 := h.drop a.length
  rw [List.take_left] at h1
  rw [List.drop_left] at h2
  have := (ha ρ _ h1).append (hb ρ _ h2)
  rwa [List.take_append_drop] at this
theorem WkV.snil : WkV .snil (.imm 0 []) := fun ρ v' h => by cases h; exact .immZ none 0 (by simp)
theorem WkV.imm {n : Nat} {cs cs2 : List V} (h : WkL cs cs2) (hl : cs.length = cs2.length) : WkV (.imm n cs) (.imm n cs2) := fun ρ v' hv => by
  cases hv with
  | imm o n cap hb hn ho hx =>
    rename_i b arr
    have hL : LRel ρ cs ((arr.toList.drop o).take cs.length) := by
      refine ⟨by simp; omega, fun k v v' h1 h2 => ?_⟩
      rw [List.getElem?_take] at h2
      split at h2
      · rw [List.getElem?_drop] at h2
        exact hx k v v' h1 (by simpa using h2)
      · cases h2
    have h2 := h ρ _ hL
    refine .imm o n cap hb hn (by omega) fun k v v' h3 h4 => ?_
    have hk : k < cs.length := by rw [hl]; exact (List.getElem?_eq_some_iff.1 h3).1
    refine h2.2 k v v' h3 ?_
    rw [List.getElem?_take, if_pos hk, List.getElem?_drop]
    simpa using h4
  | immZ a c ha =>
    have : cs2 = [] := List.eq_nil_of_length_eq_zero (by simpa using hl.symm)
    subst this
    exact .immZ a c ha
theorem WkV.cast {v v2 : V} (a : WkV v v2) (h : AHeap) : Cast v h v2 h := fun ρ B w0 w r' hw hv => ⟨ρ, Ren.le.refl ρ, hw, a ρ r' hv⟩
theorem WkV.agg {l l2 : List V} (h : WkL l l2) : WkV (.agg l) (.agg l2) := fun ρ v' hv => by
  cases hv with
  | agg hs hx => exact (h ρ _ (ARel.list ⟨hs, hx⟩)).arr'.agg
theorem WkV.tuple {l l2 : List V} (h : WkL l l2) : WkV (.tuple l) (.tuple l2) := fun ρ v' hv => by
  cases hv with
  | tuple hs hx => exact (h ρ _ (ARel.list ⟨hs, hx⟩)).arr'.tuple
end Go.Proofs.YtedkjhifbibpmaaGreatDoor.Ab

namespace Go.Proofs.YtedkjhifbibpmaaGreatDoor.Ab
open Go Go.RowKit
set_option linter.unusedVariables false
section
variable {P : Program} {t : TypeId} {T : SlT}
theorem own_src {h : AHeap} {e : TypeId} {sz : Nat} {v : V} {cs : List V} (hk : kindT P t = some 1) (ho : Own h e sz v cs) {n : Nat} (hn : cs.length = n * sz) (hpos : 0 < sz) (hone : cs.all (·.one) = true) : aSrc P sz t v h = some (n, cs) := by
  obtain ⟨d, hu, hd⟩ := kindT_eq hk
  cases d <;> simp [descKind] at hd
  rcases ho with ⟨hv, rfl⟩ | ⟨i, len, cap, c, ex, rfl, hi, hg, hlen, htake, hcap⟩
  · have h0 : n = 0 := by
      have : n * sz = 0 := by simpa using hn.symm
      rcases Nat.mul_eq_zero.1 this with h | h <;> omega
    subst h0
    rcases hv with rfl | rfl <;> simp only [aSrc, hu]
  · have h1 : len = n := Nat.eq_of_mul_eq_mul_right hpos (hlen.symm.trans hn)
    subst h1
    have hcl : len * sz ≤ c.length := by
      have := congrArg List.length htake
      rw [List.length_take, hlen] at this
      omega
    simp only [aSrc, hu, hg, List.drop_zero, Nat.zero_add]
    rw [htake, if_pos ⟨hcl, hone⟩]
end
end Go.Proofs.YtedkjhifbibpmaaGreatDoor.Ab

namespace Go.Proofs.YtedkjhifbibpmaaGreatDoor.Ab
open Go Go.RowKit
set_option linter.unusedVariables false
section
variable {H : Type} {enc : TypeId × Value → H} {P : Program} {w : World} {base : Nat} {spare : Nat → Bool} {held : Bool}
end
end Go.Proofs.YtedkjhifbibpmaaGreatDoor.Ab

namespace Go.Proofs.YtedkjhifbibpmaaGreatDoor.Ab
open Go Go.RowKit
set_option linter.unusedVariables false
/-! ### What an idle operation reads, along a plan whose effects touch something -/
section
variable {M : Nat → Prop} {ev : Operand → V} {t s : TypeId} {x y z : Operand} {k : Nat}
theorem nne2 {n : Nat} : (n + 1 + 1 = n) = False := eq_false (by omega)
theorem nne3 {n : Nat} : (n + 1 + 1 + 1 = n) = False := eq_false (by omega)
theorem nne4 {n : Nat} : (n + 1 + 1 + 1 + 1 = n) = False := eq_false (by omega)
theorem nne1' {n : Nat} : (n = n + 1) = False := eq_false (by omega)
theorem nne2' {n : Nat} : (n = n + 1 + 1) = False := eq_false (by omega)
theorem nne3' {n : Nat} : (n = n + 1 + 1 + 1) = False := eq_false (by omega)
def mOkV (M : Nat → Prop) (v : V) : Prop := mOk M (ridV v)
theorem mOk_move : mOk M (ridOp ev (.move x)) = True := eq_true (by intro i hi; cases hi)
theorem mOk_assign : mOk M (ridOp ev (.assign x)) = True := eq_true (by intro i hi; cases hi)
theorem mOk_nilCheck : mOk M (ridOp ev (.nilCheck x)) = True := eq_true (by intro i hi; cases hi)
theorem mOk_fieldAddr : mOk M (ridOp ev (.fieldAddr t x k)) = True := eq_true (by intro i hi; cases hi)
theorem mOk_extract : mOk M (ridOp ev (.extract x k)) = True := eq_true (by intro i hi; cases hi)
theorem mOk_load : mOk M (ridOp ev (.load t x)) = mOkV M (ev x) := rfl
theorem mOkV_ptr {i o : Nat} : mOkV M (.ptr i o) = ¬ M i := propext ⟨fun h => h i rfl, fun h j hj => by cases hj; exact h⟩
end
end Go.Proofs.YtedkjhifbibpmaaGreatDoor.Ab

namespace Go.Proofs.YtedkjhifbibpmaaGreatDoor.Ab
open Go Go.RowKit
set_option linter.unusedVariables false
section
variable {P : Program} {d : Option Tmp} {K : Kt} {f : AFrame} {h : AHeap}
end
end Go.Proofs.YtedkjhifbibpmaaGreatDoor.Ab

namespace Go.Proofs.YtedkjhifbibpmaaGreatDoor.Ab
open Go Go.RowKit
set_option linter.unusedVariables false
section
variable {P : Program} {t : TypeId} {T : SlT}
/-- An own slice with its room known. -/
def OwnK (h : AHeap) (e : TypeId) (sz : Nat) (i len cap : Nat) (c : List V) (ex : Option Nat) (cs : List V) : Prop :=
  i < h.n ∧ h.get i = .cells c e ex ∧ cs.length = len * sz ∧ c.take (len * sz) = cs ∧ cap < unk ∧ cap * sz ≤ c.length ∧ len ≤ cap
theorem OwnK.own {h : AHeap} {e : TypeId} {sz i len cap : Nat} {c cs : List V} {ex : Option Nat} (o : OwnK h e sz i len cap c ex cs) : Own h e sz (.sl i 0 len cap) cs :=
  .inr ⟨i, len, cap, c, ex, rfl, o.1, o.2.1, o.2.2.1, o.2.2.2.1, .inl ⟨o.2.2.2.2.1, o.2.2.2.2.2.1, o.2.2.2.2.2.2⟩⟩
/-- A slice whose room isn't known: it has some room all the same. -/
theorem capK_rel {h : AHeap} {i len sz : Nat} {c : List V} {e : TypeId} (hg : h.get i = .cells c e (some sz)) {ρ : Ren} {B : Nat} {w0 w : World} (R : WRel ρ B w0 h w) {r' : Value} (hr : VRel ρ (.sl i 0 len unk) r') :
    ∃ C, len ≤ C ∧ C < 2 ^ 63 ∧ c.length ≤ C * sz ∧ WRel ρ B w0 (h.set i (.cells (c ++ List.replicate (C * sz - c.length) .top) e none)) w ∧ VRel ρ (.sl i 0 len C) r' := by
  obtain ⟨b, cp, hi, hl, rfl⟩ := hr.sl_inv
  have oi := R.heap.obj i
  rw [hg] at oi
  obtain ⟨b', cp', arr, hi', hf, hB, hw, hc, hrel, hsz, hcp⟩ := oi
  rw [hi] at hi'
  cases hi'
  have hcu : capOf cp unk = cp := by simp [capOf, unk]
  rw [hcu] at hl ⊢
  have hcl : c.length ≤ cp * sz := by omega
  refine ⟨cp, hl, hcp, hcl, R.setO hi (by rw [hg]; simp) (fun k _ => rfl) (Nat.le_refl _) (Bel.refl _ _) ?_, ?_⟩
  · have hlen : (c ++ List.replicate (cp * sz - c.length) V.top).length = arr.size := by simp; omega
    refine ⟨b, cp, arr, hi, hf, hB, hw, by omega, ?_, by rw [hlen]; rfl⟩
    rw [hlen, show arr.toList.take arr.size = arr.toList from by rw [List.take_of_length_le (by simp)]]
    refine ⟨by rw [hlen]; simp, fun k v v' h1 h2 => ?_⟩
    by_cases hk : k < c.length
    · rw [List.getElem?_append_left hk] at h1
      exact hrel.2 k v v' h1 (by rw [List.getElem?_take, if_pos hk]; exact h2)
    · rw [List.getElem?_append_right (by omega)] at h1
      have := List.mem_of_getElem? h1
      rw [List.mem_replicate] at this
      rw [this.2]
      exact .top _
  · have hcc : capOf cp cp = cp := by unfold capOf; rw [if_pos (show cp < unk by unfold unk; omega)]
    have := VRel.sl (ρ := ρ) hi 0 len cp (by rw [hcc]; exact hl)
    rw [hcc] at this
    exact this
/-- A call with an own slice in front: it may be taken to be nil, or to have known room. -/
theorem SCalls.ownK {P : Program} {fid : FuncId} {h : AHeap} {e : TypeId} {sz : Nat} {v : V} {cs rest : List V} {R : V → AHeap → Prop} (ho : Own h e sz v cs) (hsz : 0 < sz)
    (h0 : (v = .snil ∨ v = .z0) → cs = [] → SCalls P fid (v :: rest) h R)
    (h1 : ∀ i len cap c ex h', (v = .sl i 0 len cap ∨ v = .sl i 0 len unk) → OwnK h' e sz i len cap c ex cs → cap < 2 ^ 63 ∨ v = .sl i 0 len cap → Keep h h' (· = i) → h'.n = h.n → SCalls P fid (.sl i 0 len cap :: rest) h' R) : SCalls P fid (v :: rest) h R := by
  rcases ho with ⟨hv, hcs⟩ | ⟨i, len, cap, c, ex, rfl, hi, hg, hlen, htake, ⟨hc1, hc2, hc3⟩ | ⟨rfl, rfl⟩⟩
  · exact h0 hv hcs
  · exact h1 i len cap c ex h (.inl rfl) ⟨hi, hg, hlen, htake, hc1, hc2, hc3⟩ (.inr rfl) (Keep.refl _ _) rfl
  · intro ρ B w0 w args' R1 ha
    cases args' with
    | mk l =>
    cases l with
    | nil => have := ha.1; simp at this
    | cons a l =>
    have hr : VRel ρ (.sl i 0 len unk) a := ha.2 0 _ _ rfl rfl
    obtain ⟨C, k1, k2, k3, R2, r2⟩ := capK_rel hg R1 hr
    have hcl : len * sz ≤ c.length := by
      have := congrArg List.length htake
      rw [List.length_take, hlen] at this
      omega
    refine h1 i len C _ none _ (.inr rfl) ⟨by rw [set_n]; exact hi, get_set_same, hlen, ?_, by unfold unk; omega, ?_, k1⟩ (.inl k2) (Keep.set _ _ _) (set_n) ρ B w0 w _ R2 ?_
    · rw [List.take_append_of_le_length hcl, htake]
    · simp; omega
    · refine ⟨by have := ha.1; simpa using this, fun k v v' q1 q2 => ?_⟩
      cases k with
      | zero => cases q1; cases q2; exact r2
      | succ k => exact ha.2 (k + 1) v v' (by simpa using q1) (by simpa using q2)
/-- An element of an own slice: where it lies, and another one in its place. -/
theorem own_row {sz : Nat} {kk : IntKind} (hs : slSz P t = some sz) (hpos : 0 < sz) {h : AHeap} {e : TypeId} {v : V} {cs : List V} (ho : Own h e sz v cs) {k : Nat} (hk : (k + 1) * sz ≤ cs.length) :
    ∃ i, aIndexAddr P t v (.int kk (k : Int)) = some (.ptr i (k * sz)) ∧ idOf v = some i ∧ i < h.n ∧ (∀ (h' : AHeap) (d : Nat), h'.get i = h.get i → d ≤ sz → ∃ r, dropC (h'.get i) (k * sz + d) = some (((cs.drop (k * sz)).take sz).drop d ++ r)) ∧
      ∀ xs : List V, xs.length = sz → xs.all (·.one) = true → ∃ ob, setC (some sz) (h.get i) (k * sz) xs = some ob ∧ Own (h.set i ob) e sz v (lay cs (k * sz) xs) ∧ Keep h (h.set i ob) (isId v) := by
  rcases ho with ⟨_, rfl⟩ | ⟨i, len, cap, c, ex, rfl, hi, hg, hlen, htake, hcap⟩
  · have : sz ≤ (k + 1) * sz := Nat.le_mul_of_pos_left _ (by omega)
    simp at hk; omega
  · have hcl : len * sz ≤ c.length := by
      have := congrArg List.length htake
      rw [List.length_take, hlen] at this
      omega
    have hkl : k < len := by
      rw [hlen] at hk
      have := Nat.le_of_mul_le_mul_right hk hpos
      omega
    have hmul : k * sz + sz = (k + 1) * sz := by rw [Nat.add_mul]; omega
    refine ⟨i, ?_, rfl, hi, fun h' d hh hd => ⟨c.drop (k * sz + sz), ?_⟩, fun xs hx ho => ⟨.cells (lay c (k * sz) xs) e ex, ?_, .inr ⟨i, len, cap, lay c (k * sz) xs, ex, rfl, by rw [set_n]; exact hi, get_set_same, ?_, ?_, ?_⟩, (Keep.set h i _).mono fun k hk => by subst hk; rfl⟩⟩
    · rw [aIndexAddr_eq, hs, ixGo_sl, if_pos ⟨by omega, by omega⟩]
      simp
    · rw [hh, hg, dropC_cells, if_pos (by omega), ← htake]
      congr 1
      have e1 : ((c.take (len * sz)).drop (k * sz)).take sz = (c.drop (k * sz)).take sz := by
        rw [List.drop_take, List.take_take, Nat.min_eq_left]
        have : (k + 1) * sz ≤ len * sz := Nat.mul_le_mul_right _ hkl
        omega
      have e2 := List.take_append_drop (sz - d) (c.drop (k * sz + d))
      rw [List.drop_drop, show k * sz + d + (sz - d) = k * sz + sz by omega] at e2
      rw [e1, List.drop_take, List.drop_drop]
      exact e2.symm
    · rw [hg]
      unfold setC
      simp only
      rw [if_pos ⟨hx, ho, by omega⟩]
    · rw [length_lay _ _ _ (by rw [hx, hlen]; omega), hlen]
    · rw [lay_take _ _ _ _ (by rw [hx]; omega) hcl, htake]
    · rcases hcap with ⟨a, b, d⟩ | ⟨a, b⟩
      · exact .inl ⟨a, by rw [length_lay _ _ _ (by rw [hx]; omega)]; exact b, d⟩
      · exact .inr ⟨a, b⟩
theorem natOf_nat {k : IntKind} {n : Nat} : natOf (.int k (n : Int)) = some n := by simp [natOf]
theorem aCap_k (hT : slT P t = some T) {i o len cap : Nat} (hc : cap < unk) : aCap P t (.sl i o len cap) = some (.int .i64 cap) := by
  unfold aCap
  rw [(slT_eq hT).2.2.2.2.2]
  simp only
  rw [if_pos hc]
theorem append_made {tn : TypeId} {kn kq : IntKind} (hT : slT P t = some T) (hn : intT P tn = some kn) (hpos : 0 < T.sz) {h : AHeap} {i o len cap n : Nat} {c : List V} {e2 : TypeId} {ex : Option Nat} (hg : h.get i = .cells c e2 ex)
    (h0 : 0 < n) (hu : cap < unk) (hc : cap < len + n) (h1 : (len + n) * T.bs ≤ lim) (h2 : len + n ≤ lim) (hf : o + len * T.sz ≤ c.length) :
    aAppend P t tn (.sl i o len cap) (.int kq (n : Int)) h = some (.sl h.n 0 (len + n) unk, h.push (.cells ((c.drop o).take (len * T.sz) ++ made T.zs n) T.e (some T.sz))) := by
  obtain ⟨he, hz, hsz, hbs, hzs, _⟩ := slT_eq hT
  have hun : ∃ k, P.underlying tn = some (.int k) := by
    unfold intT at hn
    split at hn
    · rename_i k hk; exact ⟨k, hk⟩
    · cases hn
  obtain ⟨k, hun⟩ := hun
  have hsrc : aSrc P T.sz tn (.int kq (n : Int)) h = none := by unfold aSrc; rw [hun]
  unfold aAppend
  simp only [he, hz, hsz, hbs, if_pos hzs, hsrc]
  unfold aAppZ
  simp only [hun, hg]
  rw [if_pos ⟨by omega, hu, by simpa using hc, by simpa using h1, by simpa using h2, hf, hpos⟩]
  simp
section
variable {sz : Nat} {i o len cap : Nat} {k k2 k3 : IntKind}
theorem slK_from (hs : slSz P t = some sz) (hu : cap < unk) {l : Nat} (hl : l ≤ len) (hc : len ≤ cap) :
    aSlice P t (.sl i o len cap) (some (.int k (l : Int))) none none = some (.sl i (if cap = l then o else o + l * sz) (len - l) (cap - l)) := by
  obtain ⟨e, hu1, hz⟩ := slSz_eq hs
  unfold aSlice
  simp only [hu1, hz, loOf_int, hiOf, Option.isSome_none, Bool.false_eq_true, false_and, if_false]
  unfold cutSlice
  rw [if_pos hu, if_pos ⟨hl, hc, Nat.le_refl _⟩]
theorem slK_to (hs : slSz P t = some sz) (hu : cap < unk) {m : Nat} (hm : m ≤ cap) :
    aSlice P t (.sl i o len cap) none (some (.int k (m : Int))) none = some (.sl i o m cap) := by
  obtain ⟨e, hu1, hz⟩ := slSz_eq hs
  unfold aSlice
  simp only [hu1, hz, loOf, hiOf, natOf_nat, Option.isSome_none, Bool.false_eq_true, false_and, if_false]
  unfold cutSlice
  rw [if_pos hu, if_pos ⟨Nat.zero_le _, hm, Nat.le_refl _⟩]
  simp
theorem slK_rng (hs : slSz P t = some sz) (hu : cap < unk) {l m : Nat} (hl : l ≤ m) (hm : m ≤ cap) :
    aSlice P t (.sl i o len cap) (some (.int k (l : Int))) (some (.int k2 (m : Int))) none = some (.sl i (if cap = l then o else o + l * sz) (m - l) (cap - l)) := by
  obtain ⟨e, hu1, hz⟩ := slSz_eq hs
  unfold aSlice
  simp only [hu1, hz, loOf_int, hiOf, natOf_nat, Option.isSome_none, Bool.false_eq_true, false_and, if_false]
  unfold cutSlice
  rw [if_pos hu, if_pos ⟨hl, hm, Nat.le_refl _⟩]
theorem slK_max (hs : slSz P t = some sz) (hu : cap < unk) {l m n : Nat} (hl : l ≤ m) (hm : m ≤ n) (hn : n ≤ cap) :
    ∃ v, aSlice P t (.sl i o len cap) (some (.int k (l : Int))) (some (.int k2 (m : Int))) (some (.int k3 (n : Int))) = some v := by
  obtain ⟨e, hu1, hz⟩ := slSz_eq hs
  refine ⟨.sl i (if n = l then o else o + l * sz) (m - l) (n - l), ?_⟩
  unfold aSlice
  simp only [hu1, hz, loOf_int, hiOf_int, Option.isSome_some, Option.isNone_some, Bool.false_eq_true, and_false, false_or]
  rw [if_neg (by omega), if_neg (by omega)]
  unfold cutSlice
  rw [if_pos hu, if_pos ⟨hl, hm, hn⟩]
theorem slU_from (hs : slSz P t = some sz) {a : Nat} {l : Nat} (hl : l < len) :
    aSlice P t (.sl i o len (unk + a)) (some (.int k (l : Int))) none none = some (.sl i (o + l * sz) (len - l) (unk + a + l)) := by
  obtain ⟨e, hu1, hz⟩ := slSz_eq hs
  unfold aSlice
  simp only [hu1, hz, loOf_int, hiOf, Option.isSome_none, Bool.false_eq_true, false_and, if_false]
  unfold cutSlice
  rw [if_neg (by omega), if_pos ⟨rfl, by omega, Nat.le_refl _⟩, if_pos (.inr hl)]
end
/-- copy between slices of one's own, of the same object or of two. -/
theorem copy_sl (hT : slT P t = some T) {tx : TypeId} {h : AHeap} {i o dl dc j p n d : Nat} {c c2 : List V} {e2 e3 : TypeId} {ex ex2 : Option Nat} (hg : h.get i = .cells c e2 ex) (hg2 : h.get j = .cells c2 e3 ex2)
    {m : Nat} (hm : Nat.min n dl = m) (h0 : 0 < m) (hf2 : p + m * T.sz ≤ c2.length) (hf : o + m * T.sz ≤ c.length) (hone : ((c2.drop p).take (m * T.sz)).all (·.one) = true) :
    aCopy P t (.sl i o dl dc) (.sl j p n d) h = some (.int .i64 m, h.set i (.cells (lay c o ((c2.drop p).take (m * T.sz))) e2 ex)) := by
  obtain ⟨he, hz, hsz, hbs, hzs, _⟩ := slT_eq hT
  have hl : ((c2.drop p).take (m * T.sz)).length = m * T.sz := by rw [List.length_take, List.length_drop]; omega
  unfold aCopy
  simp only [he, hsz, aLenOf, hm]
  simp only [aFirst, hg2, if_pos hf2]
  rw [if_neg (by omega), hg]
  simp only
  rw [if_pos ⟨by rw [hl]; exact hf, hone⟩]
end
end Go.Proofs.YtedkjhifbibpmaaGreatDoor.Ab

namespace Go.Proofs.YtedkjhifbibpmaaGreatDoor.Ab
open Go Go.RowKit
set_option linter.unusedVariables false
set_option linter.unusedSimpArgs false

/-! ### Maps whose keys are told by an encoding -/
/-- What a kind of keys asks of an encoding. -/
structure KeyEnc (P : Program) (kt : TypeId) (d : TypeDesc) {κ : Type} [DecidableEq κ] (ke : κ → V) : Prop where
  eq : ∀ a b, eqKey P kt d (ke a) (ke b) = some (decide (a = b))
  ok : ∀ b a, keyOk P b kt (ke a) = true
  bits : ∀ a, ∃ v, plainV (ke a) = some v ∧ Instr.sameBits 10000 v v = true

section
variable {P : Program} {t kt et : TypeId} {d : TypeDesc} {κ : Type} [DecidableEq κ] {ke : κ → V} {α : Type} {enc : α → V}
def mapK (ke : κ → V) (enc : α → V) (l : List (Nat × κ × α)) : List (Nat × V × V) := l.map fun e => (e.1, ke e.2.1, enc e.2.2)
/-- What a key has. -/
def kget (l : List (Nat × κ × α)) (k : κ) : Option α :=
  match l with
  | [] => none
  | e :: r => if k = e.2.1 then some e.2.2 else kget r k
/-- The entries, a key being set. -/
def kset (cl : Nat) (l : List (Nat × κ × α)) (k : κ) (a : α) : List (Nat × κ × α) :=
  match l with
  | [] => [(cl, k, a)]
  | e :: r => if k = e.2.1 then (e.1, k, a) :: r else e :: kset cl r k a
def kclk (cl : Nat) (l : List (Nat × κ × α)) (k : κ) : Nat := if (kget l k).isSome then cl else cl + 1
/-- The entries without a key. -/
def kdel (l : List (Nat × κ × α)) (k : κ) : List (Nat × κ × α) :=
  match l with
  | [] => []
  | e :: r => if k = e.2.1 then r else e :: kdel r k

/-- Where a key is, and what the three operations make of it. -/
theorem kfind (H : KeyEnc P kt d ke) (k : κ) : ∀ (l : List (Nat × κ × α)),
    (kget l k = none ∧ aFind P kt d (ke k) (mapK ke enc l) = some none ∧ (∀ cl a, kset cl l k a = l ++ [(cl, k, a)]) ∧ kdel l k = l) ∨
    (∃ j e, aFind P kt d (ke k) (mapK ke enc l) = some (some j) ∧ l[j]? = some e ∧ e.2.1 = k ∧ kget l k = some e.2.2 ∧
      (∀ cl a, mapK ke enc (kset cl l k a) = (mapK ke enc l).modify j fun e => (e.1, ke k, enc a)) ∧ mapK ke enc (kdel l k) = (mapK ke enc l).eraseIdx j)
  | [] => .inl ⟨rfl, rfl, fun _ _ => rfl, rfl⟩
  | e :: l => by
    have hf : aFind P kt d (ke k) (mapK ke enc (e :: l)) = if k = e.2.1 then some (some 0) else (aFind P kt d (ke k) (mapK ke enc l)).map fun (q : Option Nat) => q.map (· + 1) := by
      show (match eqKey P kt d (ke k) (ke e.2.1) with | some true => some (some 0) | some false => (aFind P kt d (ke k) (mapK ke enc l)).map fun (q : Option Nat) => q.map (· + 1) | none => none) = _
      rw [H.eq]
      by_cases hk : k = e.2.1
      · simp [hk]
      · simp [hk]
    by_cases hk : k = e.2.1
    · refine .inr ⟨0, e, by rw [hf, if_pos hk], rfl, hk.symm, by rw [kget, if_pos hk], fun cl a => by rw [kset, if_pos hk]; rfl, by rw [kdel, if_pos hk]; rfl⟩
    · rcases kfind H k l with ⟨h1, h2, h3, h4⟩ | ⟨j, e', h1, h2, h3, h4, h5, h6⟩
      · refine .inl ⟨by rw [kget, if_neg hk, h1], by rw [hf, if_neg hk, h2]; rfl, fun cl a => by rw [kset, if_neg hk, h3]; rfl, by rw [kdel, if_neg hk, h4]⟩
      · refine .inr ⟨j + 1, e', by rw [hf, if_neg hk, h1]; rfl, by simpa using h2, h3, by rw [kget, if_neg hk, h4], fun cl a => ?_, ?_⟩
        · rw [kset, if_neg hk]
          show (e.1, ke e.2.1, enc e.2.2) :: mapK ke enc (kset cl l k a) = _
          rw [h5]
          rfl
        · rw [kdel, if_neg hk]
          show (e.1, ke e.2.1, enc e.2.2) :: mapK ke enc (kdel l k) = _
          rw [h6]
          rfl

/-- m[k] -/
theorem lookup_k (H : KeyEnc P kt d ke) {z : Value} {h : AHeap} {i : Nat} {l : List (Nat × κ × α)} {cl : Nat} {k : κ} {ok : Bool} (hm : mapT P t = some (kt, et, d)) (hz : zeroT P et = some z) (hg : h.get i = .map (mapK ke enc l) cl) :
    aLookup P t (.map i) (ke k) ok h = some (match kget l k with | some a => (if ok then .tuple [enc a, .bool true] else enc a) | none => (if ok then .tuple [absV z, .bool false] else absV z)) := by
  unfold aLookup
  simp only [hm, hz, hg, H.ok, if_true]
  rcases kfind (enc := enc) H k l with ⟨h1, h2, _⟩ | ⟨j, e, h1, h2, h3, h4, _⟩
  · rw [h2, h1]
  · have : (mapK ke enc l)[j]? = some (e.1, ke e.2.1, enc e.2.2) := by simp [mapK, h2]
    rw [h1, h4]
    simp only [this]
    rfl
/-- m[k] = a -/
theorem update_k (H : KeyEnc P kt d ke) {h : AHeap} {i : Nat} {l : List (Nat × κ × α)} {cl : Nat} {k : κ} {a : α} {v : V} (hm : mapT P t = some (kt, et, d)) (hg : h.get i = .map (mapK ke enc l) cl) (hv : v = enc a) :
    aUpdate P t (.map i) (ke k) v h = some (h.set i (.map (mapK ke enc (kset cl l k a)) (kclk cl l k))) := by
  subst hv
  unfold aUpdate kclk
  simp only [hm, hg, H.ok, if_true]
  rcases kfind (enc := enc) H k l with ⟨h1, h2, h3, _⟩ | ⟨j, e, h1, h2, h3, h4, h5, _⟩
  · rw [h2, h1, h3]
    simp [mapK]
  · have : (mapK ke enc l)[j]? = some (e.1, ke e.2.1, enc e.2.2) := by simp [mapK, h2]
    obtain ⟨v, hv, hs⟩ := H.bits k
    rw [h1, h4]
    simp only [this, Option.bind_some, h3, hv, hs, if_true, h5]
    rfl
/-- delete(m, k) -/
theorem delete_k (H : KeyEnc P kt d ke) {h : AHeap} {i : Nat} {l : List (Nat × κ × α)} {cl : Nat} {k : κ} (hm : mapT P t = some (kt, et, d)) (hg : h.get i = .map (mapK ke enc l) cl) :
    aDelete P t (.map i) (ke k) h = some (h.set i (.map (mapK ke enc (kdel l k)) cl)) := by
  unfold aDelete
  simp only [hm, hg, H.ok, if_true]
  rcases kfind (enc := enc) H k l with ⟨h1, h2, _, h4⟩ | ⟨j, e, h1, h2, h3, h4, _, h6⟩
  · rw [h2, h4]
    simp only
    rw [set_self hg]
  · rw [h1, h6]

/-! ### The keys, the stamps, the number -/
theorem kset_has : ∀ {l : List (Nat × κ × α)} {k : κ}, (kget l k).isSome = true → ∀ (cl : Nat) (a : α), (kset cl l k a).map (fun e => (e.1, e.2.1)) = l.map (fun e => (e.1, e.2.1))
  | [], k, h, cl, a => by simp [kget] at h
  | e :: l, k, h, cl, a => by
    unfold kset
    by_cases hk : k = e.2.1
    · rw [if_pos hk]; simp [hk]
    · rw [kget, if_neg hk] at h
      rw [if_neg hk, List.map_cons, List.map_cons, kset_has h]
theorem kset_new : ∀ {l : List (Nat × κ × α)} {k : κ}, kget l k = none → ∀ (cl : Nat) (a : α), kset cl l k a = l ++ [(cl, k, a)]
  | [], k, h, cl, a => rfl
  | e :: l, k, h, cl, a => by
    unfold kset
    by_cases hk : k = e.2.1
    · rw [kget, if_pos hk] at h; cases h
    · rw [kget, if_neg hk] at h
      rw [if_neg hk, kset_new h]; rfl
theorem kget_none : ∀ {l : List (Nat × κ × α)} {k : κ}, kget l k = none ↔ ∀ e ∈ l, e.2.1 ≠ k
  | [], k => by simp [kget]
  | e :: l, k => by
    unfold kget
    by_cases hk : k = e.2.1
    · simp [hk]
    · rw [if_neg hk, kget_none]
      simp [Ne.symm hk]
theorem kget_kset : ∀ (l : List (Nat × κ × α)) (cl : Nat) (k : κ) (a : α) (x : κ), kget (kset cl l k a) x = if x = k then some a else kget l x
  | [], cl, k, a, x => by simp [kset, kget]
  | e :: l, cl, k, a, x => by
    unfold kset
    by_cases hk : k = e.2.1
    · rw [if_pos hk]
      unfold kget
      by_cases hx : x = k
      · simp [hx]
      · have : x ≠ e.2.1 := hk ▸ hx
        simp [hx, this]
    · rw [if_neg hk]
      unfold kget
      by_cases hx : x = e.2.1
      · have : x ≠ k := fun hh => hk (hh ▸ hx)
        simp [hx, Ne.symm hk]
      · rw [if_neg hx, kget_kset l cl k a x, if_neg hx]
def KNodup (l : List (Nat × κ × α)) : Prop := (l.map (·.2.1)).Nodup
omit [DecidableEq κ] in
theorem KNodup.nil : KNodup ([] : List (Nat × κ × α)) := List.nodup_nil
theorem KNodup.set {l : List (Nat × κ × α)} (hn : KNodup l) (cl : Nat) (k : κ) (a : α) : KNodup (kset cl l k a) := by
  unfold KNodup at *
  cases hg : kget l k with
  | some b =>
    have h := kset_has (l := l) (k := k) (by rw [hg]; rfl) cl a
    have h2 := congrArg (List.map Prod.snd) h
    rw [List.map_map, List.map_map] at h2
    have h3 : (kset cl l k a).map (·.2.1) = l.map (·.2.1) := h2
    rw [h3]; exact hn
  | none =>
    rw [kset_new hg, List.map_append, List.nodup_append]
    refine ⟨hn, by simp, fun x hx y hy => ?_⟩
    obtain ⟨e, he, rfl⟩ := List.mem_map.1 hx
    simp at hy
    subst hy
    exact kget_none.1 hg e he
theorem kdel_sub : ∀ (l : List (Nat × κ × α)) (k : κ), (kdel l k).Sublist l
  | [], k => List.Sublist.refl _
  | e :: l, k => by
    unfold kdel
    split
    · exact List.sublist_cons_self _ _
    · exact (kdel_sub l k).cons_cons _
theorem KNodup.del {l : List (Nat × κ × α)} (hn : KNodup l) (k : κ) : KNodup (kdel l k) := List.Nodup.sublist ((kdel_sub l k).map _) hn
theorem kget_kdel : ∀ {l : List (Nat × κ × α)}, KNodup l → ∀ (k x : κ), kget (kdel l k) x = if x = k then none else kget l x
  | [], _, k, x => by simp [kdel, kget]
  | e :: l, hn, k, x => by
    have hn' := List.nodup_cons.1 hn
    unfold kdel
    by_cases hk : k = e.2.1
    · rw [if_pos hk]
      by_cases hx : x = k
      · rw [if_pos hx, kget_none]
        intro y hy hh
        exact hn'.1 (List.mem_map.2 ⟨y, hy, by rw [hh, hx, hk]⟩)
      · rw [if_neg hx, kget, if_neg fun hh => hx (hh.trans hk.symm)]
    · rw [if_neg hk]
      unfold kget
      by_cases hx : x = e.2.1
      · rw [if_pos hx, if_pos hx, if_neg fun hh => hk (hh.symm.trans hx)]
      · rw [if_neg hx, if_neg hx, kget_kdel hn'.2 k x]
theorem stamps_kset {l : List (Nat × κ × α)} {cl : Nat} {k : κ} {a : α} (h2 : List.map (Prod.fst ∘ fun e => (e.1, e.2.1)) (kset cl l k a) = List.map (Prod.fst ∘ fun e => (e.1, e.2.1)) l) : (mapK ke enc (kset cl l k a)).map (·.1) = (mapK ke enc l).map (·.1) := by
  unfold mapK
  rw [List.map_map, List.map_map]
  exact h2
theorem Stamps.kset {l : List (Nat × κ × α)} {cl : Nat} (hs : Stamps (mapK ke enc l) cl) (k : κ) (a : α) : Stamps (mapK ke enc (kset cl l k a)) (kclk cl l k) := by
  cases hg : kget l k with
  | none =>
    have : kclk cl l k = cl + 1 := by unfold kclk; rw [hg]; rfl
    rw [this, kset_new hg]
    have := hs.snoc (ke k) (enc a)
    simpa [mapK] using this
  | some b =>
    have : kclk cl l k = cl := by unfold kclk; rw [hg]; rfl
    rw [this]
    have h := kset_has (l := l) (k := k) (by rw [hg]; rfl) cl a
    have h2 := congrArg (List.map Prod.fst) h
    rw [List.map_map, List.map_map] at h2
    have h3 := stamps_kset (ke := ke) (enc := enc) h2
    refine ⟨fun e he => ?_, by rw [h3]; exact hs.2⟩
    have : e.1 ∈ (mapK ke enc l).map (·.1) := by rw [← h3]; exact List.mem_map.2 ⟨e, he, rfl⟩
    obtain ⟨e', he', h4⟩ := List.mem_map.1 this
    rw [← h4]; exact hs.1 e' he'
theorem kmem : ∀ {l : List (Nat × κ × α)}, KNodup l → ∀ {e : Nat × κ × α}, e ∈ l → kget l e.2.1 = some e.2.2
  | [], _, e, he => by cases he
  | x :: l, hn, e, he => by
    have hn' := List.nodup_cons.1 hn
    unfold kget
    rcases List.mem_cons.1 he with rfl | he'
    · rw [if_pos rfl]
    · rw [if_neg fun hh => hn'.1 (List.mem_map.2 ⟨e, he', hh⟩)]
      exact kmem hn'.2 he'
end
end Go.Proofs.YtedkjhifbibpmaaGreatDoor.Ab

namespace Go.Proofs.YtedkjhifbibpmaaGreatDoor.Ab
open Go Go.Sort Go.Proofs
set_option linter.unusedVariables false

/-! ### SortFunc of structs: the library's contract, told over the world, as one over an abstract heap -/
theorem Bel.grow {W w' : World} (h : Bel W.heap.size W w') : ∃ q os', w' = Sort.grow (W.drewN q) os' := by
  refine ⟨w'.drawn - W.drawn, w'.heap.extract W.heap.size w'.heap.size, ?_⟩
  obtain ⟨hos, ht, hout, hsz, hb, hd⟩ := h
  have e : w'.heap = W.heap ++ w'.heap.extract W.heap.size w'.heap.size := by
    apply Array.ext_getElem?
    intro k
    rw [Array.getElem?_append]
    by_cases hk : k < W.heap.size
    · rw [if_pos hk]; exact hb k hk
    · rw [if_neg hk, Array.getElem?_extract]
      by_cases h2 : k < w'.heap.size
      · rw [if_pos (by omega), show W.heap.size + (k - W.heap.size) = k by omega]
      · rw [if_neg (by omega), Array.getElem?_eq_none (by omega)]
  have e2 : W.drawn + (w'.drawn - W.drawn) = w'.drawn := by omega
  cases w'
  cases W
  simp only [Sort.grow, World.drewN] at *
  subst hos ht hout
  rw [← e, e2]

section
variable {ρ : Ren} {B : Nat} {w0 : World} {h : AHeap} {w : World}
theorem WRel.putVals (R : WRel ρ B w0 h w) {i b cp : Nat} {c vs : List V} {e : TypeId} {ex : Option Nat} (hg : h.get i = .cells c e ex) (hi : ρ.ren i = some (b, cp)) {d : Array Value} (hv : LRel ρ vs d.toList) (hn : vs.length ≤ c.length) :
    WRel ρ B w0 (h.set i (.cells (vs ++ c.drop vs.length) e ex)) (Sort.putRow id w b 0 d) := by
  have ho := R.heap.obj i
  rw [hg] at ho
  obtain ⟨b', cp', arr, hr, hf, hB, hw, hlen, hrel, hx⟩ := ho
  rw [hi] at hr
  cases hr
  have hlt := (Array.getElem?_eq_some_iff.1 hw).1
  have hds : d.size = vs.length := by have := hv.1; simp at this; omega
  have hheap : ∀ j, (Sort.putRow id w b 0 d).heap[j]? = if b = j then (w.heap[j]?).map (Sort.onCells (Sort.putCells id 0 d)) else w.heap[j]? := fun j => by
    show (w.heap.modify b _)[j]? = _
    rw [Array.getElem?_modify]
  refine R.setO hi (by rw [hg]; simp) (fun j hj => by rw [hheap, if_neg (Ne.symm hj)]) (by rw [Sort.size_putRow]; exact Nat.le_refl _) ⟨rfl, rfl, rfl, by rw [Sort.size_putRow]; exact Nat.le_refl _, fun j hj => by rw [hheap, if_neg (by omega)], Nat.le_refl _⟩ ?_
  have hl : (vs ++ c.drop vs.length).length = c.length := by simp; omega
  refine ⟨b, cp, Sort.putCells id 0 d arr, hi, hf, hB, by rw [hheap, if_pos rfl, hw]; rfl, by rw [hl]; simpa [Sort.putCells] using hlen, ?_, by rw [hl]; simpa [Sort.putCells] using hx⟩
  rw [hl]
  refine ⟨by simp [Sort.putCells]; omega, fun j v v' h1 h2 => ?_⟩
  rw [List.getElem?_take] at h2
  split at h2
  case isFalse => cases h2
  rename_i hj
  rw [Array.getElem?_toList] at h2
  unfold Sort.putCells at h2
  rw [Array.getElem?_mapIdx, Option.map_eq_some_iff] at h2
  obtain ⟨x, hx1, hx2⟩ := h2
  by_cases hjn : j < vs.length
  · rw [if_pos ⟨Nat.zero_le _, by omega⟩] at hx2
    subst hx2
    rw [List.getElem?_append_left hjn] at h1
    refine hv.2 j v _ h1 ?_
    rw [Array.getElem?_toList, Nat.sub_zero, Array.getElem?_eq_getElem (by omega), getElem!_pos d j (by omega)]
    rfl
  · rw [if_neg (by omega)] at hx2
    subst hx2
    rw [List.getElem?_append_right (by omega), List.getElem?_drop, show vs.length + (j - vs.length) = j by omega] at h1
    refine hrel.2 j v x h1 ?_
    rw [List.getElem?_take, if_pos hj, Array.getElem?_toList]
    exact hx1
theorem WRel.holdsV (R : WRel ρ B w0 h w) {i b cp : Nat} {c vs : List V} {e : TypeId} {ex : Option Nat} (hg : h.get i = .cells c e ex) (hi : ρ.ren i = some (b, cp)) (hc : c.take vs.length = vs) :
    ∃ d : Array Value, LRel ρ vs d.toList ∧ Sort.Holds id w b 0 d ∧ b < w.heap.size := by
  have ho := R.heap.obj i
  rw [hg] at ho
  obtain ⟨b', cp', arr, hr, hf, hB, hw, hlen, hrel, hx⟩ := ho
  rw [hi] at hr
  cases hr
  have hcl : vs.length ≤ c.length := by
    have := congrArg List.length hc
    rw [List.length_take] at this
    omega
  refine ⟨(arr.toList.take vs.length).toArray, ?_, fun j hj => ?_, (Array.getElem?_eq_some_iff.1 hw).1⟩
  · have := hrel.take vs.length
    rw [hc, List.take_take, Nat.min_eq_left hcl] at this
    simpa using this
  · simp only [List.size_toArray, List.length_take, Array.length_toList] at hj
    have hja : j < arr.size := by omega
    rw [getElem!_pos _ j (by simp; omega)]
    simp [World.cell?, World.frozen?, hw, Array.getElem?_eq_getElem hja]

/-- What is frozen stays so while a row of the call's own is sorted. -/
theorem WRel.frzSort (R : WRel ρ B w0 h w) {i b cp : Nat} (hl : h.get i ≠ .dead) (hi : ρ.ren i = some (b, cp)) {α : Type} [Inhabited α] (enc : α → List Value) (k m : Nat) (dk : Array α) (os : Array Obj) :
    ∀ b' a, ρ.frz b' = some a → (entryRen (sortWorldK enc k w b 0 m dk os)).frz b' = some a := by
  intro b' a hf
  obtain ⟨e, fz, hw⟩ := R.heap.frz b' a hf
  obtain ⟨b2, cp2, hr, hlt, _, hfb, _⟩ := R.heap.live hl
  rw [hi] at hr
  cases hr
  have hne : b ≠ b' := fun hh => by subst hh; rw [hfb] at hf; cases hf
  have hlt' := (Array.getElem?_eq_some_iff.1 hw).1
  have h1 : (sortWorldK enc k w b 0 m dk os).heap[b']? = w.heap[b']? := by
    show ((w.heap.modify b _) ++ os)[b']? = _
    rw [Array.getElem?_append, if_pos (by simpa using hlt'), Array.getElem?_modify, if_neg hne]
  exact entry_frz (h1.trans hw)
end

theorem SCalls.callsB {P : Program} {fid : FuncId} {args : List V} {v : V} {a : Value} (hc : SCalls P fid args noHeap fun r _ => r = v) (hv : flatV v = some a) {w : World}
    {args' : Array Value} (ha : LRel (entryRen w) args args'.toList) : Calls P fid args' w fun e w' => e = .returned a ∧ Bel w.heap.size w w' :=
  (hc (entryRen w) w.heap.size w w args' (entry_rel w) ha).mono fun e w' hh => by
    rcases hh with ⟨ρ', r, r', h', he, hrr, hw, _, hR⟩ | ⟨_, _, _, _, _, _, _, hE⟩
    · subst hR
      rw [flatV_eq hrr hv] at he
      exact ⟨he, hw.below⟩
    · exact hE.elim

/-- The comparator's contract, as the library's sort asks for it. -/
theorem cmp_lays {P : Program} {g : FuncId} {β : Type} {E : β → List V} {cf : β → β → Int} (hcmp : ∀ a b, SCalls P g [.agg (E a), .agg (E b)] noHeap fun r _ => r = .int .i64 (cf a b)) (hclo : ∀ x, CloL (E x))
    {ρ : Ren} {B : Nat} {w0 : World} {h : AHeap} {w : World} (R : WRel ρ B w0 h w) {i b cp : Nat} (hl : h.get i ≠ .dead) (hi : ρ.ren i = some (b, cp))
    {α : Type} [Inhabited α] (rows : α → β) (enc : α → List Value) (henc : ∀ x, LRel ρ (E (rows x)) (enc x)) (size k : Nat) : CmpLays P g #[] enc k (fun x y => cf (rows x) (rows y)) b 0 size w := by
  intro m os dk hdk x y
  have hf := R.frzSort hl hi enc k m dk os
  have va : ∀ x, VRel (entryRen (sortWorldK enc k w b 0 m dk os)) (.agg (E (rows x))) (.agg (enc x).toArray) := fun x => .agg (by simpa using (henc x).1) fun j v v' h1 h2 => by
    refine hclo (rows x) v (List.mem_of_getElem? h1) ρ _ v' ((henc x).2 j v v' h1 ?_) hf
    simpa using h2
  have hc := (hcmp (rows x) (rows y)).callsB (a := .int .i64 (cf (rows x) (rows y))) rfl (w := sortWorldK enc k w b 0 m dk os) (args' := #[.agg (enc x).toArray, .agg (enc y).toArray]) (LRel.cons (va x) (LRel.cons (va y) (LRel.nil _)))
  rw [Array.append_empty]
  exact hc.mono fun e w' hh => ⟨hh.1, hh.2.grow⟩

theorem flatK_list {α : Type} [Inhabited α] (enc : α → List Value) (k : Nat) (hk : ∀ x, (enc x).length = k) (d : Array α) : (flatK enc k d).toList = d.toList.flatMap enc := by
  have hlen : ∀ l : List α, (l.flatMap enc).length = l.length * k := fun l => by
    induction l with
    | nil => simp
    | cons x l ih => rw [List.flatMap_cons, List.length_append, hk, ih, List.length_cons, Nat.add_mul]; omega
  have hget : ∀ (l : List α) (t : Nat), t < l.length * k → (l.flatMap enc)[t]! = (enc l[t / k]!)[t % k]! := fun l => by
    induction l with
    | nil => intro t ht; simp at ht
    | cons x l ih =>
      intro t ht
      have hk0 : 0 < k := by
        rcases Nat.eq_zero_or_pos k with h0 | h0
        · subst h0; simp at ht
        · exact h0
      rw [List.flatMap_cons]
      by_cases h1 : t < k
      · rw [Nat.div_eq_of_lt h1, Nat.mod_eq_of_lt h1]
        simp [List.getElem!_eq_getElem?_getD, List.getElem?_append_left (show t < (enc x).length by rw [hk]; exact h1)]
      · obtain ⟨u, rfl⟩ : ∃ u, t = u + k := ⟨t - k, by omega⟩
        rw [List.length_cons, Nat.add_mul, Nat.one_mul] at ht
        have := ih u (by omega)
        rw [Nat.add_div_right _ hk0, Nat.add_mod_right]
        simp only [List.getElem!_eq_getElem?_getD, List.getElem?_cons_succ] at this ⊢
        rw [List.getElem?_append_right (by rw [hk]; omega), hk, Nat.add_sub_cancel]
        exact this
  apply List.ext_getElem
  · rw [hlen]; simp
  · intro t h1 h2
    have ht : t < d.size * k := by simpa using h1
    have e1 := get_flatK enc k d t ht
    have e2 := hget d.toList t (by simpa using ht)
    rw [getElem!_pos _ t (by simpa using ht)] at e1
    rw [getElem!_pos _ t h2] at e2
    rw [Array.getElem_toList, e1, e2]
    congr 2
    simp [Array.getElem!_eq_getD, List.getElem!_eq_getElem?_getD, Array.getD_eq_getD_getElem?]

/-- SortFunc of an own slice of structs: some permutation that is sorted. -/
theorem sortF_own {P : Program} {f : FuncId} {g : FuncId} {e : TypeId} {k : Nat} {β : Type} {E : β → List V} {cf : β → β → Int} (hk0 : 0 < k)
    (hk : ∀ x, (E x).length = k) (h1 : ∀ x, (E x).all (·.one) = true) (hclo : ∀ x, CloL (E x)) (hO : SWO (ltOf cf))
    (hcmp : ∀ a b, SCalls P g [.agg (E a), .agg (E b)] noHeap fun r _ => r = .int .i64 (cf a b))
    (hcall : ∀ (n : Nat) (enc : Fin (n + 1) → List Value) (hk : ∀ x, (enc x).length = k) (h1 : ∀ x, ∀ v ∈ enc x, v.oneCell' = true) (cf : Fin (n + 1) → Fin (n + 1) → Int) (hO : SWO (ltOf cf)) (blk cap : Nat) (d : Array (Fin (n + 1))) (w : World),
      CmpLays P g #[] enc k cf blk 0 d.size w → HoldsK enc k w blk 0 d → blk < w.heap.size → d.size < 4611686018427387904 →
      Calls P f #[.slice (some ⟨blk, 0, none⟩) d.size cap, .func (.func g) #[] #[]] w fun e w' => e = .returned (.tuple #[]) ∧ ∃ d' n os, PermIn 0 d.size d d' ∧ SortedIn (ltOf cf) 0 d.size d' ∧ w' = sortWorldK enc k w blk 0 n d' os)
    {h : AHeap} {v : V} {l : List β} (hnone : l = [] → SCalls P f [v, .func (.func g) [] []] h fun r h' => r = .tuple [] ∧ h' = h)
    (ho : Own h e k v (l.flatMap E)) (hl : l.length < 4611686018427387904) :
    SCalls P f [v, .func (.func g) [] []] h fun r h' => r = .tuple [] ∧ Keep h h' (isId v) ∧ ∃ l' : List β, l'.Perm l ∧ (l'.Pairwise fun a b => ltOf cf b a = false) ∧ Own h' e k v (l'.flatMap E) := by
  by_cases hl0 : l = []
  · refine (hnone hl0).mono fun r h' ⟨hr, hh⟩ => ?_
    subst hh
    exact ⟨hr, Keep.refl _ _, l, List.Perm.refl _, by rw [hl0]; exact List.Pairwise.nil, ho⟩
  have hlen := rows_len hk l
  rcases ho with ⟨_, hcs⟩ | ⟨i, len, cap, c, ex, rfl, hilt, hg, hlc, htake, hcap⟩
  · rw [hcs] at hlen
    have : 0 < l.length := List.length_pos_iff.2 hl0
    have := Nat.mul_pos this hk0
    simp at hlen
    omega
  rw [hlen] at hlc
  have hln : l.length = len := Nat.eq_of_mul_eq_mul_right hk0 hlc
  subst hln
  obtain ⟨n, hn⟩ : ∃ n, l.length = n + 1 := ⟨l.length - 1, by have := List.length_pos_iff.2 hl0; omega⟩
  intro ρ B w0 w args' R ha
  obtain ⟨v1, t1, ht1, hv1, ha1⟩ := ha.uncons
  obtain ⟨v2, t2, ht2, hv2, ha2⟩ := ha1.uncons
  have ht3 := ha2.eq_nil
  subst ht3
  have e2 : v2 = .func (.func g) #[] #[] := by
    cases hv2 with
    | func fn hs ht _ _ =>
      rename_i xs' ys' _ _
      have e1 := Array.eq_empty_of_size_eq_zero (xs := xs') hs.symm
      have e2 := Array.eq_empty_of_size_eq_zero (xs := ys') ht.symm
      rw [e1, e2]
  subst e2
  cases hv1 with
  | sl hi _ _ _ hle =>
  rename_i b cp
  have ea : args' = #[.slice (some ⟨b, 0, none⟩) l.length (capOf cp cap), .func (.func g) #[] #[]] := by
    apply Array.toList_inj.1
    rw [ht1, ht2]
  subst ea
  obtain ⟨D, hD, hH, hlt⟩ := R.holdsV hg hi (vs := l.flatMap E) (by rw [hlen]; exact htake)
  have hDs : D.size = l.length * k := by have := hD.1; simp only [Array.length_toList] at this; omega
  let rows : Fin (n + 1) → β := fun x => l[x.1]'(by omega)
  let enc : Fin (n + 1) → List Value := fun x => (D.toList.drop (x.1 * k)).take k
  have hrow : ∀ x : Fin (n + 1), ((l.flatMap E).drop (x.1 * k)).take k = E (rows x) := fun x => by
    rw [rows_drop hk, List.drop_eq_getElem_cons (show x.1 < l.length by omega), List.flatMap_cons, List.take_left' (hk _)]
  have henc : ∀ x, LRel ρ (E (rows x)) (enc x) := fun x => by
    have := (hD.drop (x.1 * k)).take k
    rwa [hrow x] at this
  have hke : ∀ x, (enc x).length = k := fun x => by rw [← (henc x).1, hk]
  have h1e : ∀ x, ∀ v ∈ enc x, v.oneCell' = true := fun x => (henc x).one (h1 _)
  let d : Array (Fin (n + 1)) := (List.finRange (n + 1)).toArray
  have hds : d.size = l.length := by simp [d, hn]
  have hflat : flatK enc k d = D := by
    apply Array.toList_inj.1
    rw [flatK_list enc k hke]
    have key : ∀ (m : Nat) (hm : m ≤ n + 1), (((List.finRange (n + 1)).take m).flatMap enc) = D.toList.take (m * k) := fun m => by
      induction m with
      | zero => intro _; simp
      | succ m ih =>
        intro hm
        rw [List.take_add_one, List.flatMap_append, ih (by omega), List.getElem?_eq_getElem (by simp; omega)]
        simp only [Option.toList_some, List.flatMap_cons, List.flatMap_nil, List.append_nil, List.getElem_finRange, enc]
        rw [Nat.add_mul, Nat.one_mul]
        simp [List.take_add]
    have := key (n + 1) (Nat.le_refl _)
    rw [List.take_of_length_le (by simp)] at this
    show (List.finRange (n + 1)).flatMap enc = _
    rw [this, List.take_of_length_le (by rw [Array.length_toList, hDs, hn]; exact Nat.le_refl _)]
  have hO2 : SWO (ltOf fun x y => cf (rows x) (rows y)) := ⟨fun x => hO.irrefl _, fun x y z => hO.trans _ _ _, fun x y z => hO.ntrans _ _ _⟩
  have hlive : h.get i ≠ .dead := by rw [hg]; simp
  have hcl := cmp_lays hcmp hclo R hlive hi rows enc henc d.size k
  have hcl2 := hcall n enc hke h1e (fun x y => cf (rows x) (rows y)) hO2 b (capOf cp cap) d w hcl (by unfold HoldsK; rw [hflat]; exact hH) hlt (by rw [hds]; exact hl)
  rw [hds] at hcl2
  refine hcl2.mono fun x w' ⟨hx, d', m, os, hp, hs, hw'⟩ => .inl ⟨ρ, .tuple [], .tuple #[], h.set i (.cells ((d'.toList.map rows).flatMap E ++ c.drop ((d'.toList.map rows).flatMap E).length) e ex), hx, .tuple rfl (by simp), ?_, Ren.le.refl ρ, rfl, ?_, d'.toList.map rows, ?_, ?_, ?_⟩
  · subst hw'
    have hd's : d'.size = l.length := by rw [hp.1, hds]
    have hlen' : ((d'.toList.map rows).flatMap E).length = l.length * k := by rw [rows_len hk]; simp [hd's]
    have hcl3 : l.length * k ≤ c.length := by
      have := congrArg List.length htake
      rw [List.length_take, hlen] at this
      omega
    have hv : LRel ρ ((d'.toList.map rows).flatMap E) (flatK enc k d').toList := by
      rw [flatK_list enc k hke]
      have : ∀ q : List (Fin (n + 1)), LRel ρ ((q.map rows).flatMap E) (q.flatMap enc) := fun q => by
        induction q with
        | nil => exact LRel.nil ρ
        | cons a q ih =>
          rw [List.map_cons, List.flatMap_cons, List.flatMap_cons]
          exact (henc a).append ih
      exact this _
    exact ((R.ahead m).putVals hg hi hv (by rw [hlen']; exact hcl3)).grow os
  · exact (Keep.set h i _).mono fun q hq => by simp [isId, idOf, hq]
  · have hd's : d'.size = l.length := by rw [hp.1, hds]
    have h3 := hp.2.2
    have e1 : d'.extract 0 l.length = d' := by rw [← hd's]; simp
    have e2 : d.extract 0 l.length = d := by rw [← hds]; simp
    rw [e1, e2] at h3
    have h4 := h3.map rows
    have e3 : d.toList.map rows = l := by
      apply List.ext_getElem
      · simp [d, hn]
      · intro j h1 h2
        simp [d, rows]
    rwa [e3] at h4
  · have hd's : d'.size = l.length := by rw [hp.1, hds]
    rw [List.pairwise_map, List.pairwise_iff_getElem]
    intro a b' ha hb hab
    have := hs a b' (Nat.zero_le _) hab (by simp at hb; omega)
    rw [getElem!_pos d' b' (by simpa using hb), getElem!_pos d' a (by simpa using ha)] at this
    simpa [ltOf] using this
  · have hd's : d'.size = l.length := by rw [hp.1, hds]
    have hlen' : ((d'.toList.map rows).flatMap E).length = l.length * k := by rw [rows_len hk]; simp [hd's]
    have hcl3 : l.length * k ≤ c.length := by
      have := congrArg List.length htake
      rw [List.length_take, hlen] at this
      omega
    refine .inr ⟨i, l.length, cap, _, ex, rfl, hilt, get_set_same, by rw [hlen'], ?_, ?_⟩
    · rw [List.take_left' hlen']
    · rcases hcap with ⟨h2, h3, h4⟩ | ⟨h2, h3⟩
      · refine .inl ⟨h2, ?_, h4⟩
        rw [List.length_append, List.length_drop, hlen']
        omega
      · exact .inr ⟨h2, h3⟩
end Go.Proofs.YtedkjhifbibpmaaGreatDoor.Ab

namespace Go.Proofs.YtedkjhifbibpmaaGreatDoor.Ab
open Go
set_option linter.unusedVariables false

/-! ### Maps with encoded keys, ranged over -/
section
variable {κ α : Type} {ke : κ → V} {enc : α → V}
end
theorem Acc.set {h0 h : AHeap} {e : TypeId} {sz : Nat} {v : V} {cs : List V} (a : Acc h0 h e sz v cs) {i : Nat} (hi : h0.n ≤ i) (hv : idOf v ≠ some i) (o : AObj) : Acc h0 (h.set i o) e sz v cs :=
  ⟨a.own.keep (Keep.set _ _ _) fun k hk he => hv (by rw [hk, he]), a.keep.setNew hi o, a.new⟩
end Go.Proofs.YtedkjhifbibpmaaGreatDoor.Ab

namespace Go.Proofs.YtedkjhifbibpmaaGreatDoor.Ab
open Go
set_option linter.unusedVariables false
/-! ### An empty slice: nil, or not -/
theorem Cast.snil0 (h : AHeap) : Cast .snil h (.imm 0 []) h := fun ρ B w0 w r' hw hv => ⟨ρ, Ren.le.refl ρ, hw, by cases hv; exact .immZ none 0 fun _ => rfl⟩
theorem Cast.e0 (h : AHeap) : Cast .e0 h (.imm 0 []) h := fun ρ B w0 w r' hw hv => ⟨ρ, Ren.le.refl ρ, hw, by cases hv; exact .immZ _ _ fun e => by cases e⟩
section
variable {P : Program} {t : TypeId} {xo yo : Operand}
end
end Go.Proofs.YtedkjhifbibpmaaGreatDoor.Ab
namespace Go.Proofs.YtedkjhifbibpmaaGreatDoor.Ab
open Go
/-! ### Maps whose keys are integers -/
theorem KeyEnc.ofInt {P : Program} {t kt et : TypeId} {kk : IntKind} (hm : mapT P t = some (kt, et, .int kk)) : KeyEnc P kt (.int kk) (V.int kk) where
  eq a b := by rw [eqKey_int rfl]; rfl
  ok b a := checkKey_int (mapT_eq hm).2 rfl
  bits a := ⟨_, rfl, by simp [Instr.sameBits]⟩
end Go.Proofs.YtedkjhifbibpmaaGreatDoor.Ab
namespace Go.Proofs.YtedkjhifbibpmaaGreatDoor.Ab
section
variable {M : Nat → Prop} {ev : Operand → V} {t : TypeId} {m k : Operand} {b : Bool}
end
end Go.Proofs.YtedkjhifbibpmaaGreatDoor.Ab

namespace Go.Proofs.YtedkjhifbibpmaaGreatDoor.Ab
open Go Go.RowKit
set_option linter.unusedVariables false
/-! ### What lies in a block, told otherwise -/
end Go.Proofs.YtedkjhifbibpmaaGreatDoor.Ab
namespace Go.Proofs.YtedkjhifbibpmaaGreatDoor.Ab
open Go Go.RowKit
section
variable {P : Program} {h : AHeap} {s : TypeId}
end
end Go.Proofs.YtedkjhifbibpmaaGreatDoor.Ab
namespace Go.Proofs.YtedkjhifbibpmaaGreatDoor.Ab
open Go Go.RowKit
/-! ### A slice of slices: what was appended last is told otherwise -/
end Go.Proofs.YtedkjhifbibpmaaGreatDoor.Ab

namespace Go.Proofs.YtedkjhifbibpmaaGreatDoor.Ab
open Go Go.RowKit
set_option linter.unusedVariables false
/-! ### A block is told otherwise once, whoever holds it -/
def CastA (v : V) (h : AHeap) (v2 : V) (h2 : AHeap) : Prop :=
  ∀ (ρ : Ren) (B : Nat) (w0 w : World), WRel ρ B w0 h w → ∃ ρ', ρ.le ρ' ∧ WRel ρ' B w0 h2 w ∧ ∀ r', VRel ρ v r' → VRel ρ' v2 r'
theorem CastA.own {h : AHeap} {i n cap sz : Nat} {c z : List V} {e : TypeId} {ex : Option Nat} (hg : h.get i = .cells (c ++ z) e ex) (hc : c.length = n * sz) : CastA (.sl i 0 n cap) h (.imm n c) (h.set i .dead) := fun ρ B w0 w hw => by
  obtain ⟨ρ', hle, hw', b, cp, arr, hr, hf, hca, hl⟩ := hw.freeze hg
  refine ⟨ρ', hle, hw', fun r' hv => ?_⟩
  obtain ⟨b2, cp2, hi2, hl2, rfl⟩ := hv.sl_inv
  rw [hr] at hi2
  simp only [Option.some.injEq, Prod.mk.injEq] at hi2
  obtain ⟨rfl, rfl⟩ := hi2
  rw [List.length_append] at hca
  refine .imm 0 n _ hf hl2 (by omega) fun k v v' h1 h2 => ?_
  have hk : k < c.length := (List.getElem?_eq_some_iff.1 h1).1
  refine (hl.2 k v v' (by rw [List.getElem?_append_left hk]; exact h1) ?_).mono hle
  rw [List.getElem?_take, if_pos (by rw [List.length_append]; omega), Array.getElem?_toList]
  simpa using h2
theorem CastA.cast {v v2 : V} {h h2 : AHeap} (c : CastA v h v2 h2) : Cast v h v2 h2 := fun ρ B w0 w r' hw hv =>
  let ⟨ρ', l, w', f⟩ := c ρ B w0 w hw
  ⟨ρ', l, w', f r' hv⟩
theorem CastA.agg {v v2 : V} {l : List V} {h h2 : AHeap} (a : CastA v h v2 h2) : CastA (.agg (v :: l)) h (.agg (v2 :: l)) h2 := fun ρ B w0 w hw => by
  obtain ⟨ρ', le, w', f⟩ := a ρ B w0 w hw
  refine ⟨ρ', le, w', fun r' hv => ?_⟩
  cases hv with
  | agg hs hx =>
    rename_i xs
    have L : LRel ρ (v :: l) xs.toList := ⟨by simpa using hs, by simpa using hx⟩
    obtain ⟨v', t', e, h1, h2⟩ := L.uncons
    have L2 : LRel ρ' (v2 :: l) xs.toList := by rw [e]; exact LRel.cons (f v' h1) ⟨h2.1, fun k a b ha hb => (h2.2 k a b ha hb).mono le⟩
    exact L2.arr'.agg
/-- A cell that holds the value is told otherwise with it. -/
theorem CastA.cell {h h1 : AHeap} {X : Nat} {v v2 : V} {c : List V} {e : TypeId} {ex : Option Nat} (ca : CastA v h v2 h1) (hg : h.get X = .cells (v :: c) e ex) (hg1 : h1.get X = .cells (v :: c) e ex) :
    CastA v h v2 (h1.set X (.cells (v2 :: c) e ex)) := fun ρ B w0 w hw => by
  have ho := hw.heap.obj X
  rw [hg] at ho
  obtain ⟨b, cp, arr, hr, hf, hB, hW, hc, hl, hx⟩ := ho
  obtain ⟨ρ1, le1, hw1, hall⟩ := ca ρ B w0 w hw
  have hl1 : LRel ρ1 (v2 :: c) (arr.toList.take (v :: c).length) := by
    obtain ⟨v', t', e', p1, p2⟩ := hl.uncons
    rw [e']
    exact LRel.cons (hall v' p1) ⟨p2.1, fun k a b ha hb => (p2.2 k a b ha hb).mono le1⟩
  have ho1 := hw1.heap.obj X
  rw [hg1] at ho1
  obtain ⟨b1, cp1, arr1, hr1, hf1, hB1, hW1, hc1, hl2, hx1⟩ := ho1
  have e1 := le1.ren _ _ hr
  rw [hr1] at e1
  simp only [Option.some.injEq, Prod.mk.injEq] at e1
  obtain ⟨rfl, rfl⟩ := e1
  rw [hW1] at hW
  simp only [Option.some.injEq, Obj.cells.injEq] at hW
  obtain ⟨rfl, -, -⟩ := hW
  have sg : ∀ j, j ≠ X → (h1.set X (.cells (v2 :: c) e ex)).get j = h1.get j := fun j hj => by simp [AHeap.set, hj]
  have sx : (h1.set X (.cells (v2 :: c) e ex)).get X = .cells (v2 :: c) e ex := by simp [AHeap.set]
  have live : ∀ j, (h1.set X (.cells (v2 :: c) e ex)).get j ≠ .dead → h1.get j ≠ .dead := fun j hj => by
    by_cases hjX : j = X
    · subst hjX; rw [hg1]; intro q; cases q
    · rwa [sg j hjX] at hj
  refine ⟨ρ1, le1, ⟨⟨hw1.heap.dom, fun i j b c c' hi hj h2 h3 => hw1.heap.inj i j b c c' (live i hi) (live j hj) h2 h3, fun j => ?_, hw1.heap.frz, hw1.heap.glob, hw1.heap.base⟩, hw1.below⟩, hall⟩
  by_cases hj : j = X
  · subst hj
    rw [sx]
    exact ⟨_, _, _, hr1, hf1, hB1, hW1, hc1, hl1, hx1⟩
  · rw [sg j hj]; exact hw1.heap.obj j
end Go.Proofs.YtedkjhifbibpmaaGreatDoor.Ab

namespace Go.Proofs.YtedkjhifbibpmaaGreatDoor.Ab
open Go Go.RowKit
set_option linter.unusedVariables false
set_option linter.unusedSimpArgs false
/-! ### Complex numbers: made of two floats, taken apart -/
section
variable {P : Program} {d : Option Tmp} {ty : TypeId} {pos : String} {aft : Array Edge} {g : Option (Nat × Bool)} {f : AFrame} {h : AHeap} [K : Kt] {x y : Operand}
def b1V (P : Program) (bi : Builtin) (ts : Array TypeId) (ty : TypeId) (cs : Array Bool) (x : V) : Option V :=
  match flatL [x] with
  | some us => match pureRun P (builtin bi ts ty cs us.toArray) with
    | some (.value v) => some (absF v)
    | _ => none
  | none => none
theorem stepA_complex {t t2 : TypeId} : @stepI P ⟨d, .call ⟨.builtin .complex, #[x, y], #[t, t2]⟩, ty, pos, aft, g⟩ K f h = @thenV (mmV P .complex #[t, t2] ty (constsOf #[x, y]) (f.eval h x) (f.eval h y)) d K f h :=
  justV_step (by
    unfold opEval aCall aBuiltin mmV justV
    simp only [List.map_cons, List.map_nil]
    cases flatL [f.eval h x, f.eval h y] with
    | none => rfl
    | some us =>
      simp only
      generalize pureRun P _ = r
      cases r with
      | none => rfl
      | some n => cases n <;> rfl)
theorem stepA_real {t : TypeId} : @stepI P ⟨d, .call ⟨.builtin .real, #[x], #[t]⟩, ty, pos, aft, g⟩ K f h = @thenV (b1V P .real #[t] ty (constsOf #[x]) (f.eval h x)) d K f h :=
  justV_step (by
    unfold opEval aCall aBuiltin b1V justV
    simp only [List.map_cons, List.map_nil]
    cases flatL [f.eval h x] with
    | none => rfl
    | some us =>
      simp only
      generalize pureRun P _ = r
      cases r with
      | none => rfl
      | some n => cases n <;> rfl)
theorem stepA_imag {t : TypeId} : @stepI P ⟨d, .call ⟨.builtin .imag, #[x], #[t]⟩, ty, pos, aft, g⟩ K f h = @thenV (b1V P .imag #[t] ty (constsOf #[x]) (f.eval h x)) d K f h :=
  justV_step (by
    unfold opEval aCall aBuiltin b1V justV
    simp only [List.map_cons, List.map_nil]
    cases flatL [f.eval h x] with
    | none => rfl
    | some us =>
      simp only
      generalize pureRun P _ = r
      cases r with
      | none => rfl
      | some n => cases n <;> rfl)
end
section
variable {P : Program} {ty : TypeId}
theorem mmV_complex {ts : Array TypeId} {cs : Array Bool} {a b : Nat} : mmV P .complex ts ty cs (.float .f64 a) (.float .f64 b) = some (.complex .f64 a b) := rfl
theorem b1V_real {ts : Array TypeId} {cs : Array Bool} {k : FloatKind} {a b : Nat} : b1V P .real ts ty cs (.complex k a b) = some (.float k a) := rfl
theorem b1V_imag {ts : Array TypeId} {cs : Array Bool} {k : FloatKind} {a b : Nat} : b1V P .imag ts ty cs (.complex k a b) = some (.float k b) := rfl
def floatT (P : Program) (t : TypeId) : Option FloatKind := match P.underlying t with | some (.float k) => some k | _ => none
theorem floatT_eq {t : TypeId} {k : FloatKind} (h : floatT P t = some k) : P.underlying t = some (.float k) := by
  unfold floatT at h; split at h
  · rename_i hu; simp at h; subst h; exact hu
  · cases h
theorem intT_eq {t : TypeId} {k : IntKind} (h : intT P t = some k) : P.underlying t = some (.int k) := by
  unfold intT at h; split at h
  · rename_i hu; simp at h; subst h; exact hu
  · cases h
theorem aConv_i2f {src dst : TypeId} {h : AHeap} {k : IntKind} {k2 : FloatKind} {a : Int} (hs : intT P src = some k) (hd : floatT P dst = some k2) : aConv P src dst (.int k a) h = some (.float k2 (k2.nearest a)) := by
  unfold aConv
  have e : (flatV (.int k a)).bind (fun x => pureRun P (convert src dst x)) = some (.float k2 (k2.nearest a)) := by
    show pureRun P (convert src dst (.int k a)) = _
    unfold convert
    rw [pureRun_bind, pureRun_underlying (intT_eq hs), Option.bind_some, pureRun_bind, pureRun_underlying (floatT_eq hd)]
    rfl
  rw [e]
  rfl
theorem aConv_f2i {src dst : TypeId} {h : AHeap} {k : FloatKind} {k2 : IntKind} {b : Nat} {n : Int} (hs : floatT P src = some k) (hd : intT P dst = some k2) (hn : (k.decode b).toInt .zero = some n) (h1 : k2.min ≤ n) (h2 : n ≤ k2.max) : aConv P src dst (.float k b) h = some (.int k2 n) := by
  unfold aConv
  have e : (flatV (.float k b)).bind (fun x => pureRun P (convert src dst x)) = some (.int k2 n) := by
    show pureRun P (convert src dst (.float k b)) = _
    unfold convert
    rw [pureRun_bind, pureRun_underlying (floatT_eq hs), Option.bind_some, pureRun_bind, pureRun_underlying (intT_eq hd)]
    show pureRun P (Conv.floatToInt k b k2) = _
    unfold Conv.floatToInt
    simp only [hn, if_pos (show k2.min ≤ n ∧ n ≤ k2.max from ⟨h1, h2⟩)]
    rfl
  rw [e]
  rfl
theorem cells_complex {k : FloatKind} {a b : Nat} : (V.complex k a b).cells = some [.complex k a b] := rfl
theorem one_complex {k : FloatKind} {a b : Nat} : (V.complex k a b).one = true := rfl
theorem Clo.complex (k : FloatKind) (a b : Nat) : Clo (.complex k a b) := Clo.flat rfl
end
end Go.Proofs.YtedkjhifbibpmaaGreatDoor.Ab

namespace Go.Proofs.YtedkjhifbibpmaaGreatDoor.Ab
open Go Go.RowKit
set_option linter.unusedVariables false
set_option linter.unusedSimpArgs false
/-! ### m[k] op= v -/
section
variable {P : Program} {t kt et : TypeId} {d : TypeDesc} {κ : Type} [DecidableEq κ] {ke : κ → V} {α : Type} {enc : α → V}
end
end Go.Proofs.YtedkjhifbibpmaaGreatDoor.Ab

namespace Go.Proofs.YtedkjhifbibpmaaGreatDoor.Ab
open Go Go.RowKit
set_option linter.unusedVariables false
set_option linter.unusedSimpArgs false

/-! ### A piece of code in a round -/
def SWpR (P : Program) (n l : Nat) (c : Code) (Q : AExit → AFrame → AHeap → Prop) (f : AFrame) (h : AHeap) : Prop :=
  ∀ (ρ : Ren) (B : Nat) (w0 : World) (a : Act) (w : World), WRel ρ B w0 h w → FRel ρ n f a → c.wpIn (Fence.wide.inRound l) 0 P (CPost n B w0 ρ Q) a w
section
variable {P : Program} {n l : Nat} {Q : AExit → AFrame → AHeap → Prop} {f : AFrame} {h : AHeap}
theorem SWpR.mono {Q' : AExit → AFrame → AHeap → Prop} {c : Code} (hs : SWpR P n l c Q f h) (hq : ∀ e f h, Q e f h → Q' e f h) : SWpR P n l c Q' f h :=
  fun ρ B w0 a w hw hf => wpIn_mono (hs ρ B w0 a w hw hf) fun _ _ _ ⟨ρ', x, f', h', hx, hw', hf', hl, hQ⟩ => ⟨ρ', x, f', h', hx, hw', hf', hl, hq _ _ _ hQ⟩
theorem SWpR.region {id : Nat} {ops : Array Oper} (hok : ops.toList.all (fun o => dstOk n o.dst) = true)
    (hq : opsA P ops.toList ops.toList (Q .normal) (Q .panic) f h) : SWpR P n l (.region id ops false) Q f h := by
  intro ρ B w0 a w hw hf
  refine wpIn_region ?_
  have := ops_sound (FOk.inRound l) (rm := 0) (P := P) hok (ρ0 := ρ) ops.toList 0 (by simp) ρ f h a w (Ren.le.refl ρ) hw hf hq
  rwa [Array.length_toList, ← List.range_eq_range'] at this
theorem SWpR.block {id : Nat} {c : Code} (hs : SWpR P n l c (inBlk id Q) f h) : SWpR P n l (.block id c) Q f h := by
  intro ρ B w0 a w hw hf
  refine wpIn_block (wpIn_mono (hs ρ B w0 a w hw hf) fun e a' w' ⟨ρ', x, f', h', hx, hw', hf', hl, hQ⟩ => ?_)
  cases x <;> cases e <;> simp only [XR] at hx
  · exact ⟨ρ', .normal, f', h', trivial, hw', hf', hl, hQ⟩
  · subst hx
    simp only [inBlk] at hQ
    simp only [Exit.inBlock]
    split
    · rename_i he
      simp only [he, if_true] at hQ
      exact ⟨ρ', .normal, f', h', trivial, hw', hf', hl, hQ⟩
    · rename_i he
      simp only [he, if_false] at hQ
      exact ⟨ρ', .exit _, f', h', rfl, hw', hf', hl, hQ⟩
  · exact ⟨ρ', .goto _, f', h', hx, hw', hf', hl, hQ⟩
  · exact ⟨ρ', .ret, f', h', trivial, hw', hf', hl, hQ⟩
  · exact ⟨ρ', .panic, f', h', hx, hw', hf', hl, hQ⟩
end

/-! ### Pinned blocks -/
theorem rel_frame {ρ : Ren} {n : Nat} {f : AFrame} {arr : List Value} (hl : LRel ρ ((List.range n).map f) arr) (hd : ρ.dfr = []) : FRel ρ n (fun t => if t < n then f t else .top) { tmps := arr.toArray, defers := [] } := by
  have hs : arr.length = n := by have := hl.1; simpa using this.symm
  refine ⟨fun t => ?_, by simpa using hs, hd.symm⟩
  simp only
  split
  · rename_i ht
    obtain ⟨v', h1, h2⟩ := hl.get (k := t) (v := f t) (by simp [ht])
    have : (arr.toArray).getD t undef = v' := by rw [Array.getD_eq_getD_getElem?]; simp [h1]
    rw [this]; exact h2
  · exact .top _
theorem WRel.pinSet {ρ : Ren} {B : Nat} {w0 : World} {h : AHeap} {w : World} (R : WRel ρ B w0 h w) {i l : Nat} {mk : List Value → Obj} {vs : List V} (hg : h.get i = .pin l mk vs) :
    ∃ arr, w.heap[l]? = some (mk arr) ∧ LRel ρ vs arr ∧ ∀ mk', WRel ρ B w0 (h.set i (.pin l mk' vs)) (w.putObj l (mk' arr)) := by
  have ho := R.heap.obj i
  rw [hg] at ho
  obtain ⟨cp, arr, hr, hf, hB, hw, hl⟩ := ho
  have hlt := (Array.getElem?_eq_some_iff.1 hw).1
  refine ⟨arr, hw, hl, fun mk' => R.setO hr (by rw [hg]; simp) (fun k hk => World.putObj_heap_other hk) (by simp) ⟨rfl, rfl, rfl, by simp, fun k hk => World.putObj_heap_other (by omega), Nat.le_refl _⟩ ?_⟩
  exact ⟨cp, arr, hr, hf, hB, World.putObj_heap_same hlt, hl⟩
/-! ### The rule -/
def loopO (fn : FuncId) (p : Tmp) (assign body : Code) (D : Nat) (st : LoopState) : List Value → Obj := fun arr => .loop { state := st, pending := none, fn, tmps := arr.toArray, params := #[p], assign, body, defers := D }
/-- The frame of a round whose one parameter is v. -/
def roundF (n : Nat) (f : AFrame) (p : Tmp) (v : V) : AFrame := AFrame.put (fun t => if t < n then f t else .top) (some p) v
theorem SRound.of {P : Program} {n l i : Nat} {fn : FuncId} {p : Tmp} {assign body : Code} {D : Nat} {f : AFrame} {v : V} {h : AHeap} {R : V → AHeap → Prop} (hp : p < n)
    (hg : h.get i = .pin l (loopO fn p assign body D .ready) ((List.range n).map f)) (M : AFrame → AHeap → Prop)
    (ha : SWpR P n l assign (fun z f' h' => z = .normal ∧ h'.get i = .pin l (loopO fn p assign body D .ready) ((List.range n).map f) ∧ M f' h') (roundF n f p v) h)
    (hb : ∀ f' h', M f' h' → SWpR P n l body (fun z _ h2 => z = .normal ∧ h2.get i = .pin l (loopO fn p assign body D .busy) ((List.range n).map f) ∧ R (.bool true) (h2.set i (.pin l (loopO fn p assign body D .ready) ((List.range n).map f)))) f' (h'.set i (.pin l (loopO fn p assign body D .busy) ((List.range n).map f)))) :
    SRound P l [v] h R := by
  intro ρ B w0 w args' hw ha'
  obtain ⟨arr, hL, hlr, _⟩ := hw.pinSet hg
  obtain ⟨v', t', he, hv, ht⟩ := ha'.uncons
  obtain rfl := ht.eq_nil
  have hargs : args' = #[v'] := by apply Array.ext'; simpa using he
  subst hargs
  have hy := run_yield (P := P) (args := #[v']) hL rfl
  refine ⟨fn, _, assign, body, hy, roundIn_of_wpIn trivial ?_⟩
  have hfr : FRel { ρ with dfr := [] } n (roundF n f p v) { tmps := ((#[p].zip #[v']).foldl (fun tmps (t, a) => tmps.setIfInBounds t a) arr.toArray), defers := [] } := by
    have := (rel_frame (ρ := { ρ with dfr := [] }) (hlr.dfr []) rfl).put (hv.dfr []) (some p) (by simp [dstOk, hp])
    simpa [Act.put, roundF] using this
  refine wpIn_mono (ha { ρ with dfr := [] } B w0 _ w (hw.dfr []) hfr) fun e a1 w1 ⟨ρ1, x, f1, h1, hx, hw1, hf1, hl1, hQ⟩ => ?_
  obtain ⟨rfl, hg1, hM⟩ := hQ
  cases e <;> simp only [XR] at hx
  obtain ⟨arr1, hL1, hlr1, hset⟩ := hw1.pinSet hg1
  refine ⟨_, run_beginRound hL1 rfl, ?_⟩
  have hw2 := hset (loopO fn p assign body D .busy)
  refine wpIn_mono (hb f1 h1 hM ρ1 B w0 a1 _ hw2 hf1) fun e a3 w3 ⟨ρ3, x, f3, h3, hx, hw3, hf3, hl3, hQ⟩ => ?_
  obtain ⟨rfl, hg3, hR⟩ := hQ
  cases e <;> simp only [XR] at hx
  obtain ⟨arr3, hL3, hlr3, hset3⟩ := hw3.pinSet hg3
  refine ⟨_, _, run_endRound none hL3, ?_⟩
  have hw4 := hset3 (loopO fn p assign body D .ready)
  have hl13 := hl1.trans hl3
  exact ⟨{ ρ3 with dfr := ρ.dfr }, .bool true, .bool true, _, rfl, .bool _, hw4.dfr ρ.dfr, ⟨hl13.ren, hl13.frz, rfl⟩, hR⟩

end Go.Proofs.YtedkjhifbibpmaaGreatDoor.Ab

namespace Go.Proofs.YtedkjhifbibpmaaGreatDoor.Ab
open Go Go.RowKit
set_option linter.unusedVariables false
/-! ### Lists of values told otherwise at once, whoever holds them -/
def CastLA (l : List V) (h : AHeap) (l2 : List V) (h2 : AHeap) : Prop :=
  ∀ (ρ : Ren) (B : Nat) (w0 w : World), WRel ρ B w0 h w → ∃ ρ', ρ.le ρ' ∧ WRel ρ' B w0 h2 w ∧ ∀ l', LRel ρ l l' → LRel ρ' l2 l'
theorem CastLA.refl (l : List V) (h : AHeap) : CastLA l h l h := fun ρ B w0 w hw => ⟨ρ, Ren.le.refl ρ, hw, fun _ hl => hl⟩
theorem CastA.refl (v : V) (h : AHeap) : CastA v h v h := fun ρ B w0 w hw => ⟨ρ, Ren.le.refl ρ, hw, fun _ hv => hv⟩
theorem CastA.snil0 (h : AHeap) : CastA .snil h (.imm 0 []) h := fun ρ B w0 w hw => ⟨ρ, Ren.le.refl ρ, hw, fun r' hv => by cases hv; exact .immZ none 0 fun _ => rfl⟩
theorem CastLA.cons {v v2 : V} {l l2 : List V} {h h1 h2 : AHeap} (a : CastA v h v2 h1) (b : CastLA l h1 l2 h2) : CastLA (v :: l) h (v2 :: l2) h2 := fun ρ B w0 w hw => by
  obtain ⟨ρ1, le1, hw1, f1⟩ := a ρ B w0 w hw
  obtain ⟨ρ2, le2, hw2, f2⟩ := b ρ1 B w0 w hw1
  refine ⟨ρ2, le1.trans le2, hw2, fun l' hl => ?_⟩
  obtain ⟨v', t', rfl, h1, h2⟩ := hl.uncons
  exact LRel.cons ((f1 v' h1).mono le2) (f2 t' (h2.mono le1))
theorem CastLA.skip {v : V} {l l2 : List V} {h h2 : AHeap} (b : CastLA l h l2 h2) : CastLA (v :: l) h (v :: l2) h2 := CastLA.cons (CastA.refl v h) b
theorem CastLA.last {v v2 : V} {h h2 : AHeap} (a : CastA v h v2 h2) : CastLA [v] h [v2] h2 := CastLA.cons a (CastLA.refl [] _)
theorem CastLA.agg {l l2 : List V} {h h2 : AHeap} (a : CastLA l h l2 h2) : CastA (.agg l) h (.agg l2) h2 := fun ρ B w0 w hw => by
  obtain ⟨ρ', le, w', f⟩ := a ρ B w0 w hw
  refine ⟨ρ', le, w', fun r' hv => ?_⟩
  cases hv with
  | agg hs hx =>
    rename_i xs
    exact (f xs.toList ⟨by simpa using hs, by simpa using hx⟩).arr'.agg
theorem CastLA.append {a a2 b b2 : List V} {h h1 h2 : AHeap} (ha : CastLA a h a2 h1) (hl : a2.length = a.length) (hb : CastLA b h1 b2 h2) : CastLA (a ++ b) h (a2 ++ b2) h2 := fun ρ B w0 w hw => by
  obtain ⟨ρ1, le1, hw1, f1⟩ := ha ρ B w0 w hw
  obtain ⟨ρ2, le2, hw2, f2⟩ := hb ρ1 B w0 w hw1
  refine ⟨ρ2, le1.trans le2, hw2, fun l' hl' => ?_⟩
  have q1 := hl'.take a.length
  have q2 := hl'.drop a.length
  rw [List.take_left] at q1
  rw [List.drop_left] at q2
  have := ((f1 _ q1).mono le2).append (f2 _ (q2.mono le1))
  rwa [List.take_append_drop] at this
theorem CastLA.row {h h1 : AHeap} {e : TypeId} {sz i len cap : Nat} {cs es : List V} {own1 : Nat → Prop} (ho : Own h e sz (.sl i 0 len cap) cs) (hcl : CastLA cs h es h1) (hk1 : Keep h h1 own1) (hne : ¬ own1 i) (hle : es.length = cs.length) :
    ∃ h2, CastA (.sl i 0 len cap) h (.imm len es) h2 ∧ Keep h1 h2 (· = i) := by
  rcases ho with ⟨q | q, _⟩ | ⟨i', len', cap', c, ex, q, hi, hg, hlen, htake, hcap⟩
  · cases q
  · cases q
  simp only [V.sl.injEq] at q
  obtain ⟨rfl, _, rfl, rfl⟩ := q
  have hg1 : h1.get i = .cells c e ex := (hk1.get i hi hne).trans hg
  have hcc : len * sz ≤ c.length := by
    have := congrArg List.length htake
    rw [List.length_take, hlen] at this
    omega
  refine ⟨h1.set i .dead, fun ρ B w0 w hw => ?_, Keep.set h1 i .dead⟩
  obtain ⟨ρ0, _, hw0, b, cp, arr, hr, hf, hc, hl⟩ := hw.freeze hg
  have L0 : LRel ρ cs (arr.toList.take (len * sz)) := by
    have hal := hl.1
    refine ⟨by rw [← htake]; simp only [List.length_take] at hal ⊢; omega, fun k v v' h1 h2 => ?_⟩
    have hk : k < len * sz := by rw [← hlen]; exact (List.getElem?_eq_some_iff.1 h1).1
    rw [← htake, List.getElem?_take, if_pos hk] at h1
    rw [List.getElem?_take, if_pos hk] at h2
    refine hl.2 k v v' h1 ?_
    rw [List.getElem?_take, if_pos (by omega)]
    exact h2
  obtain ⟨ρ1, le1, hw1, hl1⟩ := hcl ρ B w0 w hw
  replace hl1 := hl1 _ L0
  obtain ⟨ρ2, le2, hw2, b', cp', arr', hr', hf', hc', hl'⟩ := hw1.freeze hg1
  have hr1 := le1.ren _ _ hr
  rw [hr1] at hr'
  simp only [Option.some.injEq, Prod.mk.injEq] at hr'
  obtain ⟨rfl, rfl⟩ := hr'
  have harr : arr' = arr := by
    obtain ⟨e1, f1, q1⟩ := hw0.heap.frz _ _ hf
    obtain ⟨e2, f2, q2⟩ := hw2.heap.frz _ _ hf'
    rw [q1] at q2
    simp only [Option.some.injEq, Obj.cells.injEq] at q2
    exact q2.1.symm
  subst harr
  refine ⟨ρ2, le1.trans le2, hw2, fun r' hv => ?_⟩
  obtain ⟨b2, cp2, hi2, hl2, rfl⟩ := hv.sl_inv
  rw [hr] at hi2
  simp only [Option.some.injEq, Prod.mk.injEq] at hi2
  obtain ⟨rfl, rfl⟩ := hi2
  refine .imm 0 len _ hf' hl2 (by rw [hle, hlen]; omega) fun k v v' h1 h2 => ?_
  have hk : k < len * sz := by rw [← hlen, ← hle]; exact (List.getElem?_eq_some_iff.1 h1).1
  refine (hl1.2 k v v' h1 ?_).mono le2
  rw [List.getElem?_take, if_pos hk, Array.getElem?_toList]
  simpa using h2
theorem CastLA.cell {h h1 : AHeap} {X : Nat} {c c2 : List V} {e : TypeId} {ex : Option Nat} (hg : h.get X = .cells c e ex) (hcl : CastLA c h c2 h1) (hg1 : h1.get X = .cells c e ex) (hle : c2.length = c.length) :
    CastLA c h c2 (h1.set X (.cells c2 e ex)) := fun ρ B w0 w hw => by
  have ho := hw.heap.obj X
  rw [hg] at ho
  obtain ⟨b, cp, arr, hr, hf, hB, hW, hc, hl, hx⟩ := ho
  obtain ⟨ρ1, le1, hw1, hall⟩ := hcl ρ B w0 w hw
  have hl1 := hall _ hl
  have ho1 := hw1.heap.obj X
  rw [hg1] at ho1
  obtain ⟨b1, cp1, arr1, hr1, hf1, hB1, hW1, hc1, hl2, hx1⟩ := ho1
  have e1 := le1.ren _ _ hr
  rw [hr1] at e1
  simp only [Option.some.injEq, Prod.mk.injEq] at e1
  obtain ⟨rfl, rfl⟩ := e1
  rw [hW1] at hW
  simp only [Option.some.injEq, Obj.cells.injEq] at hW
  obtain ⟨rfl, -, -⟩ := hW
  have sg : ∀ j, j ≠ X → (h1.set X (.cells c2 e ex)).get j = h1.get j := fun j hj => by simp [AHeap.set, hj]
  have sx : (h1.set X (.cells c2 e ex)).get X = .cells c2 e ex := by simp [AHeap.set]
  have live : ∀ j, (h1.set X (.cells c2 e ex)).get j ≠ .dead → h1.get j ≠ .dead := fun j hj => by
    by_cases hjX : j = X
    · subst hjX; rw [hg1]; intro q; cases q
    · rwa [sg j hjX] at hj
  refine ⟨ρ1, le1, ⟨⟨hw1.heap.dom, fun i j b c c' hi hj h2 h3 => hw1.heap.inj i j b c c' (live i hi) (live j hj) h2 h3, fun j => ?_, hw1.heap.frz, hw1.heap.glob, hw1.heap.base⟩, hw1.below⟩, hall⟩
  by_cases hj : j = X
  · subst hj
    rw [sx]
    rw [← hle] at hl1
    exact ⟨_, _, _, hr1, hf1, hB1, hW1, by rw [hle]; exact hc1, hl1, by rw [hle]; exact hx1⟩
  · rw [sg j hj]; exact hw1.heap.obj j
end Go.Proofs.YtedkjhifbibpmaaGreatDoor.Ab
