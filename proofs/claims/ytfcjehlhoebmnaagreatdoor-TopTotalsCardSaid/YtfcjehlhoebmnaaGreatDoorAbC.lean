/-
  Abstract values and an abstract heap for Go code, related to the world; the operations on them, and the rules of code. Conditions: none.
-/
import Derived.Test.YtfcjehlhoebmnaaGreatDoorAbB
set_option linter.unusedVariables false
set_option linter.unusedSimpArgs false
namespace Go.Proofs.YtfcjehlhoebmnaaGreatDoor.Ab
open Go Go.RowKit
set_option linter.unusedVariables false
set_option linter.unusedSimpArgs false
def SWpR (P : Program) (n l : Nat) (c : Code) (Q : AExit → AFrame → AHeap → Prop) (f : AFrame) (h : AHeap) : Prop :=
 ∀ (ρ : Ren) (B : Nat) (w0 : World) (a : Act) (w : World), WRel ρ B w0 h w → FRel ρ n f a → c.wpIn (Fence.wide.inRound l) 0 P (CPost n B w0 ρ Q) a w
section
variable {P : Program} {n l : Nat} {Q : AExit → AFrame → AHeap → Prop} {f : AFrame} {h : AHeap}
theorem SWpR.region {id : Nat} {ops : Array Oper} (hok : ops.toList.all (fun o => dstOk n o.dst) = true)
  (hq : opsA P ops.toList ops.toList (Q .normal) (Q .panic) f h) : SWpR P n l (.region id ops false) Q f h := by
 intro ρ B w0 a w hw hf
 refine wpIn_region ?_
 have := ops_sound (FOk.inRound l) (rm := 0) (P := P) hok (ρ0 := ρ) ops.toList 0 (by simp) ρ f h a w (Ren.le.refl ρ) hw hf hq
 rwa [Array.length_toList, ← List.range_eq_range'] at this
theorem SWpR.block {id : Nat} {c : Code} (hs : SWpR P n l c (inBlk id Q) f h) : SWpR P n l (.block id c) Q f h := by
 intro ρ B w0 a w hw hf
 refine wpIn_block (wpIn_mono (hs ρ B w0 a w hw hf) fun e a' w' ⟨ρ', x, f', h', hx, hw', hf', hl, hQ⟩ => ?_)
 cases x <;> cases e <;> simp only [XR] at hx
 ·exact ⟨ρ', .normal, f', h', trivial, hw', hf', hl, hQ⟩
 ·subst hx
  simp only [inBlk] at hQ
  simp only [Exit.inBlock]
  split
  ·rename_i he
   simp only [he, if_true] at hQ
   exact ⟨ρ', .normal, f', h', trivial, hw', hf', hl, hQ⟩
  ·rename_i he
   simp only [he, if_false] at hQ
   exact ⟨ρ', .exit _, f', h', rfl, hw', hf', hl, hQ⟩
 ·exact ⟨ρ', .goto _, f', h', hx, hw', hf', hl, hQ⟩
 ·exact ⟨ρ', .ret, f', h', trivial, hw', hf', hl, hQ⟩
 ·exact ⟨ρ', .panic, f', h', hx, hw', hf', hl, hQ⟩
end
theorem frame_rel {ρ : Ren} {n : Nat} {f : AFrame} {a : Act} (hf : FRel ρ n f a) : LRel ρ ((List.range n).map f) a.tmps.toList := by
 refine ⟨by simp [hf.size], fun k v v' h1 h2 => ?_⟩
 have hk : k < n := by have := (List.getElem?_eq_some_iff.1 h1).1; simpa using this
 have ht := hf.tmps k
 simp only [List.getElem?_map, List.getElem?_range hk, Option.map_some, Option.some.injEq] at h1
 have h2' : a.tmps[k]? = some v' := by simpa using h2
 rw [Array.getD_eq_getD_getElem?, h2'] at ht
 subst h1
 exact ht
theorem rel_frame {ρ : Ren} {n : Nat} {f : AFrame} {arr : List Value} (hl : LRel ρ ((List.range n).map f) arr) (hd : ρ.dfr = []) : FRel ρ n (fun t => if t < n then f t else .top) { tmps := arr.toArray, defers := [] } := by
 have hs : arr.length = n := by have := hl.1; simpa using this.symm
 refine ⟨fun t => ?_, by simpa using hs, hd.symm⟩
 simp only
 split
 ·rename_i ht
  obtain ⟨v', h1, h2⟩ := hl.get (k := t) (v := f t) (by simp [ht])
  have : (arr.toArray).getD t undef = v' := by rw [Array.getD_eq_getD_getElem?]; simp [h1]
  rw [this]; exact h2
 ·exact .top _
theorem WRel.pinSet {ρ : Ren} {B : Nat} {w0 : World} {h : AHeap} {w : World} (R : WRel ρ B w0 h w) {i l c : Nat} (hi : ρ.ren i = some (l, c)) {k : PinK} {vs : List V} (hg : h.get i = .pin k vs) :
  ∃ arr, PinAt ρ w l arr k ∧ LRel ρ vs arr ∧ l < w.heap.size ∧ ∀ k' ob, PinAt ρ (w.putObj l ob) l arr k' → WRel ρ B w0 (h.set i (.pin k' vs)) (w.putObj l ob) := by
 have ho := R.heap.obj i
 rw [hg] at ho
 obtain ⟨b, cp, arr, hr, hf, hB, hw, hl⟩ := ho
 rw [hi] at hr
 simp only [Option.some.injEq, Prod.mk.injEq] at hr
 obtain ⟨rfl, rfl⟩ := hr
 have hlt : l < w.heap.size := by
  cases k with
  | dfd => exact (Array.getElem?_eq_some_iff.1 hw).1
  | loop j p a bd y => obtain ⟨_, _, _, _, h2⟩ := hw; exact (Array.getElem?_eq_some_iff.1 h2).1
 refine ⟨arr, hw, hl, hlt, fun k' ob hp => R.setO hi (by rw [hg]; simp) (fun k hk => World.putObj_heap_other hk) (by simp) ⟨rfl, rfl, rfl, by simp, fun k hk => World.putObj_heap_other (by omega), Nat.le_refl _⟩ ?_⟩
 exact ⟨l, c, arr, hi, hf, hB, hp, hl⟩
theorem WRel.pinNew {ρ : Ren} {B : Nat} {w0 : World} {h : AHeap} {w : World} (R : WRel ρ B w0 h w) (k : PinK) (ob : Obj) {vs : List V} {arr : List Value} (hl : LRel ρ vs arr) (hp : ∀ ρ', ρ.le ρ' → PinAt ρ' (w.alloc ob) w.heap.size arr k) :
  ∃ ρ', ρ.le ρ' ∧ ρ'.ren h.n = some (w.heap.size, 0) ∧ WRel ρ' B w0 (h.push (.pin k vs)) (w.alloc ob) := by
 have hle := Ren.le_add (R.heap.dom _ (Nat.le_refl _)) w.heap.size 0
 have hnf : ρ.frz w.heap.size = none := by
  cases hf : ρ.frz w.heap.size with
  | none => rfl
  | some a =>
   obtain ⟨e, fz, hw⟩ := R.heap.frz _ _ hf
   have := (Array.getElem?_eq_some_iff.1 hw).1
   omega
 have hold : ∀ k, k < w.heap.size → (w.alloc ob).heap[k]? = w.heap[k]? := fun k hk => Below.heap_alloc _ _ _ hk
 obtain ⟨h1, h2⟩ := R.pushO (w' := w.alloc ob) (o := .pin k vs) 0 (by simp) hold ((Bel.refl _ _).alloc R.heap.base _) ⟨w.heap.size, 0, arr, Ren.add_new, hnf, R.heap.base, hp _ hle, hl.mono hle⟩
 exact ⟨_, h1, Ren.add_new, h2⟩
def roundF (n : Nat) (f : AFrame) (p : Tmp) (v : V) : AFrame := AFrame.put (fun t => if t < n then f t else .top) (some p) v
theorem SRound.of {P : Program} {n i jd : Nat} {assign body : Code} {p : Tmp} {f : AFrame} {v : V} {h : AHeap} {R : V → AHeap → Prop} (hp : p < n)
  (hg : h.get i = .pin (.loop jd p assign body false) ((List.range n).map f)) (M : AFrame → AHeap → Prop)
  (ha : ∀ l, SWpR P n l assign (fun z f' h' => z = .normal ∧ h'.get i = .pin (.loop jd p assign body false) ((List.range n).map f) ∧ M f' h') (roundF n f p v) h)
  (hb : ∀ l f' h', M f' h' → SWpR P n l body (fun z _ h2 => z = .normal ∧ h2.get i = .pin (.loop jd p assign body true) ((List.range n).map f) ∧ R (.bool true) (h2.set i (.pin (.loop jd p assign body false) ((List.range n).map f)))) f' (h'.set i (.pin (.loop jd p assign body true) ((List.range n).map f)))) :
  SRound P i [v] h R := by
 intro ρ B w0 w args' l c hi hw ha'
 obtain ⟨arr, ⟨D, cD, fn, hD, hL⟩, hlr, _, _⟩ := hw.pinSet hi hg
 obtain ⟨v', t', he, hv, ht⟩ := ha'.uncons
 obtain rfl := ht.eq_nil
 have hargs : args' = #[v'] := by apply Array.ext'; simpa using he
 subst hargs
 have hy := run_yield (P := P) (args := #[v']) hL rfl
 refine ⟨fn, _, assign, body, hy, roundIn_of_wpIn trivial ?_⟩
 have hfr : FRel { ρ with dfr := [] } n (roundF n f p v) { tmps := ((#[p].zip #[v']).foldl (fun tmps (t, a) => tmps.setIfInBounds t a) arr.toArray), defers := [] } := by
  have := (rel_frame (ρ := { ρ with dfr := [] }) (hlr.dfr []) rfl).put (hv.dfr []) (some p) (by simp [dstOk, hp])
  simpa [Act.put, roundF] using this
 refine wpIn_mono (ha l { ρ with dfr := [] } B w0 _ w (hw.dfr []) hfr) fun e a1 w1 ⟨ρ1, x, f1, h1, hx, hw1, hf1, hl1, hQ⟩ => ?_
 obtain ⟨rfl, hg1, hM⟩ := hQ
 cases e <;> simp only [XR] at hx
 have hi1 := hl1.ren i _ hi
 obtain ⟨arr1, ⟨D1, cD1, fn1, hD1, hL1⟩, hlr1, hlt1, hset⟩ := hw1.pinSet hi1 hg1
 refine ⟨_, run_beginRound hL1 rfl, ?_⟩
 have hw2 := hset (.loop jd p assign body true) (loopO fn1 p assign body D1 .busy arr1) ⟨D1, cD1, fn1, hD1, World.putObj_heap_same hlt1⟩
 refine wpIn_mono (hb l f1 h1 hM ρ1 B w0 a1 _ hw2 hf1) fun e a3 w3 ⟨ρ3, x, f3, h3, hx, hw3, hf3, hl3, hQ⟩ => ?_
 obtain ⟨rfl, hg3, hR⟩ := hQ
 cases e <;> simp only [XR] at hx
 have hi3 := hl3.ren i _ hi1
 obtain ⟨arr3, ⟨D3, cD3, fn3, hD3, hL3⟩, hlr3, hlt3, hset3⟩ := hw3.pinSet hi3 hg3
 refine ⟨_, _, run_endRound none hL3, ?_⟩
 have hw4 := hset3 (.loop jd p assign body false) (loopO fn3 p assign body D3 .ready arr3) ⟨D3, cD3, fn3, hD3, World.putObj_heap_same hlt3⟩
 have hl13 := hl1.trans hl3
 exact ⟨{ ρ3 with dfr := ρ.dfr }, .bool true, .bool true, _, rfl, .bool _, hw4.dfr ρ.dfr, ⟨hl13.ren, hl13.frz, rfl⟩, hR⟩
theorem SCalls.enterF {P : Program} {fid gf : FuncId} {fn : Func} {A A2 assign body : Code} {id : Nat} {g p : Tmp} (hfn : P.funcs[fid]? = some fn)
  (hb : fn.body = some (.seq A (.seq A2 (.block id (.rangeFunc (.tmp g) #[p] assign body))))) (hcal : callable P gf = true) {args : List V} (hlen : args.length ≤ fn.ntmps) {h : AHeap} {R : V → AHeap → Prop} {K : AFrame → AHeap → Prop} {caps : AFrame → List V}
  (h1 : SWp P fn.ntmps A (fun z f h => z = .normal ∧ SWp P fn.ntmps A2 (fun z f h => z = .normal ∧ K f h) f h) (enterF args) h)
  (hg : ∀ f h, K f h → f g = .func (.func gf) [] (caps f))
  (hcall : ∀ f h1, K f h1 → SCalls P gf (.func (.yield (h1.n + 1)) [] [] :: caps f) ((h1.push (.pin .dfd [])).push (.pin (.loop h1.n p assign body false) ((List.range fn.ntmps).map f))) (fun _ h3 => h3.get (h1.n + 1) = .pin (.loop h1.n p assign body false) ((List.range fn.ntmps).map f) ∧ h3.get h1.n = .pin .dfd [] ∧
    (∃ r, resultsA P fn.results.toList f ((h3.set (h1.n + 1) .dead).set h1.n .dead) = some r ∧ R r ((h3.set (h1.n + 1) .dead).set h1.n .dead)))) : SCalls P fid args h R := by
 intro ρ B w0 w args' hw ha
 refine callsIn_wide.1 (callsIn_of_wp_marks (n := 0) hfn hb trivial ?_)
 apply wpIn_seq
 refine wpIn_mono (wpIn_wide.2 (h1 { ρ with dfr := [] } B w0 _ w (hw.dfr []) (enter_rel (ha.dfr []) hlen rfl))) ?_
 rintro e a1 w1 ⟨ρ1, z, f1, hh1, hx, hw1, hf1, hl1, rfl, h2⟩
 cases e <;> simp only [XR] at hx
 show (Code.seq A2 _).wpIn Fence.wide 0 P _ a1 w1
 apply wpIn_seq
 refine wpIn_mono (wpIn_wide.2 (h2 ρ1 B w0 a1 w1 hw1 hf1)) ?_
 rintro e a2 w2 ⟨ρ2, z, f2, hh2, hx, hw2, hf2, hl2, rfl, hK⟩
 cases e <;> simp only [XR] at hx
 show (Code.block id _).wpIn Fence.wide 0 P _ a2 w2
 apply wpIn_block
 have hl12 := hl1.trans hl2
 have hd2 : a2.defers = [] := (hf2.defers.trans hl2.dfr).trans hl1.dfr
 refine wpIn_rangeFunc ?_
 intro q hq
 obtain ⟨ρ3, hl3, hn3, hw3⟩ := hw2.pinNew .dfd (.deferred (some [])) (LRel.nil ρ2) fun _ _ => World.alloc_heap_new _ _
 have hfl : LRel ρ3 ((List.range fn.ntmps).map f2) a2.tmps.toList := (frame_rel hf2).mono hl3
 have hsz : (w2.alloc (Obj.deferred (some []))).heap.size = w2.heap.size + 1 := by simp
 obtain ⟨ρ4, hl4, hn4, hw4⟩ := hw3.pinNew (.loop hh2.n p assign body false) (loopO q p assign body w2.heap.size .ready a2.tmps.toList) hfl fun ρ' hle => ⟨w2.heap.size, 0, q, hle.ren _ _ hn3, World.alloc_heap_new _ _⟩
 rw [hsz] at hn4
 have hcl := hcall f2 hh2 hK
 have hgv := hf2.tmps g
 rw [hg f2 hh2 hK] at hgv
 obtain ⟨caps', hcaps, hgv'⟩ : ∃ caps' : Array Value, LRel ρ4 (caps f2) caps'.toList ∧ a2.eval (.tmp g) = .func (.func gf) #[] caps' := by
  have he : a2.eval (.tmp g) = a2.tmps.getD g undef := rfl
  rw [he]
  generalize a2.tmps.getD g undef = x at hgv
  cases hgv with
  | func fn' _ hs1 hs2 hx hy =>
   rename_i xs' ys' _
   have : xs' = #[] := Array.eq_empty_of_size_eq_zero hs1.symm
   subst this
   exact ⟨ys', ((ARel.list ⟨hs2, hy⟩).mono hl3).mono hl4, rfl⟩
 have hargs : LRel ρ4 (.func (.yield (hh2.n + 1)) [] [] :: caps f2) (#[Value.func (.yield (w2.heap.size + 1)) #[] #[]] ++ caps').toList := by
  have h0 : VRel ρ4 (.func (.yield (hh2.n + 1)) [] []) (.func (.yield (w2.heap.size + 1)) #[] #[]) := .yl hn4
  simpa using LRel.cons h0 hcaps
 have hrun := run_enterLoop_outer (P := P) (w := w2) q a2.tmps #[p] assign body
 have hwe : loopO q p assign body w2.heap.size .ready a2.tmps.toList = .loop { state := .ready, pending := none, fn := q, tmps := a2.tmps, params := #[p], assign, body, defers := w2.heap.size } := by simp [loopO]
 rw [hwe] at hw4
 obtain ⟨W, hW⟩ : ∃ W, W = (w2.alloc (.deferred (some []))).alloc (.loop { state := .ready, pending := none, fn := q, tmps := a2.tmps, params := #[p], assign, body, defers := w2.heap.size }) := ⟨_, rfl⟩
 rw [← hW] at hw4 hrun
 obtain ⟨fn0, hfn0, hcb⟩ : ∃ fn0, P.funcs[gf]? = some fn0 ∧ (fn0.body.isSome && fn0.name != "runtime.NumGoroutine") = true := by
  unfold callable at hcal
  split at hcal
  ·rename_i fn0 hf0; exact ⟨fn0, hf0, hcal⟩
  ·cases hcal
 simp only [Bool.and_eq_true, bne_iff_ne, ne_eq] at hcb
 have hbn : fn0.body.isNone = false := by cases hb : fn0.body <;> simp_all
 refine ⟨w2.heap.size + 1, [{ target := .collected w2.heap.size, args := #[] }], W, { target := .fn (.func gf) caps', args := #[.func (.yield (w2.heap.size + 1)) #[] #[]] }, W, gf,
  #[.func (.yield (w2.heap.size + 1)) #[] #[]] ++ caps', W, hrun, ?_, ?_, ?_, (fun hh => by cases hh), ?_⟩
 ·simp only [resolve, hgv']
  simp [go_sem]
 ·intro f' hf'; trivial
 ·simp only [invoke, callFunc]
  simp [hfn0, hcb.2]
  intro hh
  simp [hh] at hbn
 ·refine callsIn_wide.2 ((hcl ρ4 B w0 _ _ hw4 hargs).mono fun e w5 hh => ?_)
  rcases hh with ⟨ρ5, r, r', h5, rfl, hv5, hw5, hl5, hgl, hgD, r6, hr6, hR⟩ | ⟨_, _, _, _, _, _, _, hE⟩
  case inr => exact hE.elim
  have hnl : ρ5.ren (hh2.n + 1) = some (w2.heap.size + 1, 0) := hl5.ren _ _ hn4
  have hnD : ρ5.ren hh2.n = some (w2.heap.size, 0) := hl5.ren _ _ (hl4.ren _ _ hn3)
  obtain ⟨arr5, ⟨D5, cD5, q5, hD5, hL5⟩, _, hlt5, hset5⟩ := hw5.pinSet hnl hgl
  rw [hnD] at hD5
  simp only [Option.some.injEq, Prod.mk.injEq] at hD5
  obtain ⟨rfl, rfl⟩ := hD5
  obtain ⟨arrD, hwD, hlD, hltD, hsetD⟩ := hw5.pinSet hnD hgD
  refine ⟨none, _, run_endLoop hL5 (by simp [loopO]), ?_⟩
  have hne : w2.heap.size ≠ w2.heap.size + 1 := by omega
  obtain ⟨OB, hOB⟩ : ∃ OB : Obj, OB = .loop { state := .exhausted, pending := none, fn := q5, tmps := arr5.toArray, params := #[p], assign, body, defers := w2.heap.size } := ⟨_, rfl⟩
  have hwD6 : (w5.putObj (w2.heap.size + 1) OB).heap[w2.heap.size]? = some (.deferred (some [])) := (World.putObj_heap_other hne).trans hwD
  have hwE : WRel ρ5 B w0 ((h5.set (hh2.n + 1) .dead).set hh2.n .dead) ((w5.putObj (w2.heap.size + 1) OB).putObj w2.heap.size (.deferred none)) := by
   have k1 := (hw5.kill (hh2.n + 1)).kill hh2.n
   have d1 : ((h5.set (hh2.n + 1) .dead).set hh2.n .dead).get (hh2.n + 1) = .dead := by simp [AHeap.set]
   have d2 : ((h5.set (hh2.n + 1) .dead).set hh2.n .dead).get hh2.n = .dead := by simp [AHeap.set]
   have ne1 : ∀ i b c, ((h5.set (hh2.n + 1) .dead).set hh2.n .dead).get i ≠ .dead → ρ5.ren i = some (b, c) → b ≠ w2.heap.size + 1 ∧ b ≠ w2.heap.size := fun i b c hi hr => by
    have hg5 : h5.get i ≠ .dead ∧ i ≠ hh2.n + 1 ∧ i ≠ hh2.n := by
     refine ⟨fun hd => hi ?_, fun hd => hi (by rw [hd]; exact d1), fun hd => hi (by rw [hd]; exact d2)⟩
     show (if i = hh2.n then AObj.dead else if i = hh2.n + 1 then AObj.dead else h5.get i) = .dead
     split
     ·rfl
     ·split
      ·rfl
      ·exact hd
    refine ⟨fun hb => hg5.2.1 (hw5.heap.inj i _ _ _ _ hg5.1 (by rw [hgl]; simp) hr (by rw [hb]; exact hnl)), fun hb => hg5.2.2 (hw5.heap.inj i _ _ _ _ hg5.1 (by rw [hgD]; simp) hr (by rw [hb]; exact hnD))⟩
   have oth : ∀ b, b ≠ w2.heap.size + 1 → b ≠ w2.heap.size → ((w5.putObj (w2.heap.size + 1) OB).putObj w2.heap.size (.deferred none)).heap[b]? = w5.heap[b]? := fun b h1 h2 => (World.putObj_heap_other h2).trans (World.putObj_heap_other h1)
   have frn : ∀ b arr, ρ5.frz b = some arr → b ≠ w2.heap.size + 1 ∧ b ≠ w2.heap.size := fun b arr hf => by
    have o1 := hw5.heap.obj (hh2.n + 1)
    rw [hgl] at o1
    obtain ⟨b1, c1, _, r1, f1, _⟩ := o1
    rw [hnl] at r1; cases r1
    have o2 := hw5.heap.obj hh2.n
    rw [hgD] at o2
    obtain ⟨b2, c2, _, r2, f2, _⟩ := o2
    rw [hnD] at r2; cases r2
    refine ⟨fun hb => ?_, fun hb => ?_⟩
    ·rw [hb, f1] at hf; cases hf
    ·rw [hb, f2] at hf; cases hf
   have BB : B ≤ w2.heap.size := hw2.heap.base
   refine ⟨⟨k1.heap.dom, k1.heap.inj, fun i => ?_, fun b arr hf => ?_, k1.heap.glob, by simpa using k1.heap.base⟩, hw5.below.trans ⟨rfl, rfl, rfl, by simp, fun k hk => oth k (by omega) (by omega), Nat.le_refl _⟩⟩
   ·have o1 := k1.heap.obj i
    by_cases hi : ((h5.set (hh2.n + 1) .dead).set hh2.n .dead).get i = .dead
    ·rw [hi]; exact trivial
    ·exact ORel.keep (Ren.le.refl ρ5) o1 fun b c hr => ⟨oth b (ne1 i b c hi hr).1 (ne1 i b c hi hr).2, fun h => h⟩
   ·obtain ⟨e, fz, hh⟩ := hw5.heap.frz b arr hf
    exact ⟨e, fz, (oth b (frn b arr hf).1 (frn b arr hf).2).trans hh⟩
  rw [hOB] at hwE hwD6
  show LeavesInM _ _ P fn a2.tmps _ ([{ target := .collected w2.heap.size, args := #[] }] ++ a2.defers) .returning _
  rw [hd2]
  refine ⟨by simp, .inl ⟨w2.heap.size, _, rfl, run_takeDeferred hwD6, ?_⟩⟩
  show ∃ v, (results fn a2.tmps).run P _ = .ok v _ ∧ _
  have hle5 : Ren.le { ρ with dfr := [] } ρ5 := ((hl12.trans hl3).trans hl4).trans hl5
  have hf5 : FRel ρ5 fn.ntmps f2 a2 := hf2.mono ((hl3.trans hl4).trans hl5)
  obtain ⟨r7, q1, q2⟩ := run_resultsA hwE hf5 hr6
  exact ⟨r7, q1, .inl ⟨{ ρ5 with dfr := ρ.dfr }, r6, r7, _, rfl, q2.dfr ρ.dfr, hwE.dfr ρ.dfr, ⟨hle5.ren, hle5.frz, rfl⟩, hR⟩⟩
end Go.Proofs.YtfcjehlhoebmnaaGreatDoor.Ab
