/-
  What functions of the program do, told of abstract states. Conditions: as each theorem says.
-/
import Derived.Test.YtilgpaibolollaaGreatNf
import Derived.Test.YtilgpaibolollaaGreatAcD
import Derived.Test.YtilgpaibolollaaGreatNd
import Derived.Test.YtilgpaibolollaaGreatNa
namespace Go.Proofs.YtilgpaibolollaaGreat.Pk
open Go Go.Proofs Go.Proofs.YtilgpaibolollaaGreat.Ab Go.Sort
set_option maxRecDepth 10000
set_option linter.unusedVariables false
set_option linter.unusedSimpArgs false
theorem key_injQ {κ α : Type} [DecidableEq κ] : ∀ {q : List (Nat × κ × α)}, KNodup q → ∀ {x y}, x ∈ q → y ∈ q → x.2.1 = y.2.1 → x = y
  | [], _, x, y, hx, _, _ => by cases hx
  | z :: q, hq, x, y, hx, hy, e => by
    have hq' := List.nodup_cons.1 hq
    rcases List.mem_cons.1 hx with h1 | h1
    · rcases List.mem_cons.1 hy with h2 | h2
      · rw [h1, h2]
      · exact absurd (List.mem_map.2 ⟨y, h2, by rw [← e, h1]⟩) hq'.1
    · rcases List.mem_cons.1 hy with h2 | h2
      · exact absurd (List.mem_map.2 ⟨x, h1, by rw [e, h2]⟩) hq'.1
      · exact key_injQ hq'.2 h1 h2 e
def rowE (l : List Cel) : List V := [.imm l.length (l.flatMap celE)]
theorem rowE_len (l : List Cel) : (rowE l).length = 1 := rfl
theorem rws_ix {rows : List (List Cel)} {k : Nat} (hk : k < rows.length) {kk : IntKind} : aIndexAddr Tryz.prog 134 (.imm rows.length (rows.flatMap rowE)) (.int kk (k : Int)) = some (.at (rowE rows[k] ++ (rows.drop (k + 1)).flatMap rowE)) := rows_ix (enc := rowE) (sz := 1) rowE_len hk ss_134
theorem row_ld (l : List Cel) (r : List V) : loadGo (some none) (some (rowE l ++ r)) = some (.imm l.length (l.flatMap celE)) := rfl
def smallC (cs : List Cel) : Prop := cs.length ≤ 2 ^ 30 ∧ ∀ c ∈ cs, c.bytes.length ≤ 2 ^ 40
theorem sortAt (h : AHeap) (x : V) (l : List Cel) (ho : Own h 48 3 x (l.flatMap celE)) (hl : l.length ≤ 2 ^ 40) :
    SCalls Tryz.prog 94 [x, .func (.func 103) [] []] h fun r h' => r = .tuple [] ∧ Keep h h' (isId x) ∧ ∃ l' : List Cel, l'.Perm l ∧ (l'.Pairwise fun a b => ¬ b.at_ < a.at_) ∧ Own h' 48 3 x (l'.flatMap celE) := by
  have e : ∀ a b : Cel, ltOf (fun a b : Cel => cmpI a.at_ b.at_) a b = decide (a.at_ < b.at_) := fun a b => by
    unfold ltOf cmpI
    rw [Bool.eq_iff_iff]
    simp only [decide_eq_true_eq]
    split <;> (try split) <;> omega
  refine (sortOfC (cf := fun a b => cmpI a.at_ b.at_) ⟨fun a => by rw [e]; simp, fun a b c h1 h2 => by rw [e] at *; simp at *; omega, fun a b c h1 h2 => by rw [e] at *; simp at *; omega⟩
    (fun a b => (byAt a b noHeap).mono fun r h' hh => hh.1) (enters_of Tryz.func103 (by kernel_rfl) rfl) h x l ho hl).mono fun r h' ⟨h1, h2, l', hp, hs, ho⟩ => ⟨h1, h2, l', hp, hs.imp fun {a b} hab => by rw [e] at hab; simpa using hab, ho⟩
/-- best of an own slice. -/
theorem bestOwn {h : AHeap} {v : V} {l : List Cel} (o : Own h 48 3 v (l.flatMap celE)) (hl : l.length ≤ 2 ^ 40) :
    SCalls Tryz.prog 100 [v, .func (.func 101) [] []] h fun r h' => r = .tuple [.agg (celE ((bestOf l).getD cel0)), .bool (decide (0 < l.length))] ∧ Keep h h' (isId v) := by
  obtain ⟨h2, c, k⟩ := Cast.own o (n := l.length) (rows_len celE_len l) (by decide)
  exact (SCalls.args (CastL.cons c (CastL.refl _ _)) (pBest l hl h2)).mono fun r h' ⟨e, e2⟩ => ⟨e, e2 ▸ k⟩
set_option maxHeartbeats 4000000 in
set_option maxRecDepth 20000 in
theorem merge (rows : List (List Cel)) (hs : smallC rows.flatten) (hr : rows.length ≤ 2 ^ 30) (h : AHeap) : SCalls Tryz.prog 68 [.imm rows.length (rows.flatMap rowE)] h (fun r h' => ∃ out, IsMerge rows.flatten out ∧ Acc h h' 48 3 r (out.flatMap celE)) := by
  refine SCalls.enterI (c := _) Tryz.func68 rfl (by kernel_rfl) (by simp) ?_
  simp only [bW, Nat.reduceEqDiff, reduceCtorEq, kt_134]
  refine SWp.loopG (α := Nat × EntQ × Nat) (fun x f h' => f 3 = .map h.n ∧ f 14 = .imm rows.length (rows.flatMap rowE) ∧ f 15 = .int .i64 (rows.length : Nat) ∧ f 16 = .int .i64 (x.1 : Nat) ∧ x.1 ≤ rows.length ∧ Bag h h' h.n (rows.take x.1).flatten x.2.1 x.2.2) (fun x => rows.length - x.1) (0, [], 0)
    ⟨rfl, rfl, rfl, rfl, Nat.zero_le _, Bag.start (Keep.refl _ _)⟩ ?_
  rintro ⟨i, m, cl⟩ f h1 ⟨f3, f14, f15, f16, hi, w⟩
  simp only at f16 hi w
  refine wpI_sound (by kernel_rfl) ?_
  by_cases hlt : i < rows.length
  · have d1 : decide ((i : Int) < ((rows.length : Nat) : Int)) = true := decide_eq_true (by omega)
    have hw : IntKind.i64.wrap ((i : Int) + 1) = ((i + 1 : Nat) : Int) := by rw [Go.IntWalk.i64_in _ (by omega)]; omega
    have x1 := rws_ix (kk := .i64) hlt
    have ht : (rows.take (i + 1)).flatten = (rows.take i).flatten ++ rows[i] := by rw [List.take_succ_eq_append_getElem hlt, List.flatten_append]; simp
    have hsub : ∀ c ∈ rows[i], c ∈ rows.flatten := fun c hc => List.mem_flatten.2 ⟨_, List.getElem_mem _, hc⟩
    have hlen : (rows.take i).flatten.length + rows[i].length ≤ 2 ^ 30 := by
      have : (rows.take (i + 1)).flatten.length ≤ rows.flatten.length := by
        conv => rhs; rw [← List.take_append_drop (i + 1) rows, List.flatten_append, List.length_append]
        omega
      rw [ht, List.length_append] at this
      have := hs.1
      omega
    generalize rows[i] = l at x1 ht hsub hlen
    generalize (rows.take i).flatten = cs at w ht hlen
    have ld := row_ld
    simp only [bW, Nat.reduceEqDiff, kt_55, lt_55, f14, f15, f16, d1, x1, ld]
    refine SWp.loopG (α := Nat × EntQ × Nat) (fun x f h' => f 3 = .map h.n ∧ f 14 = .imm rows.length (rows.flatMap rowE) ∧ f 15 = .int .i64 (rows.length : Nat) ∧ f 16 = .int .i64 (i : Nat) ∧ f 20 = .imm l.length (l.flatMap celE) ∧ f 21 = .int .i64 (l.length : Nat) ∧ f 22 = .int .i64 (x.1 : Nat) ∧ x.1 ≤ l.length ∧ Bag h h' h.n (cs ++ l.take x.1) x.2.1 x.2.2) (fun x => l.length - x.1) (0, m, cl)
      ⟨f3, f14, f15, f16, rfl, rfl, rfl, Nat.zero_le _, by rw [List.take_zero, List.append_nil]; exact w⟩ ?_
    clear f3 f14 f15 f16 w
    rintro ⟨j, m, cl⟩ f h1 ⟨f3, f14, f15, f16, f20, f21, f22, hj, w⟩
    simp only at f22 hj w
    refine wpI_sound (by kernel_rfl) ?_
    by_cases hlj : j < l.length
    · have d2 : decide ((j : Int) < ((l.length : Nat) : Int)) = true := decide_eq_true (by omega)
      have hw2 : IntKind.i64.wrap ((j : Int) + 1) = ((j + 1 : Nat) : Int) := by rw [Go.IntWalk.i64_in _ (by omega)]; omega
      have x2 := cel_ix (l := l) (kk := .i64) hlj
      have ht2 : cs ++ l.take (j + 1) = cs ++ l.take j ++ [l[j]] := by rw [List.take_succ_eq_append_getElem hlj, List.append_assoc]
      have hlen2 : (cs ++ l.take j).length ≤ 2 ^ 30 := by rw [List.length_append, List.length_take]; omega
      generalize l[j] = c at x2 ht2
      generalize cs ++ l.take j = cs2 at w hlen2 ht2
      have cc := cel_cells
      have st := cel_store
      have ldc := cel_ldc
      have ld0 := cel_ld0'
      have ldl := cel_ld
      have wP := w.on (Keep.push h1 (.cells (celE c) 48 none) none_)
      have gP : (h1.push (.cells (celE c) 48 none)).get h1.n = .cells (celE c) 48 none := get_push_new
      simp only [bW, Nat.reduceEqDiff, lt_48, zc_48, zt_48, f20, f21, f22, d2, x2, ldl, cc, st]
      obtain ⟨o0, e0, i0⟩ := w.cur_own c.at_
      have hcur : (cur m c.at_).2.length ≤ 2 ^ 30 := by
        rw [e0]; unfold atOf
        exact Nat.le_trans (List.length_filter_le _ _) hlen2
      obtain ⟨o1, _, _⟩ := wP.cur_own c.at_
      have hlk := lookQ m c.at_ wP.get
      have m1 : ¬ idOf (cur m c.at_).1 = some h.n := fun e => (i0 _ e).2 rfl
      have m2 : ¬ idOf (cur m c.at_).1 = some h1.n := fun e => by have := o0.lt _ e; omega
      generalize hQ : h1.push (.cells (celE c) 48 none) = hP at wP gP hlk o1 ⊢
      obtain ⟨v, h2, ea, o2, kp2, nw2⟩ := append_elemM (P := Tryz.prog) sl_55 (by decide) o1 (xs := celE c) rfl rfl (fun m hm => by
        change m * 3 = _ + 3 at hm
        rw [rows_len celE_len] at hm
        exact ⟨by simp only [lim]; omega, by simp only [lim]; omega⟩)
      have lit := lit1q hP c
      refine SWp.drawnS (fun x => idOf (cur m c.at_).1 = some x) [8, 9, 10] (.q 0 (.q 1 (.q 2 (.q 3 (.q 4 (.q 5 (.q 6 (.q 7 (.e 8 (.e 9 (.a 10 .done) .stop) .stop))))))))) (by kernel_rfl) (by kernel_rfl) (by kernel_rfl) ?_
      simp only [bW, bS, bM, mOk_lookup, Nat.reduceEqDiff, ft_48_0, lt_3, lt_48, f3, gP, ld0, ldc, hlk, lit, ea, m1, m2]
      refine ⟨kp2, ?_⟩
      have gm2 : h2.get h.n = .map (qE m) cl := (kp2.get h.n wP.lt (fun hh => m1 hh)).trans wP.get
      have hu := updQ m c.at_ v ((cur m c.at_).2 ++ [c]) gm2
      have wA := wP.add c kp2 (by rw [List.flatMap_append]; simpa using o2) nw2
      simp only [bW, bS, bM, Nat.reduceEqDiff, hu, f22, hw2]
      exact hid_mk ⟨(j + 1, kset cl m c.at_ (v, (cur m c.at_).2 ++ [c]), kclk cl m c.at_), ⟨f3, f14, f15, f16, f20, f21, rfl, hlj, by rw [ht2]; exact wA⟩, by simp only; omega⟩
    · have d2 : decide ((j : Int) < ((l.length : Nat) : Int)) = false := decide_eq_false (by omega)
      rw [List.take_of_length_le (by omega), ← ht] at w
      simp only [bW, Nat.reduceEqDiff, reduceCtorEq, f16, f21, f22, d2, hw]
      exact hid_mk ⟨(i + 1, m, cl), ⟨f3, f14, f15, rfl, hlt, w⟩, by simp only; omega⟩
  · have d1 : decide ((i : Int) < ((rows.length : Nat) : Int)) = false := decide_eq_false (by omega)
    rw [List.take_of_length_le (by omega)] at w
    obtain ⟨q, hq⟩ : ∃ q, mapT Tryz.prog 175 = some q := by
      obtain ⟨et, hm, _⟩ := mpq
      exact ⟨_, hm⟩
    have hrg := range_map hq w.get
    have hsn : (m.map (·.1)).Nodup := by
      have := w.st.2
      rwa [show (qE m).map (·.1) = m.map (·.1) from mapK_stamps m] at this
    have hml : m.length ≤ 2 ^ 30 := Nat.le_trans w.len hs.1
    have hcell : ∀ e ∈ m, ∀ c ∈ e.2.2.2, c.bytes.length ≤ 2 ^ 40 := fun e he c hc => by
      rw [(w.has e.2.1 e.2.2 (kmem w.nd he)).1] at hc
      exact hs.2 c (atOf_mem.1 hc).1
    have hlens : ∀ e ∈ m, e.2.2.2.length ≤ 2 ^ 30 := fun e he => by
      rw [(w.has e.2.1 e.2.2 (kmem w.nd he)).1]
      unfold atOf
      exact Nat.le_trans (List.length_filter_le _ _) hs.1
    have hlt1 := w.lt
    simp only [bW, Nat.reduceEqDiff, f3, f15, f16, d1, hrg]
    refine SWp.loopG (α := EntQ) (fun vis f h' => f 39 = .ptr h1.n 0 ∧ h1.n < h'.n ∧ h'.get h1.n = .iter h.n cl (vis.map (·.1)) cl ∧ h'.get h.n = .map (qE m) cl ∧ Acc h h' 48 3 (f 8) ((vis.map fun e => (bestOf e.2.2.2).getD cel0).flatMap celE) ∧
      idOf (f 8) ≠ some h1.n ∧ idOf (f 8) ≠ some h.n ∧ (∀ e ∈ vis, e ∈ m) ∧ (vis.map (·.1)).Nodup ∧ (∀ e ∈ m, e.1 ∉ vis.map (·.1) → Own h' 48 3 e.2.2.1 (e.2.2.2.flatMap celE) ∧ ∀ i, idOf e.2.2.1 = some i → idOf (f 8) ≠ some i)) (fun vis => (remOf (qE m) (vis.map (·.1))).length) []
      ⟨rfl, by simp only [push_n]; omega, get_push_new, (get_push_lt w.lt).trans w.get, Acc.nil (w.keep.then_push _), (show idOf V.snil ≠ some h1.n by simp [idOf]), (show idOf V.snil ≠ some h.n by simp [idOf]), by simp, by simp,
        fun e he _ => ⟨((w.own e.2.1 e.2.2 (kmem w.nd he)).1).keepN (Keep.push _ _ _), fun i _ => (show idOf V.snil ≠ some i by simp [idOf])⟩⟩ ?_
    rintro vis f h2 ⟨f39, n2, gi, gm, acc, hd1, hd2, hvl, hvn, hown⟩
    refine wpI_sound (by kernel_rfl) ?_
    simp only [bW, f39]
    refine alts_ro gi gm w.st (fun hleft => ?_) fun e he => ?_
    · have hp := kvis_perm hsn hvn hvl (kvis_all hleft)
      have hpl := hp.length_eq
      simp only [bW, Nat.reduceEqDiff]
      refine callI_of cal94 (sortAt h2 (f 8) _ acc.own (by rw [List.length_map]; omega)) fun r h3 ⟨e1, k3, out, pl, sl, o2⟩ => ?_
      subst e1
      simp only [bW, Nat.reduceEqDiff, retA_ret, Tryz.results68, resultsA_1]
      exact hid_mk ⟨out, bag_told w.nd w.has w.non hp pl sl, o2, acc.keep.trans k3 fun q hq e => by have := acc.new q e; omega, acc.new⟩
    · obtain ⟨x, hx, rfl, hxn⟩ := kvis_next he
      have less := remOf_snoc he
      obtain ⟨n3, hvl2, hvlen⟩ := kvis_snoc hvn hvl hx hxn
      obtain ⟨ownx, idx⟩ := hown x hx hxn
      obtain ⟨hx1, hx2⟩ := w.has x.2.1 x.2.2 (kmem w.nd hx)
      have hlx := hlens x hx
      have hcx := hcell x hx
      have hap : ∀ e ∈ m, e.1 ∉ (vis ++ [x]).map (·.1) → ∀ i, idOf e.2.2.1 = some i → idOf x.2.2.1 ≠ some i := fun e he hn i hi => by
        refine w.apart e.2.1 x.2.1 e.2.2 x.2.2 i (kmem w.nd he) (kmem w.nd hx) (fun hk => ?_) hi
        have h1 := kmem w.nd he
        have : e = x := key_injQ w.nd he hx hk
        subst this
        exact hn (by simp)
      obtain ⟨xs, xk, xv, xl⟩ := x
      simp only at less he hxn ownx idx hx1 hx2 hlx hcx hap
      generalize hH : h2.set h1.n (.iter h.n cl (vis.map (·.1) ++ [xs]) cl) = H
      have hge : h.n ≤ h1.n := by omega
      have kSet : Keep h2 H (fun q => q = h1.n) := by rw [← hH]; exact Keep.set _ _ _
      have idn : ∀ i, idOf xv = some i → i ≠ h1.n ∧ i ≠ h.n := fun i hi => by
        have h5 := (w.own xk (xv, xl) (kmem w.nd hx)).1.lt i hi
        have h6 := (w.own xk (xv, xl) (kmem w.nd hx)).2 i hi
        omega
      have aS : Acc h H 48 3 (f 8) ((vis.map fun e => (bestOf e.2.2.2).getD cel0).flatMap celE) := by rw [← hH]; exact acc.set hge hd1 _
      have nH : H.n = h2.n := by rw [← hH]; rfl
      have gr : H.get h1.n = .iter h.n cl (vis.map (·.1) ++ [xs]) cl := by rw [← hH]; exact get_set_same
      have gmH : H.get h.n = .map (qE m) cl := by rw [← hH]; exact (get_set_ne (by omega)).trans gm
      have hen := entry_ro gr gmH w.st (List.mem_filter.1 he).1
      simp only at hen
      have ownH := ownx.keep kSet fun i hi e => (idn i hi).1 e
      simp only [bW, Nat.reduceEqDiff, f39, hen]
      refine callI_of cal100 (bestOwn ownH (by omega)) fun r h3 ⟨er, k3⟩ => ?_
      subst er
      obtain ⟨b, hb⟩ := bestOf_ne hx2
      have hbl : b.bytes.length ≤ 2 ^ 40 := hcx b (bestOf_mem hb)
      have hbg : (bestOf xl).getD cel0 = b := by rw [hb]; rfl
      rw [hbg]
      have cc := cel_cells
      have st := cel_store
      have ldc := cel_ldc
      have keepId : ∀ q, isId xv q → q ≠ h1.n ∧ q ≠ h.n := fun q hq => idn q hq
      have a3 : Acc h h3 48 3 (f 8) ((vis.map fun e => (bestOf e.2.2.2).getD cel0).flatMap celE) :=
        ⟨aS.own.keep k3 fun i hi e => idx i e hi, aS.keep.trans k3 fun q hq e => by have := (w.own xk (xv, xl) (kmem w.nd hx)).2 q e; omega, aS.new⟩
      have n3' := k3.n
      have aP := a3.on (Keep.push h3 (.cells (celE b) 48 none) none_)
      have g3 := (k3.get h1.n (by omega) (fun hh => (idn _ hh).1 rfl)).trans gr
      have g3m := (k3.get h.n (by omega) (fun hh => (idn _ hh).2 rfl)).trans gmH
      have gP : (h3.push (.cells (celE b) 48 none)).get h1.n = .iter h.n cl (vis.map (·.1) ++ [xs]) cl := (get_push_lt (by omega)).trans g3
      have gPm : (h3.push (.cells (celE b) 48 none)).get h.n = .map (qE m) cl := (get_push_lt (by omega)).trans g3m
      have gB : (h3.push (.cells (celE b) 48 none)).get h3.n = .cells (celE b) 48 none := get_push_new
      have nP : (h3.push (.cells (celE b) 48 none)).n = h3.n + 1 := rfl
      have kP : Keep H (h3.push (.cells (celE b) 48 none)) (isId xv) := k3.then_push _
      simp only [bW, Nat.reduceEqDiff, lt_48, zc_48, zt_48, cc, st, ldc]
      generalize h3.push (.cells (celE b) 48 none) = hP at aP gP gPm gB nP kP ⊢
      refine callI_pure cal102 (qOwn b hbl hP) ?_
      have lit := lit1q hP b
      obtain ⟨s', h4, ea, o4, kp4, d4⟩ := append_elemM (P := Tryz.prog) sl_55 (by decide) aP.own (xs := celE b) rfl rfl (fun m hm => by
        change m * 3 = _ + 3 at hm
        rw [rows_len celE_len, List.length_map] at hm
        exact ⟨by simp only [lim]; omega, by simp only [lim]; omega⟩)
      have a4 := aP.step o4 kp4 d4
      have n4' := kp4.n
      have hne : ∀ k, k < hP.n → idOf (f 8) ≠ some k → idOf s' ≠ some k := fun k hk hh e => by
        rcases d4 with d | d
        · exact hh (d ▸ e)
        · have := d _ e; omega
      simp only [bW, Nat.reduceEqDiff, lit, ea]
      refine hid_mk ⟨vis ++ [(xs, xk, xv, xl)], ⟨f39, by omega, ?_, (kp4.get h.n (by omega) (fun hh => hd2 hh)).trans gPm, ?_, hne h1.n (by omega) hd1, hne h.n (by omega) hd2, hvl2, n3, fun e hem hen2 => ?_⟩, ?_⟩
      · rw [kp4.get h1.n (by omega) (fun hh => hd1 hh), gP]; simp
      · refine a4.conv ?_
        rw [List.map_append, List.flatMap_append, List.map_cons, List.map_nil, hbg]
        simp
      · obtain ⟨oe, ie⟩ := hown e hem (fun hh => hen2 (by rw [List.map_append]; exact List.mem_append_left _ hh))
        have lte : ∀ i, idOf e.2.2.1 = some i → i < h1.n ∧ i ≠ h.n := fun i hi => by
          have h5 := (w.own e.2.1 e.2.2 (kmem w.nd hem)).1.lt i hi
          have h6 := (w.own e.2.1 e.2.2 (kmem w.nd hem)).2 i hi
          omega
        refine ⟨((oe.keep kSet fun i hi e2 => by have := (lte i hi).1; omega).keep kP fun i hi e2 => hap e hem hen2 i hi e2).keep kp4 fun i hi e2 => ie i hi e2, fun i hi => hne i (by have := (lte i hi).1; omega) (ie i hi)⟩
      · rw [List.map_append]; exact less
end Go.Proofs.YtilgpaibolollaaGreat.Pk
namespace Go.Proofs.YtilgpaibolollaaGreat.Pk
open Go Go.Proofs Go.Proofs.YtilgpaibolollaaGreat.Ab Go.Sort
set_option maxRecDepth 10000
set_option linter.unusedVariables false
set_option linter.unusedSimpArgs false
/-- Merge, its answer being read alone. -/
theorem mergeI (rows : List (List Cel)) (hs : smallC rows.flatten) (hr : rows.length ≤ 2 ^ 30) (h : AHeap) : SCalls Tryz.prog 68 [.imm rows.length (rows.flatMap rowE)] h (fun r h' => ∃ out, IsMerge rows.flatten out ∧ Keep h h' none_ ∧ r = .imm out.length (out.flatMap celE)) :=
  SCalls.cast ((merge rows hs hr h).mono fun r h' ⟨out, io, acc⟩ => by
    obtain ⟨h2, c, k2⟩ := acc.cast (n := out.length) (rows_len celE_len _) (by decide)
    exact ⟨_, h2, c, out, io, k2, rfl⟩)
theorem IsMerge.sub {cs out : List Cel} (w : IsMerge cs out) : ∀ c ∈ out, c ∈ cs := fun c hc => (atOf_mem.1 (bestOf_mem ((w.mem c).1 hc))).1
theorem IsMerge.len {cs out : List Cel} (w : IsMerge cs out) : out.length ≤ cs.length := by
  have hn : out.Nodup := w.up.imp fun {a b} hab e => by subst e; omega
  exact hn.length_le_of_subset w.sub
theorem atOf_append (a b : List Cel) (k : Int) : atOf (a ++ b) k = atOf a k ++ atOf b k := List.filter_append ..
theorem bestF_ge {t : Option Cel} {c d : Cel} (h : bestF t c = some d) : c.epoch ≤ d.epoch ∧ ∀ t', t = some t' → t'.epoch ≤ d.epoch := by
  cases t with
  | none => cases h; exact ⟨Int.le_refl _, fun t' e => by cases e⟩
  | some t =>
    unfold bestF at h
    simp only at h
    split at h
    · cases h; exact ⟨Int.le_refl _, fun t' e => by cases e; omega⟩
    · cases h; exact ⟨by omega, fun t' e => by cases e; exact Int.le_refl _⟩
theorem bestFold_ge : ∀ (l : List Cel) (t : Option Cel) {d : Cel}, l.foldl bestF t = some d → (∀ c ∈ l, c.epoch ≤ d.epoch) ∧ ∀ t', t = some t' → t'.epoch ≤ d.epoch
  | [], t, d, h => ⟨by simp, fun t' e => by rw [show t = some d from h] at e; cases e; exact Int.le_refl _⟩
  | c :: l, t, d, h => by
    obtain ⟨h1, h2⟩ := bestFold_ge l (bestF t c) h
    obtain ⟨x, hx⟩ := bestF_some t c
    obtain ⟨h3, h4⟩ := bestF_ge hx
    have h5 := h2 x hx
    refine ⟨fun y hy => ?_, fun t' e => Int.le_trans (h4 t' e) h5⟩
    rcases List.mem_cons.1 hy with rfl | hy
    · omega
    · exact h1 y hy
theorem bestOf_ge {l : List Cel} {d : Cel} (h : bestOf l = some d) : ∀ c ∈ l, c.epoch ≤ d.epoch := (bestFold_ge l none h).1
end Go.Proofs.YtilgpaibolollaaGreat.Pk
namespace Go.Proofs.YtilgpaibolollaaGreat.Pk
open Go Go.Proofs Go.Proofs.YtilgpaibolollaaGreat.Ab
set_option linter.unusedVariables false
set_option linter.unusedSimpArgs false
/-! ### The log, as a model: nodes are the payloads on their disks -/
abbrev Pays := List (List Nat)
def cellAt (l : Pays) (k : Int) : Option Cel := kget (redoL l).2.1 k
def epOf (l : Pays) : Int := (redoL l).1
def used (l : Pays) : Nat := (l.flatMap frame).length
def nw (room : Int) (ep at_ : Int) (b : List Nat) (l : Pays) : Pays × Int :=
  match wrI (redoL l) ep at_ b with
  | some e => (l, e)
  | none => if putBad room (l.flatMap frame) (payN ⟨1, ep, at_, b⟩) = 0 then (l ++ [payN ⟨1, ep, at_, b⟩], 0) else (l, putBad room (l.flatMap frame) (payN ⟨1, ep, at_, b⟩))
def nseal (room : Int) (ep : Int) (l : Pays) : Pays × Int :=
  match selI (redoL l) ep with
  | some e => (l, e)
  | none => if putBad room (l.flatMap frame) (payN (selA ep)) = 0 then (l ++ [payN (selA ep)], 0) else (l, putBad room (l.flatMap frame) (payN (selA ep)))
theorem used_snoc (l : Pays) (p : List Nat) : used (l ++ [p]) = used l + (frame p).length := by
  unfold used
  rw [List.flatMap_append, List.length_append]
  simp
theorem wr_redo {l : Pays} {ep at_ : Int} {b : List Nat} (hw : wrI (redoL l) ep at_ b = none) : redoL (l ++ [payN ⟨1, ep, at_, b⟩]) = appS (redoL l) ⟨1, ep, at_, b⟩ := by
  obtain ⟨r1, r2, r3⟩ := wr_rng (wr_ok hw)
  obtain ⟨e1, rfl⟩ : ∃ q : Nat, ep = q := ⟨ep.toNat, by omega⟩
  obtain ⟨e2, rfl⟩ : ∃ q : Nat, at_ = q := ⟨at_.toNat, by omega⟩
  rw [redoL_snoc]
  exact redo_write _ e1 e2 b hw
theorem sel_rng {s : NSt} {ep : Int} (hs : selI s ep = none) : (0 ≤ ep ∧ ep ≤ 1048576) ∧ s.1 < ep := by
  unfold selI at hs
  split at hs
  · cases hs
  split at hs
  · cases hs
  · rename_i h1 h2
    have hm : mayEp ep = true := by simpa using h1
    unfold mayEp at hm
    simp only [Bool.and_eq_true, decide_eq_true_eq] at hm
    exact ⟨hm, by omega⟩
theorem sel_redo {l : Pays} {ep : Int} (hs : selI (redoL l) ep = none) : redoL (l ++ [payN (selA ep)]) = appS (redoL l) (selA ep) := by
  obtain ⟨r1, r2⟩ := sel_rng hs
  obtain ⟨e1, rfl⟩ : ∃ q : Nat, ep = q := ⟨ep.toNat, by omega⟩
  rw [redoL_snoc]
  exact redo_seal _ e1 (by omega) r2
theorem appS_w (s : NSt) (ep at_ : Int) (b : List Nat) : (appS s ⟨1, ep, at_, b⟩).1 = s.1 ∧ ∀ k, kget (appS s ⟨1, ep, at_, b⟩).2.1 k = if k = at_ then some ⟨at_, ep, b⟩ else kget s.2.1 k := by
  refine ⟨by unfold appS appE; simp, fun k => ?_⟩
  unfold appS appC
  simp only
  rw [if_neg (by decide), kget_kset]
theorem appS_s (s : NSt) (ep : Int) : (appS s (selA ep)).1 = ep ∧ (appS s (selA ep)).2.1 = s.2.1 := by
  unfold appS appE appC selA
  simp
/-- What a write makes of a node, whatever it answers. -/
theorem nw_post (room ep at_ : Int) (b : List Nat) (l : Pays) :
    epOf (nw room ep at_ b l).1 = epOf l ∧ (∀ k, k ≠ at_ → cellAt (nw room ep at_ b l).1 k = cellAt l k) ∧
    (cellAt (nw room ep at_ b l).1 at_ = cellAt l at_ ∨ (cellAt (nw room ep at_ b l).1 at_ = some ⟨at_, ep, b⟩ ∧ ∀ c, cellAt l at_ = some c → c.epoch < ep)) ∧
    ((nw room ep at_ b l).2 = 0 → ∃ c, cellAt (nw room ep at_ b l).1 at_ = some c ∧ c.epoch = ep ∧ c.bytes = b) := by
  unfold nw
  cases hw : wrI (redoL l) ep at_ b with
  | some e =>
    refine ⟨rfl, fun _ _ => rfl, .inl rfl, fun he => ?_⟩
    simp only at he
    subst he
    unfold wrI at hw
    split at hw
    · cases hw
    split at hw
    · cases hw
    split at hw
    · rename_i c hc
      split at hw
      · split at hw
        · rename_i h1; exact ⟨c, hc, h1.1, h1.2⟩
        · cases hw
      · cases hw
    · cases hw
  | none =>
    simp only
    split
    · have hR := wr_redo hw
      obtain ⟨a1, a2⟩ := appS_w (redoL l) ep at_ b
      refine ⟨?_, fun k hk => ?_, .inr ⟨?_, fun c hc => ?_⟩, fun _ => ⟨⟨at_, ep, b⟩, ?_, rfl, rfl⟩⟩
      · unfold epOf; rw [hR, a1]
      · unfold cellAt; rw [hR, a2, if_neg hk]
      · unfold cellAt; rw [hR, a2, if_pos rfl]
      · unfold cellAt at hc
        unfold wrI at hw
        rw [hc] at hw
        simp only at hw
        split at hw
        · cases hw
        split at hw
        · cases hw
        split at hw
        · split at hw <;> cases hw
        · omega
      · unfold cellAt; rw [hR, a2, if_pos rfl]
    · rename_i hP
      exact ⟨rfl, fun _ _ => rfl, .inl rfl, fun he => absurd he hP⟩
/-- A write that is answered OK. -/
theorem nw_fine {room ep at_ : Int} {b : List Nat} {l : Pays} (h1 : epOf l ≤ ep) (h2 : 0 ≤ ep ∧ ep ≤ 1048576) (h3 : 0 ≤ at_ ∧ at_ < 4096) (h4 : b.length ≤ 2048) (h5 : ∀ c, cellAt l at_ = some c → c.epoch < ep) (h6 : (used l : Int) + 60 + b.length ≤ room) :
    (nw room ep at_ b l).2 = 0 ∧ used (nw room ep at_ b l).1 ≤ used l + 54 + b.length := by
  have hm : mayWr ⟨1, ep, at_, b⟩ = true := by
    unfold mayWr mayEp
    simp only [Bool.and_eq_true, decide_eq_true_eq]
    exact ⟨⟨h3, h2⟩, h4⟩
  have hw : wrI (redoL l) ep at_ b = none := by
    unfold wrI
    rw [if_neg (by rw [hm]; decide), if_neg (by unfold epOf at h1; omega)]
    cases hc : kget (redoL l).2.1 at_ with
    | none => rfl
    | some c => simp only; rw [if_neg (by have := h5 c hc; omega)]
  have ho : okAct ⟨1, ep, at_, b⟩ := ⟨by simp only; omega, by simp only; omega, by simp only; omega, h4⟩
  have hP : putBad room (l.flatMap frame) (payN ⟨1, ep, at_, b⟩) = 0 := pb0 ho (by unfold used at h6; simp only; omega)
  have hF := fr_len _ ho
  unfold nw
  rw [hw]
  simp only
  rw [if_pos hP]
  refine ⟨rfl, ?_⟩
  simp only at hF ⊢
  rw [used_snoc]
  omega
theorem nseal_post (room ep : Int) (l : Pays) :
    (∀ k, cellAt (nseal room ep l).1 k = cellAt l k) ∧ (epOf (nseal room ep l).1 = epOf l ∨ epOf (nseal room ep l).1 = ep) := by
  unfold nseal
  cases hs : selI (redoL l) ep with
  | some e => exact ⟨fun _ => rfl, .inl rfl⟩
  | none =>
    simp only
    split
    · have hR := sel_redo hs
      obtain ⟨a1, a2⟩ := appS_s (redoL l) ep
      exact ⟨fun k => by unfold cellAt; rw [hR, a2], .inr (by unfold epOf; rw [hR, a1])⟩
    · exact ⟨fun _ => rfl, .inl rfl⟩
theorem nseal_fine {room ep : Int} {l : Pays} (h1 : epOf l < ep) (h2 : 0 ≤ ep ∧ ep ≤ 1048576) (h6 : (used l : Int) + 60 ≤ room) :
    (nseal room ep l).2 = 0 ∧ used (nseal room ep l).1 ≤ used l + 54 ∧ epOf (nseal room ep l).1 = ep := by
  have hs : selI (redoL l) ep = none := by
    unfold selI mayEp
    rw [if_neg (by simp [h2]), if_neg (by unfold epOf at h1; omega)]
  have ho : okAct (selA ep) := ⟨by simp only [selA]; omega, by simp only [selA]; omega, by simp only [selA]; omega, by simp [selA]⟩
  have hP : putBad room (l.flatMap frame) (payN (selA ep)) = 0 := pb0 ho (by unfold used at h6; simp only [selA, List.length_nil]; omega)
  have hF := fr_len _ ho
  have hR := sel_redo hs
  obtain ⟨a1, a2⟩ := appS_s (redoL l) ep
  unfold nseal
  rw [hs]
  simp only
  rw [if_pos hP]
  simp only [selA, List.length_nil] at hF
  refine ⟨rfl, by simp only; rw [used_snoc]; simp only [selA]; omega, ?_⟩
  unfold epOf
  rw [hR, a1]
end Go.Proofs.YtilgpaibolollaaGreat.Pk
namespace Go.Proofs.YtilgpaibolollaaGreat.Pk
open Go Go.Proofs Go.Proofs.YtilgpaibolollaaGreat.Ab
set_option linter.unusedVariables false
set_option linter.unusedSimpArgs false
/-! ### Counting -/
def cntN (P : Nat → Bool) : Nat → Nat
  | 0 => 0
  | i + 1 => cntN P i + if P i = true then 1 else 0
theorem cntN_le (P : Nat → Bool) : ∀ n, cntN P n ≤ n
  | 0 => Nat.le_refl _
  | i + 1 => by have := cntN_le P i; unfold cntN; split <;> omega
theorem cntN_mono {P Q : Nat → Bool} : ∀ {n}, (∀ q, q < n → P q = true → Q q = true) → cntN P n ≤ cntN Q n
  | 0, _ => Nat.le_refl _
  | i + 1, h => by
    have ih := cntN_mono (P := P) (Q := Q) (n := i) fun q hq => h q (by omega)
    have h1 := h i (by omega)
    unfold cntN
    by_cases hp : P i = true
    · rw [if_pos hp, if_pos (h1 hp)]; omega
    · rw [if_neg hp]; omega
theorem cntN_congr {P Q : Nat → Bool} {n : Nat} (h : ∀ q, q < n → P q = Q q) : cntN P n = cntN Q n :=
  Nat.le_antisymm (cntN_mono fun q hq hp => by rw [← h q hq]; exact hp) (cntN_mono fun q hq hp => by rw [h q hq]; exact hp)
theorem cntN_meet {P Q : Nat → Bool} : ∀ {n}, n < cntN P n + cntN Q n → ∃ q, q < n ∧ P q = true ∧ Q q = true
  | 0, h => by simp [cntN] at h
  | i + 1, h => by
    by_cases hb : P i = true ∧ Q i = true
    · exact ⟨i, by omega, hb.1, hb.2⟩
    · have : i < cntN P i + cntN Q i := by
        unfold cntN at h
        by_cases hp : P i = true
        · rw [if_pos hp, if_neg fun hq => hb ⟨hp, hq⟩] at h; omega
        · rw [if_neg hp] at h; split at h <;> omega
      obtain ⟨q, h1, h2⟩ := cntN_meet this
      exact ⟨q, by omega, h2⟩
/-! ### Nodes -/
abbrev Nds := Nat → Pays
def allN (f : Pays → Pays × Int) (rc : Nat → Bool) (i : Nat) (nd : Nds) : Nds := fun q => if q < i ∧ rc q = true then (f (nd q)).1 else nd q
def fineN (f : Pays → Pays × Int) (rc : Nat → Bool) (nd : Nds) (q : Nat) : Bool := rc q && ((f (nd q)).2 == 0)
theorem fineN_rc {f : Pays → Pays × Int} {rc : Nat → Bool} {nd : Nds} {q : Nat} (h : fineN f rc nd q = true) : rc q = true ∧ (f (nd q)).2 = 0 := by
  unfold fineN at h
  simpa using h
theorem allN_zero (f : Pays → Pays × Int) (rc : Nat → Bool) (nd : Nds) : allN f rc 0 nd = nd := by
  funext q; unfold allN; rw [if_neg (by omega)]
theorem allN_at (f : Pays → Pays × Int) (rc : Nat → Bool) (i : Nat) (nd : Nds) : allN f rc i nd i = nd i := by
  unfold allN; rw [if_neg (by omega)]
theorem allN_succ (f : Pays → Pays × Int) (rc : Nat → Bool) (i : Nat) (nd : Nds) : allN f rc (i + 1) nd = if rc i = true then fun q => if q = i then (f (nd i)).1 else allN f rc i nd q else allN f rc i nd := by
  funext q
  by_cases hr : rc i = true
  · rw [if_pos hr]
    by_cases hq : q = i
    · subst hq
      unfold allN
      simp only [if_true]
      rw [if_pos ⟨by omega, hr⟩]
    · simp only [if_neg hq]
      unfold allN
      by_cases h2 : q < i
      · by_cases h3 : rc q = true
        · rw [if_pos ⟨by omega, h3⟩, if_pos ⟨h2, h3⟩]
        · rw [if_neg fun h => h3 h.2, if_neg fun h => h3 h.2]
      · rw [if_neg fun h => by omega, if_neg fun h => h2 h.1]
  · rw [if_neg hr]
    unfold allN
    by_cases hq : q = i
    · subst hq; rw [if_neg fun h => hr h.2, if_neg fun h => hr h.2]
    · by_cases h2 : q < i
      · by_cases h3 : rc q = true
        · rw [if_pos ⟨by omega, h3⟩, if_pos ⟨h2, h3⟩]
        · rw [if_neg fun h => h3 h.2, if_neg fun h => h3 h.2]
      · rw [if_neg fun h => by omega, if_neg fun h => h2 h.1]
theorem allN_n {f : Pays → Pays × Int} {rc : Nat → Bool} {n q : Nat} {nd : Nds} (hq : q < n) : allN f rc n nd q = if rc q = true then (f (nd q)).1 else nd q := by
  unfold allN
  by_cases h : rc q = true
  · rw [if_pos ⟨hq, h⟩, if_pos h]
  · rw [if_neg fun hh => h hh.2, if_neg h]
/-- A slot written at the nodes that are reached. -/
def wrL (room : Int) (n : Nat) (ep at_ : Int) (b : List Nat) (rc : Nat → Bool) (nd : Nds) : Nds × Bool :=
  (allN (nw room ep at_ b) rc n nd, decide (n / 2 + 1 ≤ cntN (fineN (nw room ep at_ b) rc nd) n))
/-- A row of slots, one behind the other. -/
def wRow (room : Int) (n : Nat) (ep : Int) (rc : Nat → Bool) : List (List Nat) → Nat → Nds → Nds × Bool
  | [], _, nd => (nd, true)
  | b :: r, at_, nd => if (wrL room n ep (at_ : Int) b rc nd).2 = true then wRow room n ep rc r (at_ + 1) (wrL room n ep (at_ : Int) b rc nd).1 else ((wrL room n ep (at_ : Int) b rc nd).1, false)
/-- What those that were sealed have at a slot. -/
def votes (P : Nat → Bool) (nd : Nds) (k : Int) : Nat → List Cel
  | 0 => []
  | i + 1 => votes P nd k i ++ if P i = true then (cellAt (nd i) k).toList else []
theorem votes_mem {P : Nat → Bool} {nd : Nds} {k : Int} {c : Cel} : ∀ {n}, c ∈ votes P nd k n ↔ ∃ q, q < n ∧ P q = true ∧ cellAt (nd q) k = some c
  | 0 => by simp [votes]
  | i + 1 => by
    unfold votes
    rw [List.mem_append, votes_mem (n := i)]
    constructor
    · rintro (⟨q, h1, h2⟩ | h)
      · exact ⟨q, by omega, h2⟩
      · split at h
        · rename_i hp
          exact ⟨i, by omega, hp, by simpa using h⟩
        · cases h
    · rintro ⟨q, h1, h2, h3⟩
      by_cases hq : q = i
      · subst hq
        right; rw [if_pos h2, h3]; simp
      · exact .inl ⟨q, by omega, h2, h3⟩
/-- The row that is told by votes. -/
structure RowIs (vt : Int → List Cel) (row : List (List Nat)) : Prop where
  is : ∀ k : Nat, (h : k < row.length) → row[k] = match bestOf (vt (k : Int)) with | some c => c.bytes | none => []
  no : ∀ k : Nat, row.length ≤ k → vt (k : Int) = []
  top : row = [] ∨ vt ((row.length - 1 : Nat) : Int) ≠ []
structure LS where
  nd : Nds
  op : Bool
  ep : Int
  row : List (List Nat)
/-- What Open makes of a log. -/
def OpenR (room : Int) (n : Nat) (rc : Nat → Bool) (s s' : LS) (e : Int) : Prop :=
  if n / 2 + 1 ≤ cntN (fineN (nseal room (s.ep + 1)) rc s.nd) n then
    ∃ row, RowIs (fun k => votes (fineN (nseal room (s.ep + 1)) rc s.nd) s.nd k n) row ∧
      if (wRow room n (s.ep + 1) rc row 0 (allN (nseal room (s.ep + 1)) rc n s.nd)).2 = true then s' = ⟨(wRow room n (s.ep + 1) rc row 0 (allN (nseal room (s.ep + 1)) rc n s.nd)).1, true, s.ep + 1, row⟩ ∧ e = 0
      else s' = ⟨(wRow room n (s.ep + 1) rc row 0 (allN (nseal room (s.ep + 1)) rc n s.nd)).1, false, s.ep + 1, s.row⟩ ∧ e = 8
  else s' = ⟨allN (nseal room (s.ep + 1)) rc n s.nd, false, s.ep + 1, s.row⟩ ∧ e = 8
/-- What Append makes of a log, its place, and its error. -/
def appL (room : Int) (n : Nat) (rc : Nat → Bool) (b : List Nat) (s : LS) : LS × Nat × Int :=
  if s.op = false then (s, 0, 8) else
  if b.length = 0 ∨ 2048 < b.length then (s, 0, 2) else
  if 4096 ≤ s.row.length then (s, 0, 3) else
  if (wrL room n s.ep (s.row.length : Nat) b rc s.nd).2 = true then (⟨(wrL room n s.ep (s.row.length : Nat) b rc s.nd).1, true, s.ep, s.row ++ [b]⟩, s.row.length, 0)
  else (⟨(wrL room n s.ep (s.row.length : Nat) b rc s.nd).1, false, s.ep, s.row⟩, 0, 8)
end Go.Proofs.YtilgpaibolollaaGreat.Pk
namespace Go.Proofs.YtilgpaibolollaaGreat.Pk
open Go Go.Proofs Go.Proofs.YtilgpaibolollaaGreat.Ab
set_option linter.unusedVariables false
set_option linter.unusedSimpArgs false
/-! ### What is known stays -/
def geO : Option Cel → Int → Bool
  | some c, e => decide (e ≤ c.epoch)
  | none, _ => false
def isO : Option Cel → Int → List Nat → Bool
  | some c, e, b => decide (c.epoch = e) && decide (c.bytes = b)
  | none, _, _ => false
theorem geO_some {o : Option Cel} {e : Int} (h : geO o e = true) : ∃ c, o = some c ∧ e ≤ c.epoch := by
  cases o with
  | none => cases h
  | some c => exact ⟨c, rfl, by simpa [geO] using h⟩
theorem isO_some {o : Option Cel} {e : Int} {b : List Nat} (h : isO o e b = true) : ∃ c, o = some c ∧ c.epoch = e ∧ c.bytes = b := by
  cases o with
  | none => cases h
  | some c => simp [isO] at h; exact ⟨c, rfl, h.1, h.2⟩
theorem isO_mk (c : Cel) : isO (some c) c.epoch c.bytes = true := by simp [isO]
/-- A node that a write with the client's epoch was tried at. -/
structure Wst (n : Nat) (ep : Int) (at_ : Int) (b : List Nat) (nd nd' : Nds) : Prop where
  other : ∀ q, q < n → ∀ k, k ≠ at_ → cellAt (nd' q) k = cellAt (nd q) k
  at_ : ∀ q, q < n → cellAt (nd' q) at_ = cellAt (nd q) at_ ∨ (cellAt (nd' q) at_ = some ⟨at_, ep, b⟩ ∧ ∀ c, cellAt (nd q) at_ = some c → c.epoch < ep)
theorem wrL_st (room : Int) (n : Nat) (ep at_ : Int) (b : List Nat) (rc : Nat → Bool) (nd : Nds) : Wst n ep at_ b nd (wrL room n ep at_ b rc nd).1 := by
  constructor
  · intro q hq k hk
    unfold wrL
    simp only
    rw [allN_n hq]
    split
    · exact (nw_post room ep at_ b (nd q)).2.1 k hk
    · rfl
  · intro q hq
    unfold wrL
    simp only
    rw [allN_n hq]
    split
    · exact (nw_post room ep at_ b (nd q)).2.2.1
    · exact .inl rfl
theorem wrL_ok {room : Int} {n : Nat} {ep at_ : Int} {b : List Nat} {rc : Nat → Bool} {nd : Nds} (h : (wrL room n ep at_ b rc nd).2 = true) :
    n < 2 * cntN (fun q => isO (cellAt ((wrL room n ep at_ b rc nd).1 q) at_) ep b) n := by
  have h1 : n / 2 + 1 ≤ cntN (fineN (nw room ep at_ b) rc nd) n := by unfold wrL at h; simpa using h
  have h2 : cntN (fineN (nw room ep at_ b) rc nd) n ≤ cntN (fun q => isO (cellAt ((wrL room n ep at_ b rc nd).1 q) at_) ep b) n := by
    refine cntN_mono fun q hq hp => ?_
    obtain ⟨hr, h0⟩ := fineN_rc hp
    obtain ⟨c, hc, e1, e2⟩ := (nw_post room ep at_ b (nd q)).2.2.2 h0
    have : (wrL room n ep at_ b rc nd).1 q = (nw room ep at_ b (nd q)).1 := by
      unfold wrL; simp only; rw [allN_n hq, if_pos hr]
    simp only [this, hc]
    subst e1 e2
    exact isO_mk c
  omega
/-! Cells up to an epoch, without two values of one epoch; and what is known -/
structure Core (n : Nat) (nd : Nds) (ep : Int) (row : List (List Nat)) (es : List Int) : Prop where
  hi : ∀ q, q < n → ∀ k c, cellAt (nd q) k = some c → c.epoch ≤ ep
  one : ∀ q q', q < n → q' < n → ∀ k c c', cellAt (nd q) k = some c → cellAt (nd q') k = some c' → c.epoch = c'.epoch → c.bytes = c'.bytes
  el : es.length = row.length
  has : ∀ i : Nat, (h : i < es.length) → n < 2 * cntN (fun q => geO (cellAt (nd q) (i : Int)) es[i]) n
  is : ∀ i : Nat, (h : i < es.length) → (h2 : i < row.length) → ∀ q, q < n → ∀ c, cellAt (nd q) (i : Int) = some c → es[i] ≤ c.epoch → c.bytes = row[i]
/-- A write that keeps what is known: whoever has a cell of its epoch at the slot has its value, and so has what is known there. -/
theorem Core.write {n : Nat} {nd nd' : Nds} {ep : Int} {row : List (List Nat)} {es : List Int} (w : Core n nd ep row es) {at_ : Nat} {b : List Nat} (ws : Wst n ep (at_ : Int) b nd nd')
    (h1 : ∀ q, q < n → ∀ c, cellAt (nd q) (at_ : Int) = some c → c.epoch = ep → c.bytes = b) (h2 : (h : at_ < row.length) → row[at_] = b) : Core n nd' ep row es := by
  have step : ∀ q, q < n → ∀ k c, cellAt (nd' q) k = some c → cellAt (nd q) k = some c ∨ (k = at_ ∧ c = ⟨at_, ep, b⟩) := fun q hq k c hc => by
    by_cases hk : k = at_
    · subst hk
      rcases ws.at_ q hq with e | ⟨e, _⟩
      · rw [e] at hc; exact .inl hc
      · rw [e] at hc; exact .inr ⟨rfl, (Option.some.inj hc).symm⟩
    · rw [ws.other q hq k hk] at hc; exact .inl hc
  refine ⟨fun q hq k c hc => ?_, fun q q' hq hq' k c c' hc hc' he => ?_, w.el, fun i hi => ?_, fun i hi hi2 q hq c hc he => ?_⟩
  · rcases step q hq k c hc with h | ⟨_, rfl⟩
    · exact w.hi q hq k c h
    · exact Int.le_refl _
  · rcases step q hq k c hc with h | ⟨e1, rfl⟩
    · rcases step q' hq' k c' hc' with h' | ⟨e2, rfl⟩
      · exact w.one q q' hq hq' k c c' h h' he
      · subst e2; exact h1 q hq c h he
    · rcases step q' hq' k c' hc' with h' | ⟨e2, rfl⟩
      · subst e1; exact (h1 q' hq' c' h' he.symm).symm
      · rfl
  · refine Nat.lt_of_lt_of_le (w.has i hi) (Nat.mul_le_mul_left 2 (cntN_mono fun q hq hp => ?_))
    by_cases hk : (i : Int) = at_
    · rcases ws.at_ q hq with e | ⟨e, e2⟩
      · rw [hk, e, ← hk]; exact hp
      · rw [hk] at hp ⊢
        rw [e]
        obtain ⟨c, hc, h4⟩ := geO_some hp
        have h3 := e2 c hc
        simp only [geO, decide_eq_true_eq]
        omega
    · rw [ws.other q hq _ hk]; exact hp
  · rcases step q hq _ c hc with h | ⟨e1, rfl⟩
    · exact w.is i hi hi2 q hq c h he
    · have : i = at_ := by omega
      subst this
      exact (h2 hi2).symm
/-- A write that a quorum has, of a slot that has no cell of its epoch yet: one more is known. -/
theorem Core.more {n : Nat} {nd : Nds} {ep : Int} {row : List (List Nat)} {es : List Int} (w : Core n nd ep row es) {b : List Nat}
    (h1 : n < 2 * cntN (fun q => isO (cellAt (nd q) (row.length : Nat)) ep b) n)
    (h2 : ∀ q, q < n → ∀ c, cellAt (nd q) (row.length : Nat) = some c → c.epoch = ep → c.bytes = b) : Core n nd ep (row ++ [b]) (es ++ [ep]) := by
  refine ⟨w.hi, w.one, by simp [w.el], fun i hi => ?_, fun i hi hi2 q hq c hc he => ?_⟩
  · by_cases hh : i < es.length
    · rw [List.getElem_append_left hh]; exact w.has i hh
    · have hie : i = row.length := by simp at hi; have := w.el; omega
      subst hie
      rw [List.getElem_append_right (by have := w.el; omega)]
      refine Nat.lt_of_lt_of_le h1 (Nat.mul_le_mul_left 2 (cntN_mono fun q hq hp => ?_))
      obtain ⟨c, hc, h4, h5⟩ := isO_some hp
      rw [hc]
      simp [geO, h4]
  · by_cases hh : i < es.length
    · rw [List.getElem_append_left hh] at he
      rw [List.getElem_append_left (by have := w.el; omega)]
      exact w.is i hh (by have := w.el; omega) q hq c hc he
    · have hie : i = row.length := by simp at hi; have := w.el; omega
      subst hie
      rw [List.getElem_append_right (by have := w.el; omega)] at he
      rw [List.getElem_append_right (Nat.le_refl _)]
      have h3 := w.hi q hq _ c hc
      simp at he
      simp only [Nat.sub_self, List.getElem_cons_zero]
      exact h2 q hq c hc (by omega)
theorem Core.rise {n : Nat} {nd : Nds} {ep ep' : Int} {row : List (List Nat)} {es : List Int} (w : Core n nd ep row es) (h : ep ≤ ep') : Core n nd ep' row es :=
  ⟨fun q hq k c hc => Int.le_trans (w.hi q hq k c hc) h, w.one, w.el, w.has, w.is⟩
theorem Core.same {n : Nat} {nd nd' : Nds} {ep : Int} {row : List (List Nat)} {es : List Int} (w : Core n nd ep row es) (h : ∀ q, q < n → ∀ k, cellAt (nd' q) k = cellAt (nd q) k) : Core n nd' ep row es := by
  refine ⟨fun q hq k c hc => w.hi q hq k c (by rw [← h q hq]; exact hc), fun q q' hq hq' k c c' hc hc' he => w.one q q' hq hq' k c c' (by rw [← h q hq]; exact hc) (by rw [← h q' hq']; exact hc') he, w.el, fun i hi => ?_, fun i hi hi2 q hq c hc he => w.is i hi hi2 q hq c (by rw [← h q hq]; exact hc) he⟩
  have e : cntN (fun q => geO (cellAt (nd' q) (i : Int)) es[i]) n = cntN (fun q => geO (cellAt (nd q) (i : Int)) es[i]) n :=
    cntN_congr fun q hq => by rw [h q hq]
  rw [e]; exact w.has i hi
end Go.Proofs.YtilgpaibolollaaGreat.Pk
namespace Go.Proofs.YtilgpaibolollaaGreat.Pk
open Go Go.Proofs Go.Proofs.YtilgpaibolollaaGreat.Ab
set_option linter.unusedVariables false
set_option linter.unusedSimpArgs false
theorem Wst.step {n : Nat} {ep at_ : Int} {b : List Nat} {nd nd' : Nds} (ws : Wst n ep at_ b nd nd') {q : Nat} (hq : q < n) {k : Int} {c : Cel} (hc : cellAt (nd' q) k = some c) : cellAt (nd q) k = some c ∨ (k = at_ ∧ c = ⟨at_, ep, b⟩) := by
  by_cases hk : k = at_
  · subst hk
    rcases ws.at_ q hq with e | ⟨e, _⟩
    · rw [e] at hc; exact .inl hc
    · rw [e] at hc; exact .inr ⟨rfl, (Option.some.inj hc).symm⟩
  · rw [ws.other q hq k hk] at hc; exact .inl hc
theorem wRow_core {room : Int} {n : Nat} {E : Int} {rc : Nat → Bool} {row row' : List (List Nat)} {es : List Int} (hb2 : ∀ i, (h1 : i < row.length) → (h2 : i < row'.length) → row'[i] = row[i]) :
    ∀ (r pre : List (List Nat)) (nd : Nds), row' = pre ++ r → Core n nd E row es → Core n nd E pre (List.replicate pre.length E) →
      (∀ q, q < n → ∀ k c, cellAt (nd q) k = some c → c.epoch = E → ∃ i : Nat, ∃ h : i < pre.length, k = (i : Int) ∧ c.bytes = pre[i]) →
      Core n (wRow room n E rc r pre.length nd).1 E row es ∧ ((wRow room n E rc r pre.length nd).2 = true → Core n (wRow room n E rc r pre.length nd).1 E row' (List.replicate row'.length E) ∧
        ∀ q, q < n → ∀ k c, cellAt ((wRow room n E rc r pre.length nd).1 q) k = some c → c.epoch = E → ∃ i : Nat, ∃ h : i < row'.length, k = (i : Int) ∧ c.bytes = row'[i])
  | [], pre, nd, hr, w, w2, st => by
    rw [List.append_nil] at hr
    subst hr
    exact ⟨w, fun _ => ⟨w2, st⟩⟩
  | b :: r, pre, nd, hr, w, w2, st => by
    have ws := wrL_st room n E (pre.length : Nat) b rc nd
    have hno : ∀ q, q < n → ∀ c, cellAt (nd q) (pre.length : Nat) = some c → c.epoch = E → c.bytes = b := fun q hq c hc he => by
      obtain ⟨i, h, e, _⟩ := st q hq _ c hc he
      omega
    have w' := w.write ws hno (fun h => by
      have h2 : pre.length < row'.length := by rw [hr]; simp
      rw [← hb2 pre.length h h2]
      subst hr
      rw [List.getElem_append_right (Nat.le_refl _)]
      simp)
    have w2' := w2.write ws hno (fun h => absurd h (Nat.lt_irrefl _))
    unfold wRow
    split
    · rename_i hok
      have m := w2'.more (b := b) (wrL_ok hok) (fun q hq c hc he => by
        rcases ws.step hq hc with h | ⟨_, rfl⟩
        · exact hno q hq c h he
        · rfl)
      have hl : (pre ++ [b]).length = pre.length + 1 := by simp
      have hrep : List.replicate (pre ++ [b]).length E = List.replicate pre.length E ++ [E] := by rw [hl, List.replicate_succ']
      have ih := wRow_core (room := room) (rc := rc) hb2 r (pre ++ [b]) (wrL room n E (pre.length : Nat) b rc nd).1 (by rw [hr]; simp) w' (by rw [hrep]; exact m) (fun q hq k c hc he => by
        rcases ws.step hq hc with h | ⟨e1, rfl⟩
        · obtain ⟨i, h1, h2, h3⟩ := st q hq k c h he
          exact ⟨i, by omega, h2, by rw [List.getElem_append_left h1]; exact h3⟩
        · exact ⟨pre.length, by omega, e1, by rw [List.getElem_append_right (Nat.le_refl _)]; simp⟩)
      rw [hl] at ih
      exact ih
    · exact ⟨w', fun h => by simp at h⟩
structure Safe (n : Nat) (s : LS) : Prop where
  core : ∃ es, Core n s.nd s.ep s.row es
  new : s.op = true → ∀ q, q < n → ∀ k : Nat, s.row.length ≤ k → ∀ c, cellAt (s.nd q) (k : Int) = some c → c.epoch < s.ep
theorem Safe.open_ {room : Int} {n : Nat} {rc : Nat → Bool} {s s' : LS} {e : Int} (w : Safe n s) (h : OpenR room n rc s s' e) :
    Safe n s' ∧ (e = 0 → s.row <+: s'.row) ∧ (e ≠ 0 → s'.row = s.row) := by
  obtain ⟨⟨es, c⟩, _⟩ := w
  have same : ∀ q, q < n → ∀ k, cellAt (allN (nseal room (s.ep + 1)) rc n s.nd q) k = cellAt (s.nd q) k := fun q hq k => by
    rw [allN_n hq]
    split
    · exact (nseal_post room (s.ep + 1) (s.nd q)).1 k
    · rfl
  have c1 := (c.same same).rise (ep' := s.ep + 1) (by omega)
  unfold OpenR at h
  split at h
  · rename_i hq
    obtain ⟨row, ri, h⟩ := h
    have key : ∀ i : Nat, (h1 : i < s.row.length) → ∃ h2 : i < row.length, row[i] = s.row[i] := fun i h1 => by
      have hi : i < es.length := by rw [c.el]; exact h1
      obtain ⟨q, q1, q2, q3⟩ := cntN_meet (n := n) (P := fineN (nseal room (s.ep + 1)) rc s.nd) (Q := fun q => geO (cellAt (s.nd q) (i : Int)) es[i]) (by have := c.has i hi; omega)
      obtain ⟨d, hc, q3⟩ := geO_some q3
      ·
        have hm : d ∈ votes (fineN (nseal room (s.ep + 1)) rc s.nd) s.nd (i : Int) n := votes_mem.2 ⟨q, q1, q2, hc⟩
        have h2 : i < row.length := by
          rcases Nat.lt_or_ge i row.length with h | h
          · exact h
          · have := ri.no i h
            rw [this] at hm
            cases hm
        refine ⟨h2, ?_⟩
        obtain ⟨x, hx⟩ := bestOf_ne (List.ne_nil_of_mem hm)
        have hri := ri.is i h2
        simp only [hx] at hri
        rw [hri]
        obtain ⟨q', p1, p2, p3⟩ := votes_mem.1 (bestOf_mem hx)
        have := bestOf_ge hx d hm
        exact c.is i hi h1 q' p1 x p3 (by omega)
    have hlen : s.row.length ≤ row.length := by
      rcases Nat.lt_or_ge row.length s.row.length with h | h
      · obtain ⟨h2, _⟩ := key row.length h; omega
      · exact h
    have w3 := wRow_core (room := room) (n := n) (E := s.ep + 1) (rc := rc) (row := s.row) (row' := row) (es := es) (fun i h1 h2 => (key i h1).2) row [] (allN (nseal room (s.ep + 1)) rc n s.nd) rfl c1
      ⟨c1.hi, c1.one, rfl, fun i hi => absurd hi (by simp), fun i hi => absurd hi (by simp)⟩ (fun q hq k d hd he => by
        rw [same q hq] at hd
        have := c.hi q hq k d hd
        omega)
    simp only [List.length_nil] at w3
    split at h
    · rename_i hok
      obtain ⟨rfl, rfl⟩ := h
      obtain ⟨c4, st⟩ := w3.2 hok
      refine ⟨⟨⟨_, c4⟩, fun _ q hq k hk d hd => ?_⟩, fun _ => ?_, fun h => absurd rfl h⟩
      · have h1 := c4.hi q hq _ d hd
        have h2 : d.epoch ≠ s.ep + 1 := fun he => by
          obtain ⟨i, hi, e, _⟩ := st q hq _ d hd he
          simp only at hk
          omega
        simp only at h1 ⊢
        omega
      · have : s.row = row.take s.row.length := by
          refine List.ext_getElem (by rw [List.length_take]; omega) fun i h1 h2 => ?_
          rw [List.getElem_take, (key i h1).2]
        simp only
        rw [this]
        exact List.take_prefix _ _
    · obtain ⟨rfl, rfl⟩ := h
      exact ⟨⟨⟨es, w3.1⟩, fun h => (by cases h)⟩, fun h => absurd h (by decide), fun _ => rfl⟩
  · obtain ⟨rfl, rfl⟩ := h
    exact ⟨⟨⟨es, c1⟩, fun h => (by cases h)⟩, fun h => absurd h (by decide), fun _ => rfl⟩
theorem Safe.app {room : Int} {n : Nat} {rc : Nat → Bool} {s : LS} {b : List Nat} (w : Safe n s) :
    Safe n (appL room n rc b s).1 ∧ ((appL room n rc b s).2.2 = 0 → (appL room n rc b s).2.1 = s.row.length ∧ (appL room n rc b s).1.row = s.row ++ [b]) ∧ ((appL room n rc b s).2.2 ≠ 0 → (appL room n rc b s).1.row = s.row) := by
  unfold appL
  split
  · exact ⟨w, fun h => absurd h (by simp), fun _ => rfl⟩
  rename_i hop
  have hop' : s.op = true := by simpa using hop
  split
  · exact ⟨w, fun h => absurd h (by simp), fun _ => rfl⟩
  split
  · exact ⟨w, fun h => absurd h (by simp), fun _ => rfl⟩
  obtain ⟨⟨es, c⟩, nw_⟩ := w
  have nw_ := nw_ hop'
  have ws := wrL_st room n s.ep (s.row.length : Nat) b rc s.nd
  have hno : ∀ q, q < n → ∀ c, cellAt (s.nd q) (s.row.length : Nat) = some c → c.epoch = s.ep → c.bytes = b := fun q hq d hd he => by
    have := nw_ q hq s.row.length (Nat.le_refl _) d hd
    omega
  have c1 := c.write ws hno (fun h => absurd h (Nat.lt_irrefl _))
  split
  · rename_i hok
    refine ⟨⟨⟨_, c1.more (b := b) (wrL_ok hok) (fun q hq d hd he => ?_)⟩, fun _ q hq k hk d hd => ?_⟩, fun _ => ⟨rfl, rfl⟩, fun h => absurd rfl h⟩
    · rcases ws.step hq hd with h | ⟨_, rfl⟩
      · exact hno q hq d h he
      · rfl
    · simp only [List.length_append, List.length_cons, List.length_nil] at hk hd ⊢
      rcases ws.step hq hd with h | ⟨e, rfl⟩
      · exact nw_ q hq k (by omega) d h
      · omega
  · exact ⟨⟨⟨es, c1⟩, fun h => (by cases h)⟩, fun h => absurd h (by simp), fun _ => rfl⟩
theorem Safe.start (n : Nat) (nd : Nds) (h : ∀ q, q < n → ∀ k, cellAt (nd q) k = none) : Safe n ⟨nd, false, 0, []⟩ :=
  ⟨⟨[], fun q hq k c hc => (by rw [h q hq] at hc; cases hc), fun q q' hq hq' k c c' hc => (by rw [h q hq] at hc; cases hc), rfl, fun i hi => absurd hi (by simp), fun i hi => absurd hi (by simp)⟩, fun h => by cases h⟩
theorem Safe.same {n : Nat} {s : LS} {nd : Nds} (w : Safe n s) (h : ∀ q, q < n → ∀ k, cellAt (nd q) k = cellAt (s.nd q) k) : Safe n ⟨nd, s.op, s.ep, s.row⟩ := by
  obtain ⟨⟨es, c⟩, nw_⟩ := w
  exact ⟨⟨es, c.same h⟩, fun ho q hq k hk d hd => nw_ ho q hq k hk d (by rw [← h q hq]; exact hd)⟩
end Go.Proofs.YtilgpaibolollaaGreat.Pk
namespace Go.Proofs.YtilgpaibolollaaGreat.Pk
open Go Go.Proofs Go.Proofs.YtilgpaibolollaaGreat.Ab
set_option linter.unusedVariables false
set_option linter.unusedSimpArgs false
/-! ### What goes well -/
structure Good (n : Nat) (nd : Nds) (E : Int) (R : List (List Nat)) (B : Nat) : Prop where
  ep : ∀ q, q < n → epOf (nd q) ≤ E
  use_ : ∀ q, q < n → used (nd q) ≤ B
  cel : ∀ q, q < n → ∀ k c, cellAt (nd q) k = some c → ∃ i : Nat, ∃ h : i < R.length, k = (i : Int) ∧ c.bytes = R[i] ∧ c.epoch ≤ E
def Full (R : List (List Nat)) (l : Pays) : Prop := ∀ i : Nat, i < R.length → ∃ c, cellAt l (i : Int) = some c
theorem Good.rise {n : Nat} {nd : Nds} {E E' : Int} {R : List (List Nat)} {B B' : Nat} (w : Good n nd E R B) (h : E ≤ E') (hB : B ≤ B') : Good n nd E' R B' :=
  ⟨fun q hq => Int.le_trans (w.ep q hq) h, fun q hq => Nat.le_trans (w.use_ q hq) hB, fun q hq k c hc => by
    obtain ⟨i, h1, h2, h3, h4⟩ := w.cel q hq k c hc
    exact ⟨i, h1, h2, h3, by omega⟩⟩
theorem Good.start (n : Nat) (nd : Nds) (R : List (List Nat)) (h : ∀ q, q < n → (∀ k, cellAt (nd q) k = none) ∧ epOf (nd q) ≤ 0 ∧ used (nd q) ≤ 0) : Good n nd 0 R 0 :=
  ⟨fun q hq => (h q hq).2.1, fun q hq => (h q hq).2.2, fun q hq k c hc => by rw [(h q hq).1] at hc; cases hc⟩
/-- A write that each node that is reached answers OK. -/
theorem wrL_fine {room : Int} {n : Nat} {E at_ : Int} {b : List Nat} {rc : Nat → Bool} {nd : Nds} {B : Nat} (h1 : ∀ q, q < n → epOf (nd q) ≤ E) (h2 : 0 ≤ E ∧ E ≤ 1048576) (h3 : 0 ≤ at_ ∧ at_ < 4096) (h4 : b.length ≤ 2048)
    (h5 : ∀ q, q < n → ∀ c, cellAt (nd q) at_ = some c → c.epoch < E) (h6 : ∀ q, q < n → used (nd q) ≤ B) (h7 : (B : Int) + 60 + b.length ≤ room) :
    cntN (fineN (nw room E at_ b) rc nd) n = cntN rc n ∧ (∀ q, q < n → used ((wrL room n E at_ b rc nd).1 q) ≤ B + 54 + b.length) ∧
    (∀ q, q < n → epOf ((wrL room n E at_ b rc nd).1 q) ≤ E) ∧ (∀ q, q < n → rc q = true → ∃ c, cellAt ((wrL room n E at_ b rc nd).1 q) at_ = some c) := by
  have key : ∀ q, q < n → (nw room E at_ b (nd q)).2 = 0 ∧ used (nw room E at_ b (nd q)).1 ≤ used (nd q) + 54 + b.length := fun q hq =>
    nw_fine (h1 q hq) h2 h3 h4 (h5 q hq) (by have := h6 q hq; omega)
  refine ⟨cntN_congr fun q hq => ?_, fun q hq => ?_, fun q hq => ?_, fun q hq hr => ?_⟩
  · unfold fineN; rw [(key q hq).1]; simp
  · unfold wrL; simp only; rw [allN_n hq]
    have h8 := h6 q hq
    have h9 := (key q hq).2
    split <;> omega
  · unfold wrL; simp only; rw [allN_n hq]
    split
    · rw [(nw_post room E at_ b (nd q)).1]; exact h1 q hq
    · exact h1 q hq
  · unfold wrL; simp only; rw [allN_n hq, if_pos hr]
    obtain ⟨c, hc, _⟩ := (nw_post room E at_ b (nd q)).2.2.2 (key q hq).1
    exact ⟨c, hc⟩
theorem Wst.full {n : Nat} {ep at_ : Int} {b : List Nat} {nd nd' : Nds} (ws : Wst n ep at_ b nd nd') {q : Nat} (hq : q < n) {k : Int} {c : Cel} (hc : cellAt (nd q) k = some c) : ∃ c, cellAt (nd' q) k = some c := by
  by_cases hk : k = at_
  · subst hk
    rcases ws.at_ q hq with e | ⟨e, _⟩
    · exact ⟨c, by rw [e]; exact hc⟩
    · exact ⟨_, e⟩
  · exact ⟨c, by rw [ws.other q hq k hk]; exact hc⟩
theorem Good.write {room : Int} {n : Nat} {nd : Nds} {E : Int} {R : List (List Nat)} {B M : Nat} (w : Good n nd E R B) {at_ : Nat} {b : List Nat} {rc : Nat → Bool} (hE : 0 ≤ E ∧ E ≤ 1048576) (ha : at_ < R.length) (hb : R[at_] = b) (h4 : b.length ≤ M) (hM : M ≤ 2048) (h3 : at_ < 4096)
    (h5 : ∀ q, q < n → ∀ c, cellAt (nd q) (at_ : Int) = some c → c.epoch < E) (h7 : ((B + (60 + M) : Nat) : Int) ≤ room) :
    cntN (fineN (nw room E (at_ : Int) b) rc nd) n = cntN rc n ∧ Good n (wrL room n E (at_ : Int) b rc nd).1 E R (B + (54 + M)) ∧ (∀ q, q < n → rc q = true → ∃ c, cellAt ((wrL room n E (at_ : Int) b rc nd).1 q) (at_ : Int) = some c) := by
  obtain ⟨a1, a2, a3, a4⟩ := wrL_fine (room := room) (rc := rc) (at_ := (at_ : Int)) (b := b) w.ep hE ⟨by omega, by omega⟩ (by omega) h5 w.use_ (by omega)
  refine ⟨a1, ⟨a3, fun q hq => by have := a2 q hq; omega, fun q hq k c hc => ?_⟩, a4⟩
  rcases (wrL_st room n E (at_ : Int) b rc nd).step hq hc with h | ⟨e1, rfl⟩
  · exact w.cel q hq k c h
  · exact ⟨at_, ha, e1, hb.symm, Int.le_refl _⟩
theorem wRow_fine {room : Int} {n : Nat} {E : Int} {rc : Nat → Bool} {R : List (List Nat)} {M : Nat} (hM : M ≤ 2048) (hE : 0 ≤ E ∧ E ≤ 1048576) (hR : R.length ≤ 4096) (hb : ∀ b ∈ R, b.length ≤ M) (hq : n / 2 + 1 ≤ cntN rc n) :
    ∀ (r pre : List (List Nat)) (nd : Nds) (B : Nat), R = pre ++ r → Good n nd E R B → ((B + r.length * (54 + M) + (60 + M) : Nat) : Int) ≤ room →
      (∀ q, q < n → ∀ k c, cellAt (nd q) k = some c → (pre.length : Int) ≤ k → c.epoch < E) → (∀ q, q < n → rc q = true → ∀ i : Nat, i < pre.length → ∃ c, cellAt (nd q) (i : Int) = some c) →
      (wRow room n E rc r pre.length nd).2 = true ∧ Good n (wRow room n E rc r pre.length nd).1 E R (B + r.length * (54 + M)) ∧ (∀ q, q < n → rc q = true → Full R ((wRow room n E rc r pre.length nd).1 q)) ∧
      (∀ q, q < n → ∀ k c, cellAt (nd q) k = some c → ∃ c, cellAt ((wRow room n E rc r pre.length nd).1 q) k = some c)
  | [], pre, nd, B, hr, w, hB, lo, fu => by
    rw [List.append_nil] at hr
    subst hr
    exact ⟨rfl, w.rise (Int.le_refl _) (Nat.le_add_right _ _), fu, fun q hq k c hc => ⟨c, hc⟩⟩
  | b :: r, pre, nd, B, hr, w, hB, lo, fu => by
    have hlt : pre.length < R.length := by rw [hr]; simp
    have hbb : R[pre.length] = b := by
      subst hr
      rw [List.getElem_append_right (Nat.le_refl _)]
      simp
    rw [List.length_cons, Nat.succ_mul] at hB
    generalize hX : r.length * (54 + M) = X at hB
    obtain ⟨a1, a2, a3⟩ := w.write (room := room) (rc := rc) hE hlt hbb (hb b (by rw [hr]; simp)) hM (by omega) (fun q hq c hc => lo q hq _ c hc (Int.le_refl _)) (by omega)
    have ws := wrL_st room n E (pre.length : Nat) b rc nd
    have hok : (wrL room n E (pre.length : Nat) b rc nd).2 = true := by
      unfold wrL
      simp only [decide_eq_true_eq]
      rw [a1]; exact hq
    have hl : (pre ++ [b]).length = pre.length + 1 := by simp
    obtain ⟨c1, c2, c3, c4⟩ := wRow_fine (room := room) (rc := rc) hM hE hR hb hq r (pre ++ [b]) (wrL room n E (pre.length : Nat) b rc nd).1 (B + (54 + M)) (by rw [hr]; simp) a2 (by rw [hX]; omega)
      (fun q hq k c hc hk => by
        rw [hl] at hk
        rcases ws.step hq hc with h | ⟨e, rfl⟩
        · exact lo q hq k c h (by omega)
        · omega)
      (fun q hq hr i hi => by
        rw [hl] at hi
        by_cases hi2 : i < pre.length
        · obtain ⟨c, hc⟩ := fu q hq hr i hi2
          exact ws.full hq hc
        · have : i = pre.length := by omega
          subst this
          exact a3 q hq hr)
    unfold wRow
    rw [if_pos hok]
    rw [hl] at c1 c2 c3 c4
    exact ⟨c1, c2.rise (Int.le_refl _) (by rw [List.length_cons, Nat.succ_mul, hX]; omega), c3, fun q hq k c hc => by
      obtain ⟨d, hd⟩ := ws.full hq hc
      exact c4 q hq k d hd⟩
/-- Open, where a quorum is reached and one of it has all. -/
theorem Good.open_ {room : Int} {n : Nat} {rc : Nat → Bool} {s s' : LS} {e : Int} {R : List (List Nat)} {B M : Nat} (w : Good n s.nd s.ep R B) (h : OpenR room n rc s s' e) (hM : M ≤ 2048) (hE : 0 ≤ s.ep ∧ s.ep < 1048576) (hR : R.length ≤ 4096) (hb : ∀ b ∈ R, b.length ≤ M)
    (hq : n / 2 + 1 ≤ cntN rc n) (hf : R = [] ∨ ∃ q, q < n ∧ rc q = true ∧ Full R (s.nd q)) (hB : ((B + 54 + R.length * (54 + M) + (60 + M) : Nat) : Int) ≤ room) :
    e = 0 ∧ s'.row = R ∧ s'.op = true ∧ s'.ep = s.ep + 1 ∧ Good n s'.nd (s.ep + 1) R (B + 54 + R.length * (54 + M)) ∧ (∀ q, q < n → rc q = true → Full R (s'.nd q)) ∧ (∀ q, q < n → Full R (s.nd q) → Full R (s'.nd q)) := by
  have key : ∀ q, q < n → (nseal room (s.ep + 1) (s.nd q)).2 = 0 ∧ used (nseal room (s.ep + 1) (s.nd q)).1 ≤ used (s.nd q) + 54 ∧ epOf (nseal room (s.ep + 1) (s.nd q)).1 = s.ep + 1 := fun q hq =>
    nseal_fine (by have := w.ep q hq; omega) ⟨by omega, by omega⟩ (by have := w.use_ q hq; generalize R.length * (54 + M) = X at hB; omega)
  have hcnt : cntN (fineN (nseal room (s.ep + 1)) rc s.nd) n = cntN rc n := cntN_congr fun q hq => by unfold fineN; rw [(key q hq).1]; simp
  have same : ∀ q, q < n → ∀ k, cellAt (allN (nseal room (s.ep + 1)) rc n s.nd q) k = cellAt (s.nd q) k := fun q hq k => by
    rw [allN_n hq]
    split
    · exact (nseal_post room (s.ep + 1) (s.nd q)).1 k
    · rfl
  have w1 : Good n (allN (nseal room (s.ep + 1)) rc n s.nd) (s.ep + 1) R (B + 54) := by
    refine ⟨fun q hq => ?_, fun q hq => ?_, fun q hq k c hc => ?_⟩
    · rw [allN_n hq]
      split
      · rw [(key q hq).2.2]; exact Int.le_refl _
      · have := w.ep q hq; omega
    · rw [allN_n hq]
      have := w.use_ q hq
      have := (key q hq).2.1
      split <;> omega
    · rw [same q hq] at hc
      obtain ⟨i, h1, h2, h3, h4⟩ := w.cel q hq k c hc
      exact ⟨i, h1, h2, h3, by omega⟩
  unfold OpenR at h
  rw [if_pos (by rw [hcnt]; exact hq)] at h
  obtain ⟨row, ri, h⟩ := h
  have hv : ∀ (k : Int) (c : Cel), c ∈ votes (fineN (nseal room (s.ep + 1)) rc s.nd) s.nd k n → ∃ i : Nat, ∃ h : i < R.length, k = (i : Int) ∧ c.bytes = R[i] := fun k c hc => by
    obtain ⟨q, h1, _, h3⟩ := votes_mem.1 hc
    obtain ⟨i, x1, x2, x3, _⟩ := w.cel q h1 k c h3
    exact ⟨i, x1, x2, x3⟩
  have hrow : row = R := by
    have hle : ∀ i : Nat, i < R.length → ∃ c, c ∈ votes (fineN (nseal room (s.ep + 1)) rc s.nd) s.nd (i : Int) n := fun i hi => by
      rcases hf with rfl | ⟨q, h1, h2, h3⟩
      · cases hi
      · obtain ⟨c, hc⟩ := h3 i hi
        exact ⟨c, votes_mem.2 ⟨q, h1, by unfold fineN; rw [h2, (key q h1).1]; rfl, hc⟩⟩
    have l1 : R.length ≤ row.length := by
      rcases Nat.lt_or_ge row.length R.length with h | h
      · obtain ⟨c, hc⟩ := hle row.length h
        rw [ri.no row.length (Nat.le_refl _)] at hc
        cases hc
      · exact h
    have l2 : row.length ≤ R.length := by
      rcases ri.top with h | h
      · rw [h]; simp
      · obtain ⟨d, hd⟩ := List.exists_mem_of_ne_nil _ h
        obtain ⟨i, h1, h2, _⟩ := hv _ d hd
        omega
    refine List.ext_getElem (by omega) fun i h1 h2 => ?_
    obtain ⟨c, hc⟩ := hle i h2
    obtain ⟨x, hx⟩ := bestOf_ne (List.ne_nil_of_mem hc)
    have hri := ri.is i h1
    simp only [hx] at hri
    rw [hri]
    obtain ⟨j, y1, y2, y3⟩ := hv _ x (bestOf_mem hx)
    have : j = i := by omega
    subst this
    exact y3
  subst hrow
  obtain ⟨c1, c2, c3, c4⟩ := wRow_fine (room := room) (rc := rc) (n := n) (E := s.ep + 1) hM ⟨by omega, by omega⟩ hR hb hq row [] (allN (nseal room (s.ep + 1)) rc n s.nd) (B + 54) rfl w1 hB
    (fun q hq k c hc _ => by
      rw [same q hq] at hc
      obtain ⟨i, h1, h2, h3, h4⟩ := w.cel q hq k c hc
      omega)
    (fun q hq hr i hi => absurd hi (by simp))
  simp only [List.length_nil] at c1 c2 c3 c4
  rw [if_pos c1] at h
  obtain ⟨rfl, rfl⟩ := h
  exact ⟨rfl, rfl, rfl, rfl, c2, c3, fun q hq hfu i hi => by
    obtain ⟨c, hc⟩ := hfu i hi
    exact c4 q hq _ c (by rw [same q hq]; exact hc)⟩
/-- Append to an open log. -/
theorem Good.app {room : Int} {n : Nat} {rc : Nat → Bool} {s : LS} {b : List Nat} {B M : Nat} (w : Good n s.nd s.ep s.row B) (ho : s.op = true) (hM : M ≤ 2048) (hE : 0 ≤ s.ep ∧ s.ep ≤ 1048576) (h0 : b.length ≠ 0) (h1 : b.length ≤ M) (hl : s.row.length < 4096) (hB : ((B + (60 + M) : Nat) : Int) ≤ room) :
    Good n (appL room n rc b s).1.nd s.ep (s.row ++ [b]) (B + (54 + M)) ∧ (∀ q, q < n → rc q = true → Full s.row (s.nd q) → Full (s.row ++ [b]) ((appL room n rc b s).1.nd q)) ∧ (appL room n rc b s).1.ep = s.ep ∧
    if n / 2 + 1 ≤ cntN rc n then (appL room n rc b s).2 = (s.row.length, 0) ∧ (appL room n rc b s).1.row = s.row ++ [b] ∧ (appL room n rc b s).1.op = true
    else (appL room n rc b s).2 = (0, 8) ∧ (appL room n rc b s).1.row = s.row ∧ (appL room n rc b s).1.op = false := by
  have w2 : Good n s.nd s.ep (s.row ++ [b]) B := ⟨w.ep, w.use_, fun q hq k c hc => by
    obtain ⟨i, h1, h2, h3, h4⟩ := w.cel q hq k c hc
    exact ⟨i, by rw [List.length_append]; omega, h2, by rw [List.getElem_append_left h1]; exact h3, h4⟩⟩
  have hno : ∀ q, q < n → ∀ c, cellAt (s.nd q) (s.row.length : Nat) = some c → c.epoch < s.ep := fun q hq c hc => by
    obtain ⟨i, h1, h2, h3, h4⟩ := w.cel q hq _ c hc
    omega
  obtain ⟨a1, a2, a3⟩ := w2.write (room := room) (rc := rc) (at_ := s.row.length) (b := b) hE (by simp) (by rw [List.getElem_append_right (Nat.le_refl _)]; simp) h1 hM hl hno hB
  have ws := wrL_st room n s.ep (s.row.length : Nat) b rc s.nd
  have fu : ∀ q, q < n → rc q = true → Full s.row (s.nd q) → Full (s.row ++ [b]) ((wrL room n s.ep (s.row.length : Nat) b rc s.nd).1 q) := fun q hq hr hf i hi => by
    by_cases hi2 : i < s.row.length
    · obtain ⟨c, hc⟩ := hf i hi2
      exact ws.full hq hc
    · have : i = s.row.length := by rw [List.length_append] at hi; simp at hi; omega
      subst this
      exact a3 q hq hr
  unfold appL
  rw [if_neg (by rw [ho]; decide), if_neg (by omega), if_neg (by omega)]
  have hok : (wrL room n s.ep (s.row.length : Nat) b rc s.nd).2 = decide (n / 2 + 1 ≤ cntN rc n) := by unfold wrL; simp only; rw [a1]
  by_cases hq : n / 2 + 1 ≤ cntN rc n
  · rw [if_pos (by rw [hok]; simpa using hq), if_pos hq]
    exact ⟨a2, fu, rfl, rfl, rfl, rfl⟩
  · rw [if_neg (by rw [hok]; simpa using hq), if_neg hq]
    exact ⟨a2, fu, rfl, rfl, rfl, rfl⟩
theorem app_shut {room : Int} {n : Nat} {rc : Nat → Bool} {s : LS} {b : List Nat} (h : s.op = false) : appL room n rc b s = (s, 0, 8) := by
  unfold appL; rw [if_pos h]
theorem app_range {room : Int} {n : Nat} {rc : Nat → Bool} {s : LS} {b : List Nat} (h : s.op = true) (hb : b.length = 0 ∨ 2048 < b.length) : appL room n rc b s = (s, 0, 2) := by
  unfold appL; rw [if_neg (by rw [h]; decide), if_pos hb]
end Go.Proofs.YtilgpaibolollaaGreat.Pk

namespace Go.Proofs.YtilgpaibolollaaGreat.Pk
open Go Go.Proofs Go.Proofs.YtilgpaibolollaaGreat.Ab
set_option maxRecDepth 10000
set_option linter.unusedVariables false
set_option linter.unusedSimpArgs false
/-! ### The counter -/
theorem adO : adOk Tryz.prog 135 := ⟨_, Tryz.func135, by kernel_rfl, by kernel_rfl, by kernel_rfl, by kernel_rfl, 218, 2, by kernel_rfl, by decide⟩
theorem ldO : ldOk Tryz.prog 136 := ⟨_, Tryz.func136, by kernel_rfl, by kernel_rfl, by kernel_rfl, by kernel_rfl, 218, by kernel_rfl⟩
set_option maxRecDepth 10000 in
theorem tAdd (h : AHeap) (i : Nat) (x y : Int) (g : h.get i = .cells [.int .i64 x] 198 none) :
    SCalls Tryz.prog 118 [.ptr i 0, .int .i64 y] h (fun r h' => r = .int .i64 (IntKind.i64.wrap (x + y)) ∧ h' = h.set i (.cells [.int .i64 (IntKind.i64.wrap (x + y))] 198 none)) := by
  refine SCalls.enterI (c := _) Tryz.func118 rfl (by kernel_rfl) (by simp) ?_
  have ha : aAd h [.ptr i 0, .int .i64 y] = some (.int .i64 (IntKind.i64.wrap (x + y)), h.set i (.cells [.int .i64 (IntKind.i64.wrap (x + y))] 198 none)) := by
    unfold aAd; simp only [g]; rfl
  simp only [bW, Nat.reduceEqDiff, reduceCtorEq, ft_198_2]
  refine callI_ad ncal135 adO ha ?_
  simp only [bW, Nat.reduceEqDiff, retA_ret, Tryz.results118, resultsA_1]
  exact hid_mk ⟨rfl, rfl⟩
set_option maxRecDepth 10000 in
theorem tLoad64 (h : AHeap) (i : Nat) (x : Int) (g : h.get i = .cells [.int .i64 x] 198 none) : Pure Tryz.prog 119 [.ptr i 0] h (.int .i64 x) := by
  refine SCalls.enterI (c := _) Tryz.func119 rfl (by kernel_rfl) (by simp) ?_
  have ha : aLd h [.ptr i 0] = some (.int .i64 x) := by unfold aLd; simp only [g]; rfl
  simp only [bW, Nat.reduceEqDiff, reduceCtorEq, ft_198_2]
  refine callI_ld ncal136 ldO ha ?_
  simp only [bW, Nat.reduceEqDiff, retA_ret, Tryz.results119, resultsA_1]
  exact hid_mk ⟨rfl, rfl⟩
/-! ### A node among others -/
structure NR where
  a : Nat
  m : Nat
  k : Nat
  j : Nat
  i : Nat
  v : V
  pv : V
  torn : Int
def NP (r : NR) : Nat → Prop := NodP r.a r.m r.k r.j r.i r.v r.pv
structure NdB (h : AHeap) (room : Int) (r : NR) (l : Pays) : Prop where
  nd : IsNode h r.a r.m r.k r.j r.i room (l.flatMap frame) ((l.flatMap frame).length : Nat) r.v r.pv l r.torn (redoL l)
  ok : NOk (redoL l)
  pl : ∀ p ∈ l, p.length ≤ 4096 ∧ ∀ x ∈ p, x < 256
theorem NdB.keep {h h' : AHeap} {room : Int} {r : NR} {l : Pays} (d : NdB h room r l) {own : Nat → Prop} (hk : Keep h h' own) (hne : ∀ q, NP r q → ¬ own q) : NdB h' room r l := ⟨d.nd.keep hk hne, d.ok, d.pl⟩
theorem NdB.lt {h : AHeap} {room : Int} {r : NR} {l : Pays} (d : NdB h room r l) : ∀ q, NP r q → q < h.n := d.nd.parts_lt
/-- What a node is after a call: its blocks are its own or new, and nothing else is turned. -/
def NStep (h h' : AHeap) (r r' : NR) : Prop := r'.a = r.a ∧ r'.i = r.i ∧ Keep h h' (NP r) ∧ ∀ q, NP r' q → NP r q ∨ h.n ≤ q
theorem NStep.of {h h' : AHeap} {r : NR} (k : Keep h h' none_) : NStep h h' r r := ⟨rfl, rfl, k.mono fun _ h => h.elim, fun _ h => .inl h⟩
theorem NdB.nd0 {h : AHeap} {room : Int} {r : NR} {l : Pays} (d : NdB h room r l) : Nd ⟨0, fun _ => .dead, h.glob⟩ h r.a r.m r.k r.j r.i room r.v r.pv l r.torn :=
  ⟨d.nd, d.ok, d.pl, fun _ _ => Nat.zero_le _, ⟨Nat.zero_le _, fun _ hh => absurd hh (Nat.not_lt_zero _), rfl⟩⟩
theorem NdB.step {h h' : AHeap} {room : Int} {r : NR} {v' pv' : V} {l : Pays} {x : Act} (d : NdB h room r l)
    (n1 : IsNode h' r.a r.m r.k r.j r.i room (l.flatMap frame ++ frame (payN x)) ((l.flatMap frame ++ frame (payN x)).length : Nat) v' pv' (l ++ [payN x]) r.torn (appS (redoL l) x)) (n2 : NewP h r.i r.v v') (n3 : idOf pv' = idOf r.pv ∨ ∀ y, idOf pv' = some y → h.n ≤ y) (n4 : Keep h h' (NodP r.a r.m r.k r.j r.i r.v r.pv))
    (hx : redo (redoL l) (payN x) = appS (redoL l) x) (hw : NOk (appS (redoL l) x)) (hp : (payN x).length ≤ 4096 ∧ ∀ y ∈ payN x, y < 256) : NdB h' room { r with v := v', pv := pv' } (l ++ [payN x]) ∧ NStep h h' r { r with v := v', pv := pv' } := by
  have hR : redoL (l ++ [payN x]) = appS (redoL l) x := by rw [redoL_snoc, hx]
  have hF : (l ++ [payN x]).flatMap frame = l.flatMap frame ++ frame (payN x) := by simp
  refine ⟨⟨by rw [hR, hF]; exact n1, by rw [hR]; exact hw, fun p hp' => ?_⟩, rfl, rfl, n4, fun q hq => ?_⟩
  · rcases List.mem_append.1 hp' with h1 | h1
    · exact d.pl p h1
    · simp at h1; subst h1; exact hp
  · rcases hq with hq | hq | hq | hq | hq | hq | hq
    · exact .inl (.inl hq)
    · exact .inl (.inr (.inl hq))
    · exact .inl (.inr (.inr (.inl hq)))
    · exact .inl (.inr (.inr (.inr (.inl hq))))
    · exact .inl (.inr (.inr (.inr (.inr (.inl hq)))))
    · rcases n2 with n2 | n2
      · exact .inl (.inr (.inr (.inr (.inr (.inr (.inl (n2 ▸ hq)))))))
      · exact .inr (n2 q hq)
    · rcases n3 with n3 | n3
      · exact .inl (.inr (.inr (.inr (.inr (.inr (.inr (n3 ▸ hq)))))))
      · exact .inr (n3 q hq)
theorem nbWrite {h : AHeap} {room : Int} {r : NR} {l : Pays} (d : NdB h room r l) (ep at_ : Int) (b : List Nat) (hb : ∀ n ∈ b, n < 256) (hbl : b.length ≤ 2 ^ 50) :
    SCalls Tryz.prog 10 [.ptr r.a 0, .int .i64 ep, .int .i64 at_, .imm b.length (bytesV b)] h (fun x h' => x = .int .i64 (nw room ep at_ b l).2 ∧ ∃ r', NdB h' room r' (nw room ep at_ b l).1 ∧ NStep h h' r r') := by
  refine (nWrite h r.a r.m r.k r.j r.i room _ r.torn _ r.v r.pv l (redoL l) d.nd (by have := d.nd0.len; omega) ep at_ b hb hbl (fun c hc => (kget_ok d.ok hc).2.1)).mono fun x h' hp => ?_
  unfold nw
  cases hw : wrI (redoL l) ep at_ b with
  | some e =>
    rw [hw] at hp
    exact ⟨hp.1, r, ⟨hp.2.1, d.ok, d.pl⟩, NStep.of hp.2.2⟩
  | none =>
    rw [hw] at hp
    obtain ⟨e, hp⟩ := hp
    have hm := wr_ok hw
    obtain ⟨r1, r2, r3⟩ := wr_rng hm
    by_cases hP : putBad room (l.flatMap frame) (payN ⟨1, ep, at_, b⟩) = 0
    · rw [if_pos hP] at hp ⊢
      obtain ⟨v', pv', n1, n2, n3, n4⟩ := hp
      refine ⟨by rw [e, hP], _, d.step n1 n2 n3 n4 ?_ (d.ok.write ep at_ b hb hm) (pay_ok _ ⟨by simp only; omega, by simp only; omega, by simp only; omega, r3⟩ hb)⟩
      obtain ⟨e1, rfl⟩ : ∃ q : Nat, ep = q := ⟨ep.toNat, by omega⟩
      obtain ⟨e2, rfl⟩ : ∃ q : Nat, at_ = q := ⟨at_.toNat, by omega⟩
      exact redo_write _ e1 e2 b hw
    · rw [if_neg hP] at hp ⊢
      exact ⟨e, r, ⟨hp.1, d.ok, d.pl⟩, NStep.of hp.2⟩
theorem nbSeal {h : AHeap} {room : Int} {r : NR} {l : Pays} (d : NdB h room r l) (ep : Int) :
    SCalls Tryz.prog 15 [.ptr r.a 0, .int .i64 ep] h (fun x h' => ∃ rv, x = .tuple [rv, .int .i64 (nseal room ep l).2] ∧ ((nseal room ep l).2 ≠ 0 → rv = .snil) ∧ ∃ r', NdB h' room r' (nseal room ep l).1 ∧ NStep h h' r r' ∧
      ((nseal room ep l).2 = 0 → ∃ out : List Cel, out.Perm ((redoL l).2.1.map (·.2.2)) ∧ (out.Pairwise fun a b => ¬ b.at_ < a.at_) ∧ Own h' 48 3 rv (out.flatMap celE) ∧ (∀ q, idOf rv = some q → h.n ≤ q ∧ ¬ NP r' q))) := by
  have hll := d.nd0.len
  have hrl := redoL_len l (0, [], 0)
  refine (nSeal h r.a r.m r.k r.j r.i room _ r.torn _ r.v r.pv l (redoL l) d.nd d.ok (by omega) (by unfold redoL; simp only [List.length_nil] at hrl; omega) ep).mono fun x h' hp => ?_
  unfold nseal
  cases hs : selI (redoL l) ep with
  | some e =>
    rw [hs] at hp
    refine ⟨.snil, hp.1, fun _ => rfl, r, ⟨hp.2.1, d.ok, d.pl⟩, NStep.of hp.2.2, fun he => ?_⟩
    simp only at he
    subst he
    unfold selI at hs
    split at hs
    · cases hs
    split at hs <;> cases hs
  | none =>
    rw [hs] at hp
    obtain ⟨hm, hlt⟩ := sel_rng hs
    by_cases hP : putBad room (l.flatMap frame) (payN (selA ep)) = 0
    · simp only at hp ⊢
      rw [if_pos hP] at hp ⊢
      obtain ⟨v', pv', rv, out, e, n1, o1, o2, o3, o4, n2, n3, n4⟩ := hp
      have st := d.step n1 n2 n3 n4 (by
        obtain ⟨e1, rfl⟩ : ∃ q : Nat, ep = q := ⟨ep.toNat, by omega⟩
        exact redo_seal _ e1 (by omega) hlt) (d.ok.sealed ep) (pay_ok _ ⟨by simp only [selA]; omega, by simp only [selA]; omega, by simp only [selA]; omega, by simp [selA]⟩ (by simp [selA]))
      exact ⟨rv, e, fun hh => absurd rfl hh, _, st.1, st.2, fun _ => ⟨out, o1, o2, o3, o4⟩⟩
    · simp only at hp ⊢
      rw [if_neg hP] at hp ⊢
      exact ⟨.snil, hp.1, fun _ => rfl, r, ⟨hp.2.1, d.ok, d.pl⟩, NStep.of hp.2.2, fun he => absurd he hP⟩
/-! ### A node opened on its disk -/
theorem dLose (h : AHeap) (p : V) (room : Int) (bs : List Int) (safe : Int) (i : Nat) (v : V) (d : IsDisk h p room bs safe i v) :
    SCalls Tryz.prog 77 [p] h (fun r h' => ∃ v', IsDisk h' p room [] 0 i v' ∧ idOf v' = idOf v ∧ Keep h h' (Parts i v)) := by
  obtain rfl := d.p
  refine SCalls.enterI (c := _) Tryz.func77 rfl (by kernel_rfl) (by simp) ?_
  simp only [bW, Nat.reduceEqDiff, reduceCtorEq, kt_25]
  refine callI_of cal59 (dKeep h _ room bs safe i v d 0 (by omega)) fun r h1 ⟨v1, e1, e2, e3⟩ => ?_
  have hm : min safe ((0 : Nat) : Int) = 0 := by have := d.safe0; omega
  rw [hm, List.take_zero] at e1
  simp only [bW, retA_normal, Tryz.results77, resultsA_0]
  exact hid_mk ⟨v1, e1, e2, e3⟩
theorem nbOpen {h : AHeap} {room safe : Int} {i : Nat} {v : V} {l : Pays} (hd : IsDisk h (.ptr i 0) room (nI (l.flatMap frame)) safe i v) (ok : NOk (redoL l)) (pl : ∀ p ∈ l, p.length ≤ 4096 ∧ ∀ x ∈ p, x < 256) :
    SCalls Tryz.prog 8 [.ptr i 0] h (fun x h' => ∃ r', x = .ptr r'.a 0 ∧ NdB h' room r' l ∧ r'.i = i ∧ Keep h h' (Parts i v) ∧ ∀ q, NP r' q → Parts i v q ∨ h.n ≤ q) := by
  have hb : ∀ x ∈ l.flatMap frame, x < 256 := fun x hx => by
    obtain ⟨p, hp, hx⟩ := List.mem_flatMap.1 hx
    have he := enc_lt p.length p.length (Nat.le_refl _)
    unfold frame encBytes at hx
    rcases List.mem_append.1 hx with hx | hx
    · rcases List.mem_append.1 hx with hx | hx
      · exact he x hx
      · exact (pl p hp).2 x hx
    · simp only [sumL, List.mem_cons, List.not_mem_nil, or_false] at hx
      rcases hx with rfl | rfl | rfl | rfl <;> exact sumB_lt _ _
  have hs := scan_all l (fun p hp => (pl p hp).1)
  refine (nOpen h i room (l.flatMap frame) hb _ v hd).mono fun x h' ⟨a', m', k', j', v2, pv2, e, n1, i1, ha, hm, hk', hj, hp, kp⟩ => ?_
  rw [hs] at n1
  simp only [List.take_length, Int.sub_self] at n1
  refine ⟨⟨a', m', k', j', i, v2, pv2, 0⟩, e, ⟨n1, ok, pl⟩, rfl, kp, fun q hq => ?_⟩
  rcases hq with hq | hq | hq | hq | hq | hq | hq
  · right; simp only at hq; omega
  · right; simp only at hq; omega
  · right; simp only at hq; omega
  · right; simp only at hq; omega
  · exact .inl (.inl hq)
  · exact .inl (.inr (by rw [← i1]; exact hq))
  · exact .inr (hp q hq)
theorem NdB.disk {h : AHeap} {room : Int} {r : NR} {l : Pays} (d : NdB h room r l) : IsDisk h (.ptr r.i 0) room (nI (l.flatMap frame)) ((l.flatMap frame).length : Nat) r.i r.v := d.nd.seg.disk
theorem Parts.np {r : NR} {q : Nat} (h : Parts r.i r.v q) : NP r q := by
  rcases h with h | h
  · exact .inr (.inr (.inr (.inr (.inl h))))
  · exact .inr (.inr (.inr (.inr (.inr (.inl h)))))
theorem nbCrash {h : AHeap} {room : Int} {r : NR} {l : Pays} (d : NdB h room r l) (keep turn : Int) :
    SCalls Tryz.prog 18 [.ptr r.i 0, .int .i64 keep, .int .i64 turn] h (fun x h' => ∃ v' safe, IsDisk h' (.ptr r.i 0) room (nI (l.flatMap frame)) safe r.i v' ∧ idOf v' = idOf r.v ∧ Keep h h' (NP r)) := by
  have hl := nI_len (l.flatMap frame)
  refine (dCrash h _ room _ _ r.i r.v d.disk keep turn).mono fun x h' ⟨v', e1, e2, e3⟩ => ?_
  rw [← hl, crashed_safe, hl] at e1
  exact ⟨v', _, e1, e2, e3.mono fun _ => Parts.np⟩
theorem nbLose {h : AHeap} {room : Int} {r : NR} {l : Pays} (d : NdB h room r l) :
    SCalls Tryz.prog 77 [.ptr r.i 0] h (fun x h' => ∃ v' safe, IsDisk h' (.ptr r.i 0) room (nI (([] : Pays).flatMap frame)) safe r.i v' ∧ idOf v' = idOf r.v ∧ Keep h h' (NP r)) := by
  refine (dLose h _ room _ _ r.i r.v d.disk).mono fun x h' ⟨v', e1, e2, e3⟩ => ?_
  exact ⟨v', _, e1, e2, e3.mono fun _ => Parts.np⟩
end Go.Proofs.YtilgpaibolollaaGreat.Pk
namespace Go.Proofs.YtilgpaibolollaaGreat.Pk
open Go Go.Proofs Go.Proofs.YtilgpaibolollaaGreat.Ab
set_option maxRecDepth 10000
set_option linter.unusedVariables false
set_option linter.unusedSimpArgs false
/-! ### A node and the reference's, call by call -/
def yE (room : Int) (l : Pays) (t : Int) : List V := rnE room (l.flatMap frame) [] t (redoRL l)
theorem yE_snoc (room : Int) (l : Pays) (p : List Nat) (t : Int) : rnE room (l.flatMap frame ++ frame p) [] t (redoR (redoRL l) p) = yE room (l ++ [p]) t := by
  unfold yE
  rw [redoRL_snoc, List.flatMap_append]
  simp
theorem NdB.lens {h : AHeap} {room : Int} {r : NR} {l : Pays} (d : NdB h room r l) : room ≤ 1048576 ∧ ((l.flatMap frame).length : Int) ≤ room ∧ (redoRL l).2.length ≤ 1048576 ∧ (∀ x ∈ l.flatMap frame, x < 256) ∧ (∀ c ∈ (redoRL l).2, (0 ≤ c.at_ ∧ c.at_ < 4096) ∧ (∀ x ∈ c.bytes, x < 256) ∧ c.bytes.length ≤ 2048) := by
  have h1 := d.disk.len
  have h2 := d.disk.most
  have h3 := frames_len l
  have h4 := redoRL_len l
  rw [nI_len] at h1
  refine ⟨h2, h1, by omega, fun x hx => ?_, cel_ok d.ok (like_all l)⟩
  obtain ⟨p, hp, hx⟩ := List.mem_flatMap.1 hx
  have he := enc_lt p.length p.length (Nat.le_refl _)
  unfold frame encBytes at hx
  rcases List.mem_append.1 hx with hx | hx
  · rcases List.mem_append.1 hx with hx | hx
    · exact he x hx
    · exact (d.pl p hp).2 x hx
  · simp only [sumL, List.mem_cons, List.not_mem_nil, or_false] at hx
    rcases hx with rfl | rfl | rfl | rfl <;> exact sumB_lt _ _
def selV (room ep : Int) (l : Pays) : V := if (nseal room ep l).2 = 0 then .imm (redoRL (nseal room ep l).1).2.length ((redoRL (nseal room ep l).1).2.flatMap celE) else .snil
theorem yCrash (room : Int) (s : List Nat) (keep turn : Int) (hs : s.length ≤ 2 ^ 29) (h : AHeap) :
    Pure Tryz.prog 19 [.agg (xE room (nI s) (nI [])), .int .i64 keep, .int .i64 turn] h (.agg (xE room (nI s) (nI []))) := by
  have := rCrash room (nI s) [] keep turn h (by rw [nI_len]; simp; omega)
  have e : leftM [] keep turn = [] := by unfold leftM; rw [List.take_nil]; exact torn_no (by simp)
  rw [e, List.append_nil] at this
  exact this
end Go.Proofs.YtilgpaibolollaaGreat.Pk
namespace Go.Proofs.YtilgpaibolollaaGreat.Pk
open Go Go.Proofs Go.Proofs.YtilgpaibolollaaGreat.Ab
set_option maxRecDepth 10000
set_option linter.unusedVariables false
set_option linter.unusedSimpArgs false
/-! ### The nodes of a log -/
def ptrs (f : Nat → Nat) (n : Nat) : List V := (List.range n).map fun q => V.ptr (f q) 0
theorem ptrs_len (f : Nat → Nat) (n : Nat) : (ptrs f n).length = n := by simp [ptrs]
theorem ptrs_ix {f : Nat → Nat} {n k : Nat} (hk : k < (ptrs f n).length) : (ptrs f n)[k] = V.ptr (f k) 0 := by simp [ptrs]
theorem ptrs_congr {f g : Nat → Nat} {n : Nat} (h : ∀ q, q < n → f q = g q) : ptrs f n = ptrs g n := by
  unfold ptrs
  refine List.map_congr_left fun q hq => ?_
  rw [h q (by simpa using hq)]
structure NodesS (h : AHeap) (room : Int) (n : Nat) (rs : Nat → NR) (nd : Nds) (ow : Nat → Nat) : Prop where
  nd : ∀ q, q < n → NdB h room (rs q) (nd q)
  ond : ∀ q, q < n → ∀ x, NP (rs q) x → ow x = q + 5
  old : ∀ x, ow x ≠ 0 → x < h.n
open Classical in
noncomputable def owN (ow : Nat → Nat) (n0 : Nat) (P : Nat → Prop) (t : Nat) : Nat → Nat := fun x => if x < n0 then ow x else if P x then t else 0
theorem owN_lt {ow : Nat → Nat} {n0 : Nat} {P : Nat → Prop} {t x : Nat} (h : x < n0) : owN ow n0 P t x = ow x := by unfold owN; rw [if_pos h]
theorem owN_new {ow : Nat → Nat} {n0 : Nat} {P : Nat → Prop} {t x : Nat} (h : n0 ≤ x) (hp : P x) : owN ow n0 P t x = t := by unfold owN; rw [if_neg (by omega), if_pos hp]
theorem owN_old {ow : Nat → Nat} {n0 n1 : Nat} {P : Nat → Prop} {t : Nat} (hn : n0 ≤ n1) (hp : ∀ x, P x → x < n1) : ∀ x, owN ow n0 P t x ≠ 0 → x < n1 := fun x hx => by
  unfold owN at hx
  split at hx
  · omega
  · split at hx
    · rename_i hh; exact hp x hh
    · exact absurd rfl hx
theorem NodesS.on {h h' : AHeap} {room : Int} {n : Nat} {rs : Nat → NR} {nd : Nds} {ow : Nat → Nat} (w : NodesS h room n rs nd ow) {own : Nat → Prop} (k : Keep h h' own) (hn : ∀ x, own x → ow x < 5) : NodesS h' room n rs nd ow :=
  ⟨fun q hq => (w.nd q hq).keep k fun x hx hh => by have := w.ond q hq x hx; have := hn x hh; omega, w.ond, fun x hx => Nat.lt_of_lt_of_le (w.old x hx) k.n⟩
def updN {α : Type} (f : Nat → α) (q : Nat) (a : α) : Nat → α := fun x => if x = q then a else f x
theorem updN_same {α : Type} {f : Nat → α} {q : Nat} {a : α} : updN f q a q = a := by unfold updN; rw [if_pos rfl]
theorem updN_ne {α : Type} {f : Nat → α} {q x : Nat} {a : α} (h : x ≠ q) : updN f q a x = f x := by unfold updN; rw [if_neg h]
theorem NodesS.step {h h' : AHeap} {room : Int} {n : Nat} {rs : Nat → NR} {nd : Nds} {ow : Nat → Nat} (w : NodesS h room n rs nd ow) {q : Nat} (hq : q < n) {r' : NR} {l' : Pays} (d : NdB h' room r' l') (hk : Keep h h' (NP (rs q))) (hx : ∀ x, NP r' x → NP (rs q) x ∨ h.n ≤ x) :
    NodesS h' room n (updN rs q r') (updN nd q l') (owN ow h.n (NP r') (q + 5)) ∧ Keep h h' (fun x => 5 ≤ ow x) := by
  refine ⟨⟨fun p hp => ?_, fun p hp x hx2 => ?_, owN_old hk.n d.lt⟩, hk.mono fun x hh => by have := w.ond q hq x hh; omega⟩
  · by_cases e : p = q
    · subst e; rw [updN_same, updN_same]; exact d
    · rw [updN_ne e, updN_ne e]
      exact (w.nd p hp).keep hk fun x h1 h2 => by have := w.ond p hp x h1; have := w.ond q hq x h2; omega
  · by_cases e : p = q
    · subst e
      rw [updN_same] at hx2
      rcases hx x hx2 with h1 | h1
      · rw [owN_lt ((w.nd p hp).lt x h1)]; exact w.ond p hp x h1
      · exact owN_new h1 hx2
    · rw [updN_ne e] at hx2
      rw [owN_lt ((w.nd p hp).lt x hx2)]; exact w.ond p hp x hx2
/-- What a step of nodes leaves as it is: which node lies where, the tags of older blocks, and what belongs to no node. -/
structure Same (h h' : AHeap) (n : Nat) (rs rs' : Nat → NR) (ow ow' : Nat → Nat) : Prop where
  keep : Keep h h' (fun x => 5 ≤ ow x)
  a : ∀ q, q < n → (rs' q).a = (rs q).a
  i : ∀ q, q < n → (rs' q).i = (rs q).i
  ow : ∀ x, x < h.n → ow' x = ow x
theorem Same.refl (h : AHeap) (n : Nat) (rs : Nat → NR) (ow : Nat → Nat) : Same h h n rs rs ow ow := ⟨Keep.refl _ _, fun _ _ => rfl, fun _ _ => rfl, fun _ _ => rfl⟩
theorem Same.trans {h h1 h2 : AHeap} {n : Nat} {rs rs1 rs2 : Nat → NR} {ow ow1 ow2 : Nat → Nat} (a : Same h h1 n rs rs1 ow ow1) (b : Same h1 h2 n rs1 rs2 ow1 ow2) : Same h h2 n rs rs2 ow ow2 :=
  ⟨a.keep.trans b.keep fun x hx hh => by rw [a.ow x hx] at hh; exact hh, fun q hq => (b.a q hq).trans (a.a q hq), fun q hq => (b.i q hq).trans (a.i q hq), fun x hx => (b.ow x (Nat.lt_of_lt_of_le hx a.keep.n)).trans (a.ow x hx)⟩
theorem Same.on {h h1 h2 : AHeap} {n : Nat} {rs rs1 : Nat → NR} {ow ow1 : Nat → Nat} (a : Same h h1 n rs rs1 ow ow1) {own : Nat → Prop} (k : Keep h1 h2 own) (hn : ∀ x, x < h.n → ¬ own x) : Same h h2 n rs rs1 ow ow1 :=
  ⟨a.keep.trans k fun x hx hh => absurd hh (hn x hx), a.a, a.i, a.ow⟩
/-! ### A slot written -/
set_option maxRecDepth 10000 in
theorem wClo {h : AHeap} {room : Int} {r : NR} {l : Pays} (d : NdB h room r l) {L c1 c2 c3 : Nat} {dv nv pv op : V} {ep at_ : Int} {b : List Nat} (hb : ∀ n ∈ b, n < 256) (hbl : b.length ≤ 2 ^ 40)
    (gL : h.get L = .cells [dv, nv, op, .int .i64 ep, pv] 129 none) (g1 : h.get c1 = .cells [.ptr L 0] 69 none) (g2 : h.get c2 = .cells [.int .i64 at_] 3 none) (g3 : h.get c3 = .cells [.imm b.length (bytesV b)] 29 none) (nL : ¬ NP r L) (n1 : ¬ NP r c1) (n2 : ¬ NP r c2) (n3 : ¬ NP r c3) :
    SCalls Tryz.prog 98 [.ptr r.a 0, .ptr c1 0, .ptr c2 0, .ptr c3 0] h (fun x h' => x = .int .i64 (nw room ep at_ b l).2 ∧ ∃ r', NdB h' room r' (nw room ep at_ b l).1 ∧ NStep h h' r r') := by
  have d3 : dropC (AObj.cells [dv, nv, op, .int .i64 ep, pv] 129 none) 3 = some [.int .i64 ep, pv] := rfl
  refine SCalls.enterI (c := _) Tryz.func98 rfl (by kernel_rfl) (by simp) ?_
  simp only [bW]
  refine SWp.drawnS (fun x => NP r x) [7] (.q 0 (.q 1 (.q 2 (.q 3 (.q 4 (.q 5 (.q 6 (.a 7 (.q 8 .done))))))))) (by kernel_rfl) (by kernel_rfl) (by kernel_rfl) ?_
  simp only [bW, bS, bM, Nat.reduceEqDiff, reduceCtorEq, ft_129_3, lt_29, lt_3, lt_69, gL, g1, g2, g3, d3, nL, n1, n2, n3]
  refine callI_of cal10 (nbWrite d ep at_ b hb (Nat.le_trans hbl (by decide))) fun x h' ⟨e, r', d', st⟩ => ?_
  subst e
  simp only [bW, bS, bM, Nat.reduceEqDiff, retA_ret, Tryz.results98, resultsA_1]
  exact hid_mk ⟨rfl, r', d', st⟩
/-! ### A quorum asked to write -/
theorem own_ptr {h : AHeap} {t e : TypeId} {v : V} {f : Nat → Nat} {n : Nat} (hs : slSz Tryz.prog t = some 1) (o : Own h e 1 v (ptrs f n)) {k : Nat} (hk : k < n) :
    ∃ i q, aIndexAddr Tryz.prog t v (.int .i64 (k : Int)) = some (.ptr i k) ∧ idOf v = some i ∧ dropC (h.get i) k = some (V.ptr (f k) 0 :: q) := by
  have hk' : k < (ptrs f n).length := by rw [ptrs_len]; exact hk
  obtain ⟨j, x1, x2, ⟨rr, x3⟩, x4⟩ := own_elem (P := Tryz.prog) (t := t) (kk := .i64) hs o (k := k) hk'
  exact ⟨j, rr, x1, x2, by rw [x3, ptrs_ix hk']⟩
end Go.Proofs.YtilgpaibolollaaGreat.Pk
