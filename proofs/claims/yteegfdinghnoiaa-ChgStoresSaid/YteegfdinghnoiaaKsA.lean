/-
  What functions of the program do, told of abstract states. Conditions: as each theorem says.
-/
import Derived.Test.YteegfdinghnoiaaMeL
namespace Go.Proofs.Yteegfdinghnoiaa.Pk
open Go Go.Proofs Go.Proofs.Yteegfdinghnoiaa.Ab
set_option linter.unusedVariables false
set_option linter.unusedSimpArgs false
set_option maxRecDepth 10000
/-! ### What the calls of the stores tell -/
/-- A change that is told where there is no error, done, makes the state. -/
def One (K : KK) (l : List Chg) (c : Chg) (er : Int) (l' : List Chg) : Prop := runD K l (if er = 0 then [c] else []) = some l'
theorem One.err {K : KK} {l : List Chg} {c : Chg} {er : Int} (h : er ≠ 0) : One K l c er l := by unfold One; rw [if_neg h]; rfl
theorem runD1 {K : KK} {l : List Chg} {c : Chg} {l' : List Chg} (h : doK K l c = (l', 0)) : runD K l [c] = some l' := by
  show (if (doK K l c).2 = 0 then runD K (doK K l c).1 [] else none) = some l'
  rw [h]; rfl
section
variable {h : AHeap} {i : Nat} {O : List Nat} {l : List Chg}
theorem kKvPut (k : IsK h i O .kv l) (key val : Int) :
    SCalls Try.prog 11 [.ptr i 0, .int .i64 key, .int .i64 val] h (fun r h' => ∃ c er O' l', r = .tuple [.agg (chgE c), .int .i64 er] ∧ Keep h h' (· ∈ O) ∧ NewL h O O' ∧ IsK h' i O' .kv l' ∧ One .kv l c er l') := by
  have w := k.wf
  cases k with
  | @kv v l k =>
    refine (kvPut h i v 1024 key val l k).mono fun r h' ⟨v', e, k1, kp, d⟩ => ⟨_, _, _, _, e, kp.mono fun q hq => mem_io.2 hq, NewL.of d, .kv k1, ?_⟩
    cases hf : full 1024 l key with
    | true =>
      have e2 : putL 1024 l key val = l := by simp [putL, hf]
      rw [e2]
      exact One.err (by simp [putE, hf])
    | false =>
      have hfe : fullK .kv (l.map kvC) key 0 = false := by
        rw [← hf]
        simp only [fullK, atK, kv_has k.srt, full, List.length_map]
        congr 1
        rw [Bool.eq_iff_iff, decide_eq_true_eq, decide_eq_true_eq]
        omega
      have hr := w.puts (k := key) (t := 0) (v := val) (by decide) hfe
      have hX : putX 1024 l key val = ⟨key, 0, 0, val, false⟩ := by simp [putX, hf]
      have hL : putL 1024 l key val = put l key val := by simp [putL, hf]
      have hE : putE 1024 l key = 0 := by simp [putE, hf]
      unfold One
      rw [hX, hL, hE, if_pos rfl, kv_set k.srt]
      exact hr
theorem kKvDel (k : IsK h i O .kv l) (key : Int) :
    SCalls Try.prog 8 [.ptr i 0, .int .i64 key] h (fun r h' => ∃ c er O' l', r = .tuple [.agg (chgE c), .int .i64 er] ∧ Keep h h' (· ∈ O) ∧ NewL h O O' ∧ IsK h' i O' .kv l' ∧ One .kv l c er l') := by
  have w := k.wf
  cases k with
  | @kv v l k =>
    refine (kvDel h i v 1024 key l k).mono fun r h' ⟨v', e, k1, kp, d⟩ => ⟨_, _, _, _, e, kp.mono fun q hq => mem_io.2 hq, NewL.of d, .kv k1, ?_⟩
    have hk3 : has3 (l.map kvC) ⟨key, 0, 0, 0, true⟩ = has l key := kv_has k.srt
    rw [kv_rm k.srt key 0 true]
    cases hh : has l key with
    | true =>
      have hE : delE l key = 0 := by simp [delE, hh]
      have hX : delX l key = ⟨key, 0, 0, 0, true⟩ := by simp [delX, hh]
      unfold One
      rw [hE, hX, if_pos rfl]
      exact runD1 (doK_gone (by simp [badK, delV]) rfl (by rw [hk3, hh]))
    | false =>
      have e2 : rm3 (l.map kvC) ⟨key, 0, 0, 0, true⟩ = l.map kvC := by
        rw [hh] at hk3
        unfold rm3
        rw [List.filter_eq_self]
        intro x hx
        simp only [has3, List.any_eq_false] at hk3
        simpa using hk3 x hx
      rw [e2]
      exact One.err (by simp [delE, hh])
theorem kWinPut {g : Int} (k : IsK h i O (.win g) l) (key t val : Int) :
    SCalls Try.prog 12 [.ptr i 0, .int .i64 key, .int .i64 t, .int .i64 val] h (fun r h' => ∃ c er O' l', r = .tuple [.agg (chgE c), .int .i64 er] ∧ Keep h h' (· ∈ O) ∧ NewL h O O' ∧ IsK h' i O' (.win g) l' ∧ One (.win g) l c er l') := by
  cases k with
  | @win m cl g e l k rr w =>
    have hlen := rr.len
    by_cases ht : mayTa t = true
    · have ht' := mayTa_iff.1 ht
      have hh : has3 l (atK (.win g) key t 0) = (kget e (key, frW g t)).isSome := rr.has k.nd rfl
      cases hf : fullK (.win g) l key t with
      | true =>
        simp only [fullK, hh, Bool.and_eq_true, Bool.not_eq_true', decide_eq_true_eq] at hf
        exact (winPutFull h i m cl 1024 g key t val e k.k hf.1 (by omega) ht'.1 ht'.2).mono fun r h' ⟨e1, kp⟩ => ⟨_, _, [i, m], _, e1, kp.up, NewL.refl _ _, (IsK.win k rr w).keepN kp, One.err (by decide)⟩
      | false =>
        have hf0 := hf
        simp only [fullK, hh, Bool.and_eq_false_iff, Bool.not_eq_false', decide_eq_false_iff_not] at hf
        have hr := frW_rng (size := g) ht'.1 k.k.s1
        refine (winPutOk h i m cl 1024 g key t val e k.k (hf.imp id fun q => by omega) ht'.1 ht'.2).mono fun r h' ⟨e1, k1, kp⟩ => ⟨_, _, [i, m], _, e1, kp.mono fun q hq => by simp [hq], NewL.refl _ _, .win ⟨k1, k.st.kset _ _, k.nd.set _ _ _, fun x hx => ?_⟩ (rr.set k.nd w.ss _ _ _ _) (w.putL val ht hf0), ?_⟩
        · rcases kset_mem hx with hx | hx
          · rw [hx]; show 0 ≤ frW g t ∧ frW g t ≤ 2 ^ 41; omega
          · exact k.fr x hx
        · unfold One
          rw [if_pos rfl]
          exact w.puts ht hf0
    · have ht' : t < 0 ∨ 1099511627776 < t := by simp only [mayTa, decide_eq_true_eq] at ht; omega
      exact (winPutBad h i m cl 1024 g key t val (wE e) k.k ht').mono fun r h' ⟨e1, e2⟩ => ⟨_, _, [i, m], _, e1, by rw [e2]; exact Keep.refl _ _, NewL.refl _ _, by rw [e2]; exact IsK.win k rr w, One.err (by decide)⟩
theorem kWinExp {g : Int} (k : IsK h i O (.win g) l) (t : Int) :
    SCalls Try.prog 9 [.ptr i 0, .int .i64 t] h (fun r h' => ∃ cs O' l', r = rowC cs ∧ cs.length ≤ 1024 ∧ Keep h h' (· ∈ O) ∧ NewL h O O' ∧ IsK h' i O' (.win g) l' ∧ runD (.win g) l cs = some l') := by
  cases k with
  | @win m cl g e l k rr w =>
    have hlen := rr.len
    have hl := w.len
    refine (winExpI sortByW h i m cl 1024 g t e k.k k.st k.nd (by omega) k.fr).mono fun r h' ⟨kp, w1, lc, p1, p2, e1⟩ => ⟨lc, [i, m], l.filter fun x => !decide (x.to ≤ t), e1, ?_, kp.mono fun q hq => by simp [hq], NewL.refl _ _, ?_, runD_goneP w _ (rr.gone p1)⟩
    · have := (rr.gone p1).length_eq
      rw [this, List.length_map]
      exact Nat.le_trans (List.length_filter_le _ _) hl
    · refine .win ⟨w1, ?_, ?_, fun x hx => k.fr x (List.mem_filter.1 hx).1⟩ rr.filter (w.filter _)
      · have hs := k.st
        exact ⟨fun x hx => hs.1 x (by
          obtain ⟨y, hy, rfl⟩ := List.mem_map.1 hx
          exact List.mem_map_of_mem (List.mem_filter.1 hy).1), hs.2.sublist ((List.filter_sublist.map _).map _)⟩
      · exact k.nd.sublist (List.filter_sublist.map _)
theorem putC_len {g : Int} (w : WfK (.ses g) l) (key t v : Int) : (putC g l key t v).length ≤ 1025 := by
  have := w.len
  simp only [putC, List.length_append, List.length_map, List.length_cons, List.length_nil]
  have h1 := List.length_filter_le (otherS (mkS g l key t v)) (found g l key t)
  have h2 := found_le g l key t
  omega
theorem kSesPut {g : Int} (k : IsK h i O (.ses g) l) (key t val : Int) :
    SCalls Try.prog 13 [.ptr i 0, .int .i64 key, .int .i64 t, .int .i64 val] h (fun r h' => ∃ cs er O' l', r = .tuple [rowC cs, .int .i64 er] ∧ cs.length ≤ 1025 ∧ Keep h h' (· ∈ O) ∧ NewL h O O' ∧ IsK h' i O' (.ses g) l' ∧ runD (.ses g) l cs = some l') := by
  have w := k.wf
  cases k with
  | @ses v g l k =>
    by_cases ht : mayTa t = true
    · have hmt : mayT t = true := by rw [mayTa_mayT]; exact ht
      cases hf : fullK (.ses g) l key t with
      | true =>
        simp only [fullK, Bool.and_eq_true, List.isEmpty_iff, decide_eq_true_eq] at hf
        exact (sesPutFull h i v 1024 g key t val l hmt hf.1 (by omega) k).mono fun r h' ⟨e1, e2⟩ => ⟨[], 3, _, _, e1, by simp, by rw [e2]; exact Keep.refl _ _, NewL.refl _ _, by rw [e2]; exact .ses k, rfl⟩
      | false =>
        have hf0 := hf
        simp only [fullK, Bool.and_eq_false_iff, List.isEmpty_eq_false_iff, decide_eq_false_iff_not] at hf
        exact (sesPut h i v 1024 g key t val l hmt (hf.imp id fun q => by omega) (hf.imp id fun q => by omega) k).mono fun r h' ⟨v', e1, k1, kp, d⟩ => ⟨putC g l key t val, 0, _, _, e1, putC_len w _ _ _, kp.mono fun q hq => mem_io.2 hq, NewL.of d, .ses k1, w.puts ht hf0⟩
    · have hmt : mayT t = false := by rw [mayTa_mayT]; simpa using ht
      exact (sesPutBad h i v 1024 g key t val l hmt k).mono fun r h' ⟨e1, e2⟩ => ⟨[], 2, _, _, e1, by simp, by rw [e2]; exact Keep.refl _ _, NewL.refl _ _, by rw [e2]; exact .ses k, rfl⟩
theorem kSesExp {g : Int} (k : IsK h i O (.ses g) l) (t : Int) :
    SCalls Try.prog 10 [.ptr i 0, .int .i64 t] h (fun r h' => ∃ cs O' l', r = rowC cs ∧ cs.length ≤ 1024 ∧ Keep h h' (· ∈ O) ∧ NewL h O O' ∧ IsK h' i O' (.ses g) l' ∧ runD (.ses g) l cs = some l') := by
  have w := k.wf
  have hl := w.len
  cases k with
  | @ses v g l k =>
    have hlc : ((l.filter (ended g t)).map goneS).length ≤ 1024 := by
      rw [List.length_map]; exact Nat.le_trans (List.length_filter_le _ _) hl
    refine SCalls.cast ((sesExpireO h i v 1024 g t l k).mono fun r h' ⟨v', o, nw, k1, kp, d⟩ => ?_)
    obtain ⟨h2, c, k2⟩ := Cast.own o (n := ((l.filter (ended g t)).map goneS).length) (rows_len chgE_len _) (by omega)
    refine ⟨_, h2, c, _, i :: (idOf v').toList, l.filter fun x => !ended g t x, rfl, hlc, (kp.mono fun q hq => mem_io.2 hq).trans k2 fun q hq hh => ?_, NewL.of d, .ses (k1.keep k2 (fun hh => ?_) fun j hj hh => ?_), runD_goneP w _ (.refl _)⟩
    · have := (nw q (by simpa [isId] using hh)).1; omega
    · have := (nw i (by simpa [isId] using hh)).1; have := k.lt; omega
    · exact (nw j (by simpa [isId] using hh)).2 hj
end
end Go.Proofs.Yteegfdinghnoiaa.Pk
