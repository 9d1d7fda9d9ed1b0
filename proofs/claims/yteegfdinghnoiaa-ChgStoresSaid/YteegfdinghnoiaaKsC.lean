/-
  What functions of the program do, told of abstract states. Conditions: as each theorem says.
-/
import Derived.Test.YteegfdinghnoiaaKsB
namespace Go.Proofs.Yteegfdinghnoiaa.Pk
open Go Go.Proofs Go.Proofs.Yteegfdinghnoiaa.Ab
set_option linter.unusedVariables false
set_option linter.unusedSimpArgs false
set_option maxRecDepth 10000
/-! ### A store, and the slice of what it told -/
def Dis (O O2 : List Nat) : Prop := ∀ q ∈ O, q ∉ O2
theorem Dis.symm {O O2 : List Nat} (d : Dis O O2) : Dis O2 O := fun q hq hh => d q hh hq
def idL (v : V) : List Nat := (idOf v).toList
theorem mem_idL {v : V} {q : Nat} : q ∈ idL v ↔ idOf v = some q := by
  unfold idL; cases h : idOf v <;> simp [eq_comm]
structure Cl where
  o : List Nat
  l : List Chg
  v : V
  A : List Chg
  p : List Chg
def Cl.ft (x : Cl) : List Nat := x.o ++ idL x.v
theorem mem_ft {x : Cl} {q : Nat} : q ∈ x.ft ↔ q ∈ x.o ∨ idOf x.v = some q := by simp [Cl.ft, mem_idL]
structure IsC (h : AHeap) (i : Nat) (K : KK) (x : Cl) (n : Nat) : Prop where
  k : IsK h i x.o K x.l
  a : Own h 38 5 x.v (x.A.flatMap chgE)
  ne : ∀ q ∈ x.o, idOf x.v ≠ some q
  r : runD K [] (x.A ++ x.p) = some x.l
  n : x.A.length + x.p.length ≤ n
theorem appI {h : AHeap} {s c : V} {cs ks : List Chg} (o : Own h 38 5 s (cs.flatMap chgE)) (hc : aSrc Try.prog 5 34 c h = some (ks.length, ks.flatMap chgE)) (hl : cs.length ≤ 2 ^ 40) (hk : ks.length ≤ 2 ^ 40) :
    ∃ s' h', aAppend Try.prog 34 34 s c h = some (s', h') ∧ Own h' 38 5 s' ((cs ++ ks).flatMap chgE) ∧ Keep h h' (isId s) ∧ NewOr h s s' := by
  obtain ⟨s', h', ea, oa, ka, na⟩ := append_ownM (P := Try.prog) (t := 34) (tx := 34) sl_34 (by decide) o hc (rows_len chgE_len ks) (fun m hm => by
    change m * 5 = _ + _ at hm
    rw [rows_len chgE_len, rows_len chgE_len] at hm
    exact ⟨by simp only [lim]; omega, by simp only [lim]; omega⟩)
  refine ⟨s', h', ea, ?_, ka, na⟩
  rw [List.flatMap_append]
  exact oa
theorem srcC (ks : List Chg) (h : AHeap) : aSrc Try.prog 5 34 (rowC ks) h = some (ks.length, ks.flatMap chgE) := imm_src kt_34 (rows_len chgE_len ks) (rows_one chgE_one ks)
theorem src1 (c : Chg) (h : AHeap) : aSrc Try.prog 5 34 (.sl h.n 0 1 1) (h.push (.cells (chgE c) 38 none)) = some ([c].length, [c].flatMap chgE) := by
  have o : Own (h.push (.cells (chgE c) 38 none)) 38 5 (.sl h.n 0 1 1) (chgE c) := Own.fresh' _ 1 rfl (by decide)
  have := own_src (P := Try.prog) kt_34 o (n := 1) rfl (by decide) (chgE_one c)
  rw [this]; simp
section
variable {h h' : AHeap} {i n m : Nat} {K : KK} {x : Cl}
theorem IsC.lt (s : IsC h i K x n) : ∀ q ∈ x.ft, q < h.n := fun q hq => by
  rcases mem_ft.1 hq with hq | hq
  · exact s.k.lt q hq
  · exact s.a.lt q hq
theorem IsC.keep {M : Nat → Prop} (s : IsC h i K x n) (hk : Keep h h' M) (hm : ∀ q ∈ x.ft, ¬ M q) : IsC h' i K x n :=
  ⟨s.k.keep hk fun q hq => hm q (mem_ft.2 (.inl hq)), s.a.keep hk fun q hq => hm q (mem_ft.2 (.inr hq)), s.ne, s.r, s.n⟩
theorem IsC.keepN (s : IsC h i K x n) (hk : Keep h h' none_) : IsC h' i K x n := s.keep hk fun _ _ => by simp [none_]
theorem IsC.mono (s : IsC h i K x n) (hn : n ≤ m) : IsC h i K x m := ⟨s.k, s.a, s.ne, s.r, Nat.le_trans s.n hn⟩
theorem IsC.op {O' : List Nat} {l' cs : List Chg} (s : IsC h i K x n) (hp : x.p = []) (kp : Keep h h' (· ∈ x.o)) (nl : NewL h x.o O') (k : IsK h' i O' K l') (hr : runD K x.l cs = some l') (hn : cs.length ≤ m) :
    IsC h' i K ⟨O', l', x.v, x.A, cs⟩ (n + m) ∧ Keep h h' (· ∈ x.ft) ∧ NewL h x.ft (Cl.mk O' l' x.v x.A cs).ft := by
  refine ⟨⟨k, s.a.keep kp fun q hq hh => s.ne q hh hq, fun q hq hh => ?_, ?_, ?_⟩, kp.mono fun q hq => mem_ft.2 (.inl hq), fun q hq => ?_⟩
  · rcases nl q hq with hq | hq
    · exact s.ne q hq hh
    · have := s.a.lt q hh; omega
  · have := s.r
    rw [hp, List.append_nil] at this
    show runD K [] (x.A ++ cs) = some l'
    rw [runD_append, this]
    exact hr
  · have := s.n
    rw [hp] at this
    simp only [List.length_nil] at this
    show x.A.length + cs.length ≤ n + m
    omega
  · rcases mem_ft.1 hq with hq | hq
    · rcases nl q hq with hq | hq
      · exact .inl (mem_ft.2 (.inl hq))
      · exact .inr hq
    · exact .inl (mem_ft.2 (.inr hq))
theorem IsC.app {c : V} (s : IsC h i K x n) (hc : aSrc Try.prog 5 34 c h = some (x.p.length, x.p.flatMap chgE)) (hn : n ≤ 2 ^ 40) :
    ∃ v' h', aAppend Try.prog 34 34 x.v c h = some (v', h') ∧ IsC h' i K ⟨x.o, x.l, v', x.A ++ x.p, []⟩ n ∧ Keep h h' (· ∈ x.ft) ∧ NewL h x.ft (Cl.mk x.o x.l v' (x.A ++ x.p) []).ft := by
  have hx := s.n
  obtain ⟨v', h', e, o, kp, d⟩ := appI s.a hc (by omega) (by omega)
  refine ⟨v', h', e, ⟨s.k.keep kp fun q hq hh => s.ne q hq hh, o, fun q hq hh => ?_, ?_, ?_⟩, kp.mono fun q hq => mem_ft.2 (.inr hq), fun q hq => ?_⟩
  · rcases d with d | d
    · exact s.ne q hq (by rw [← d]; exact hh)
    · have := d q hh; have := s.k.lt q hq; omega
  · show runD K [] (x.A ++ x.p ++ []) = some x.l
    rw [List.append_nil]; exact s.r
  · show (x.A ++ x.p).length + ([] : List Chg).length ≤ n
    rw [List.length_append]; simpa using hx
  · rcases mem_ft.1 hq with hq | hq
    · exact .inl (mem_ft.2 (.inl hq))
    · rcases d with d | d
      · exact .inl (mem_ft.2 (.inr (by rw [← d]; exact hq)))
      · exact .inr (d q hq)
theorem IsC.len (s : IsC h i K x n) : x.A.length ≤ n := by have := s.n; omega
theorem IsC.last (s : IsC h i K x n) (hp : x.p = []) (hg : gK K) : (decide (lastL x.A = lastL (listK K x.l)) && decide ((lastL x.A).length = (listK K x.l).length)) = true := by
  have hr := s.r
  rw [hp, List.append_nil] at hr
  have w : WfK K x.l := WfK.runD (WfK.nil hg) hr
  rw [told_is hg hr, list_is hg w]
  have := (inK_perm K x.l).length_eq
  simp [listK, this]
end
/-! ### Three stores -/
structure St (h : AHeap) (i1 i2 i3 : Nat) (x y z : Cl) (n : Nat) : Prop where
  a : IsC h i1 .kv x n
  b : IsC h i2 (.win 10) y n
  c : IsC h i3 (.ses 5) z n
  ab : Dis x.ft y.ft
  ac : Dis x.ft z.ft
  bc : Dis y.ft z.ft
section
variable {h h' : AHeap} {i1 i2 i3 n m : Nat} {x y z w : Cl}
theorem dis_new {F F' G : List Nat} (d : Dis F G) (nl : NewL h F F') (hG : ∀ q ∈ G, q < h.n) : Dis F' G := fun q hq hh => by
  rcases nl q hq with hq | hq
  · exact d q hq hh
  · have := hG q hh; omega
theorem St.u1 (s : St h i1 i2 i3 x y z n) (c : IsC h' i1 .kv w m) (kp : Keep h h' (· ∈ x.ft)) (nl : NewL h x.ft w.ft) (hn : n ≤ m) : St h' i1 i2 i3 w y z m :=
  ⟨c, (s.b.keep kp fun q hq hh => s.ab q hh hq).mono hn, (s.c.keep kp fun q hq hh => s.ac q hh hq).mono hn, dis_new s.ab nl s.b.lt, dis_new s.ac nl s.c.lt, s.bc⟩
theorem St.u2 (s : St h i1 i2 i3 x y z n) (c : IsC h' i2 (.win 10) w m) (kp : Keep h h' (· ∈ y.ft)) (nl : NewL h y.ft w.ft) (hn : n ≤ m) : St h' i1 i2 i3 x w z m :=
  ⟨(s.a.keep kp fun q hq hh => s.ab q hq hh).mono hn, c, (s.c.keep kp fun q hq hh => s.bc q hh hq).mono hn, (dis_new s.ab.symm nl s.a.lt).symm, s.ac, dis_new s.bc nl s.c.lt⟩
theorem St.u3 (s : St h i1 i2 i3 x y z n) (c : IsC h' i3 (.ses 5) w m) (kp : Keep h h' (· ∈ z.ft)) (nl : NewL h z.ft w.ft) (hn : n ≤ m) : St h' i1 i2 i3 x y w m :=
  ⟨(s.a.keep kp fun q hq hh => s.ac q hq hh).mono hn, (s.b.keep kp fun q hq hh => s.bc q hq hh).mono hn, c, s.ab, (dis_new s.ac.symm nl s.a.lt).symm, (dis_new s.bc.symm nl s.b.lt).symm⟩
theorem St.keepN (s : St h i1 i2 i3 x y z n) (hk : Keep h h' none_) : St h' i1 i2 i3 x y z n := ⟨s.a.keepN hk, s.b.keepN hk, s.c.keepN hk, s.ab, s.ac, s.bc⟩
theorem St.mono (s : St h i1 i2 i3 x y z n) (hn : n ≤ m) : St h i1 i2 i3 x y z m := ⟨s.a.mono hn, s.b.mono hn, s.c.mono hn, s.ab, s.ac, s.bc⟩
end
/-! ### Lists -/
section
variable {h : AHeap} {i : Nat} {O : List Nat} {l : List Chg}
theorem kKvList (k : IsK h i O .kv l) : Pure Try.prog 15 [.ptr i 0] h (rowC (listK .kv l)) := by
  cases k with
  | @kv v l k => exact kvList h i v 1024 l k
theorem kWinList {g : Int} (k : IsK h i O (.win g) l) : Pure Try.prog 16 [.ptr i 0] h (rowC (listK (.win g) l)) := by
  cases k with
  | @win m cl g e l k rr w =>
    have hlen := rr.len
    have hl := w.len
    refine Pure.val (rowC_clo _) ((winListI sortByW h i m cl 1024 g e k.k k.st (by omega) k.fr).mono fun r h' ⟨kp, lc, h1, h2, h3⟩ => ⟨?_, kp⟩)
    rw [h3, rr.list w h1 h2]
    rfl
theorem kSesList {g : Int} (k : IsK h i O (.ses g) l) : Pure Try.prog 17 [.ptr i 0] h (rowC (listK (.ses g) l)) := by
  cases k with
  | @ses v g l k => exact sesList h i v 1024 g l k
end
/-! ### Deeds -/
structure Dd where
  fin : Bool
  key : Int
  time : Int
  val : Int
def ddE (d : Dd) : List V := [.bool d.fin, .int .i64 d.key, .int .i64 d.time, .int .i64 d.val]
theorem ddE_len (d : Dd) : (ddE d).length = 4 := rfl
theorem dd_ix {l : List Dd} {k : Nat} {kk : IntKind} (h : k < l.length) : ∃ r, aIndexAddr Try.prog 22 (.imm l.length (l.flatMap ddE)) (.int kk (k : Int)) = some (.at (ddE l[k] ++ r)) :=
  rows_at ddE_len rfl (List.getElem?_eq_getElem h) ss_22
end Go.Proofs.Yteegfdinghnoiaa.Pk
