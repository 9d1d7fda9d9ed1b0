/-
  What functions of the program do, told of abstract states. Conditions: as each theorem says.
-/
import Derived.Test.YtedkjhifbibpmaaGreatDoorMeG
import Derived.Test.YtedkjhifbibpmaaGreatDoorMeV
import Derived.Test.YtedkjhifbibpmaaGreatDoorMeS
import Derived.Test.YtedkjhifbibpmaaGreatDoorMeK
namespace Go.Proofs.YtedkjhifbibpmaaGreatDoor.Pk
open Go Go.Proofs Go.Proofs.YtedkjhifbibpmaaGreatDoor.Ab
set_option linter.unusedVariables false
set_option linter.unusedSimpArgs false
/-! ### The three kinds of stores, as rising lists of changes -/
inductive KK where
  | kv
  | win (g : Int)
  | ses (g : Int)
def isW (g fr to : Int) : Bool := mayTa fr && decide (frW g fr = fr) && decide (to = fr + g)
def delV (c : Chg) : Bool := c.del && decide (c.val ≠ 0)
def badK : KK → Chg → Bool
  | .kv, c => decide (c.fr ≠ 0) || decide (c.to ≠ 0) || delV c
  | .win g, c => !isW g c.fr c.to || delV c
  | .ses _, c => !mayTa c.fr || !mayTa c.to || decide (c.to < c.fr) || delV c
def gK : KK → Prop
  | .kv => True
  | .win g => 1 ≤ g ∧ g ≤ 1048576
  | .ses g => 1 ≤ g ∧ g ≤ 1048576
structure WfK (K : KK) (l : List Chg) : Prop where
  ss : SS l
  len : l.length ≤ 1024
  ok : ∀ x ∈ l, x.del = false ∧ badK K x = false
  g : gK K
theorem WfK.nil {K : KK} (hg : gK K) : WfK K [] := ⟨List.Pairwise.nil, by simp, by simp, hg⟩
def doK (K : KK) (l : List Chg) (c : Chg) : List Chg × Int :=
  if badK K c then (l, 5) else
  if c.del then (if has3 l c then (rm3 l c, 0) else (l, 6)) else
  if !has3 l c && decide (1024 ≤ l.length) then (l, 3) else (ins3 (rm3 l c) c, 0)
def runD (K : KK) : List Chg → List Chg → Option (List Chg)
  | l, [] => some l
  | l, c :: r => if (doK K l c).2 = 0 then runD K (doK K l c).1 r else none
theorem runD_append (K : KK) : ∀ (l a b : List Chg), runD K l (a ++ b) = (runD K l a).bind fun m => runD K m b
  | l, [], b => rfl
  | l, c :: r, b => by
    simp only [List.cons_append, runD]
    split
    · exact runD_append K _ r b
    · rfl
theorem mem_rm3 {l : List Chg} {x y : Chg} : y ∈ rm3 l x ↔ y ∈ l ∧ same3 y x = false := by simp [rm3]
theorem ss_rm3 {l : List Chg} (h : SS l) (x : Chg) : SS (rm3 l x) := h.filter _
theorem len_rm3' (l : List Chg) (x : Chg) : (rm3 l x).length ≤ l.length := List.length_filter_le _ _
theorem WfK.rm {K : KK} {l : List Chg} (w : WfK K l) (x : Chg) : WfK K (rm3 l x) :=
  ⟨ss_rm3 w.ss x, Nat.le_trans (len_rm3' l x) w.len, fun y hy => w.ok y (mem_rm3.1 hy).1, w.g⟩
theorem WfK.filter {K : KK} {l : List Chg} (w : WfK K l) (p : Chg → Bool) : WfK K (l.filter p) :=
  ⟨w.ss.filter p, Nat.le_trans (List.length_filter_le _ _) w.len, fun y hy => w.ok y (List.mem_filter.1 hy).1, w.g⟩
theorem WfK.ins {K : KK} {l : List Chg} (w : WfK K l) {x : Chg} (hh : has3 l x = false) (hlen : l.length < 1024) (hd : x.del = false) (hb : badK K x = false) : WfK K (ins3 l x) :=
  ⟨w.ss.insS hh, by have := w.ss.len_ins x; omega, fun y hy => by
    rcases mem_ins3.1 hy with rfl | hy
    · exact ⟨hd, hb⟩
    · exact w.ok y hy, w.g⟩
theorem has3_iff {l : List Chg} {x : Chg} : has3 l x = true ↔ ∃ y ∈ l, same3 y x = true := by simp [has3]
theorem len_rm3_lt {l : List Chg} (h : SS l) {x : Chg} (hx : has3 l x = true) : (rm3 l x).length < l.length := by have := len_rm3 h hx; omega
theorem WfK.set {K : KK} {l : List Chg} (w : WfK K l) {x : Chg} (hf : (!has3 l x && decide (1024 ≤ l.length)) = false) (hd : x.del = false) (hb : badK K x = false) : WfK K (ins3 (rm3 l x) x) := by
  refine (w.rm x).ins (has3_rm l x) ?_ hd hb
  cases hh : has3 l x
  · rw [hh] at hf
    have := len_rm3' l x
    simp at hf; omega
  · have := len_rm3_lt w.ss hh
    have := w.len
    omega
theorem WfK.dok {K : KK} {l : List Chg} (w : WfK K l) (c : Chg) : WfK K (doK K l c).1 := by
  unfold doK
  split
  · exact w
  rename_i hb
  split
  · split
    · exact w.rm c
    · exact w
  rename_i hd
  split
  · exact w
  rename_i hf
  exact w.set (by simpa using hf) (by simpa using hd) (by simpa using hb)
theorem WfK.runD {K : KK} : ∀ {cs l m : List Chg}, WfK K l → runD K l cs = some m → WfK K m
  | [], l, m, w, h => by cases h; exact w
  | c :: r, l, m, w, h => by
    unfold Pk.runD at h
    split at h
    · exact WfK.runD (w.dok c) h
    · cases h
theorem doK_set {K : KK} {l : List Chg} {c : Chg} (hb : badK K c = false) (hd : c.del = false) (hf : (!has3 l c && decide (1024 ≤ l.length)) = false) : doK K l c = (ins3 (rm3 l c) c, 0) := by
  unfold doK
  rw [if_neg (by simp [hb]), if_neg (by simp [hd]), if_neg (by rw [hf]; decide)]
theorem doK_gone {K : KK} {l : List Chg} {c : Chg} (hb : badK K c = false) (hd : c.del = true) (hh : has3 l c = true) : doK K l c = (rm3 l c, 0) := by
  unfold doK
  rw [if_neg (by simp [hb]), if_pos hd, if_pos hh]
theorem has3_goneS (l : List Chg) (x : Chg) : has3 l (goneS x) = has3 l x := rfl
theorem rm3_goneS (l : List Chg) (x : Chg) : rm3 l (goneS x) = rm3 l x := rfl
theorem badK_goneS {K : KK} {x : Chg} (h : badK K x = false) : badK K (goneS x) = false := by
  have hv : delV (goneS x) = false := by simp [delV, goneS]
  cases K <;> simp only [badK, Bool.or_eq_false_iff] at h ⊢ <;> simp_all [goneS] <;> exact decide_eq_false (by show ¬ x.to < x.fr; omega)
/-! ### What ended -/
theorem runD_gone {K : KK} : ∀ (A : List Chg) {l : List Chg}, SS l → (∀ x ∈ A, x ∈ l ∧ badK K x = false) → A.Pairwise (fun a b => same3 b a = false) → runD K l (A.map goneS) = some (rmAll l A)
  | [], l, _, _, _ => by rw [List.map_nil, rmAll_nil]; rfl
  | x :: A, l, hs, hA, hp => by
    have hx := hA x (by simp)
    have hp' := List.pairwise_cons.1 hp
    rw [List.map_cons, runD, doK_gone (badK_goneS hx.2) rfl (by rw [has3_goneS]; exact has3_mem hx.1), if_pos rfl, rm3_goneS]
    rw [runD_gone A (ss_rm3 hs x) (fun y hy => ⟨mem_rm3.2 ⟨(hA y (by simp [hy])).1, hp'.1 y hy⟩, (hA y (by simp [hy])).2⟩) hp'.2]
    congr 1
    unfold rmAll rm3
    rw [List.filter_filter]
    refine List.filter_congr fun y _ => ?_
    simp only [List.all_cons]
    rw [Bool.and_comm]
/-! ### What is listed -/
/-! ### What is put -/
def valOf (l : List Chg) (x : Chg) : Int := ((l.filter fun y => same3 y x).map (·.val)).headD 0
def atK : KK → Int → Int → Int → Chg
  | .kv, k, _, v => ⟨k, 0, 0, v, false⟩
  | .win g, k, t, v => ⟨k, frW g t, frW g t + g, v, false⟩
  | .ses _, k, t, v => ⟨k, t, t, v, false⟩
def setL (l : List Chg) (x : Chg) : List Chg := ins3 (rm3 l x) x
def putCs : KK → List Chg → Int → Int → Int → List Chg
  | .kv, _, k, t, v => [atK .kv k t v]
  | .win g, _, k, t, v => [atK (.win g) k t v]
  | .ses g, l, k, t, v => putC g l k t v
def putLs : KK → List Chg → Int → Int → Int → List Chg
  | .kv, l, k, t, v => setL l (atK .kv k t v)
  | .win g, l, k, t, v => setL l (atK (.win g) k t v)
  | .ses g, l, k, t, v => putS g l k t v
def fullK : KK → List Chg → Int → Int → Bool
  | .kv, l, k, t => !has3 l (atK .kv k t 0) && decide (1024 ≤ l.length)
  | .win g, l, k, t => !has3 l (atK (.win g) k t 0) && decide (1024 ≤ l.length)
  | .ses g, l, k, t => (found g l k t).isEmpty && decide (1024 ≤ l.length)
def timeK : KK → List Chg → Int → Int → Int
  | .kv, _, _, t => t
  | .win g, _, _, t => frW g t
  | .ses g, l, k, t => loF t (found g l k t)
def gathK : KK → List Chg → Int → Int → Int
  | .kv, l, k, t => valOf l (atK .kv k t 0)
  | .win g, l, k, t => valOf l (atK (.win g) k t 0)
  | .ses g, l, k, t => sumC (found g l k t)
theorem frW_idem {n t : Int} (h0 : 0 ≤ t) (h1 : 1 ≤ n) : frW n (frW n t) = frW n t := by
  have hr := frW_rng h0 h1
  unfold frW at *
  have h2 : t.tmod n = t % n := Int.tmod_eq_emod_of_nonneg h0
  rw [h2] at hr ⊢
  have h3 : (t - t % n).tmod n = (t - t % n) % n := Int.tmod_eq_emod_of_nonneg (by omega)
  rw [h3, Int.sub_emod, Int.emod_emod_of_dvd _ (Int.dvd_refl n), Int.sub_self]
  simp
theorem atK_bad {K : KK} (hg : gK K) {k t v : Int} (ht : mayTa t = true) : badK K (atK K k t v) = false := by
  have ht' := ht
  simp only [mayTa, decide_eq_true_eq] at ht'
  cases K with
  | kv => simp [badK, atK, delV]
  | win g =>
    have hr := frW_rng ht'.1 hg.1
    have : mayTa (frW g t) = true := by simp only [mayTa, decide_eq_true_eq]; omega
    simp [badK, atK, delV, isW, frW_idem ht'.1 hg.1, this]
  | ses g => simp [badK, atK, delV, ht]
theorem okS_of {g : Int} {x : Chg} (h : x.del = false ∧ badK (.ses g) x = false) : okS x := by
  obtain ⟨h1, h2⟩ := h
  simp only [badK, Bool.or_eq_false_iff, Bool.not_eq_false', mayTa, decide_eq_true_eq, decide_eq_false_iff_not] at h2
  exact ⟨by omega, by omega, by omega, h1⟩
theorem bad_of_okS {g : Int} {x : Chg} (h : okS x) : badK (.ses g) x = false := by
  have h1 := h.lo
  have h2 := h.le
  have h3 := h.hi
  simp only [badK, Bool.or_eq_false_iff, Bool.not_eq_false', mayTa, decide_eq_true_eq, decide_eq_false_iff_not, delV, h.del, Bool.false_and, and_true]
  omega
theorem runD_set {K : KK} {l : List Chg} {x : Chg} (hb : badK K x = false) (hd : x.del = false) (hf : (!has3 l x && decide (1024 ≤ l.length)) = false) : runD K l [x] = some (setL l x) := by
  rw [runD, doK_set hb hd hf, if_pos rfl]; rfl
theorem WfK.puts {K : KK} {l : List Chg} (w : WfK K l) {k t v : Int} (ht : mayTa t = true) (hf : fullK K l k t = false) : Pk.runD K l (putCs K l k t v) = some (putLs K l k t v) := by
  have ht' := ht
  simp only [mayTa, decide_eq_true_eq] at ht'
  cases K with
  | kv => exact runD_set (atK_bad w.g ht) rfl hf
  | win g => exact runD_set (atK_bad w.g ht) rfl hf
  | ses g =>
    have hg : 0 ≤ g := by have := w.g.1; omega
    have hokS : ∀ x ∈ l, okS x := fun x hx => okS_of (w.ok x hx)
    have hmk := mkS_ok (g := g) hokS (k := k) v ht'.1 (by omega)
    unfold putCs putC
    rw [runD_append]
    have hsub : ∀ x ∈ (found g l k t).filter (otherS (mkS g l k t v)), x ∈ l := fun x hx => (List.mem_filter.1 (List.mem_filter.1 hx).1).1
    have hss : SS ((found g l k t).filter (otherS (mkS g l k t v))) := (w.ss.filter _).filter _
    rw [runD_gone _ w.ss (fun x hx => ⟨hsub x hx, (w.ok x (hsub x hx)).2⟩) (hss.imp fun {a b} h => by
      cases hs : same3 b a
      · rfl
      · rw [same3_iff] at hs
        unfold lt3 at h
        omega)]
    rw [Option.bind_some]
    have hrm : rmAll l ((found g l k t).filter (otherS (mkS g l k t v))) = l.filter fun y => !((touch g k t y) && otherS (mkS g l k t v) y) := by
      have : (found g l k t).filter (otherS (mkS g l k t v)) = l.filter fun y => (touch g k t y) && otherS (mkS g l k t v) y := by
        unfold found; rw [List.filter_filter]; refine List.filter_congr fun y _ => ?_; rw [Bool.and_comm]
      rw [this, rmAll_filter w.ss]
    have hput := put_again hg w.ss k t v
    generalize hR : rmAll l ((found g l k t).filter (otherS (mkS g l k t v))) = R at *
    have hRs : SS R := by rw [← hR]; exact w.ss.rmAll _
    have hRl : R.length ≤ l.length := by rw [hrm]; exact List.length_filter_le _ _
    rw [runD_set (bad_of_okS hmk) hmk.del ?_]
    · unfold setL
      rw [hput]; rfl
    · cases hh : has3 R (mkS g l k t v)
      · simp only [Bool.not_false, Bool.true_and, decide_eq_false_iff_not]
        intro hc
        have hwl := w.len
        have hfl : fullK (.ses g) l k t = false := hf
        simp only [fullK, Bool.and_eq_false_iff, List.isEmpty_eq_false_iff, decide_eq_false_iff_not] at hfl
        rcases hfl with hfl | hfl
        · -- something is found, so it went or was the very one
          have hR2 : R.length = l.length := by omega
          have hall : ∀ x ∈ l, x ∈ R := fun x hx => by
            rw [hrm] at hR2 ⊢
            have := List.length_filter_eq_length_iff.1 hR2 x hx
            exact List.mem_filter.2 ⟨hx, this⟩
          obtain ⟨x, hx⟩ := List.exists_mem_of_ne_nil _ hfl
          have hxl := (List.mem_filter.1 hx)
          have hxR := hall x hxl.1
          rw [hrm] at hxR
          have hxo := (List.mem_filter.1 hxR).2
          rw [hxl.2, Bool.true_and] at hxo
          have hkey := (touch_iff.1 hxl.2).1
          have : same3 x (mkS g l k t v) = true := same3_iff.2 (by
            simp only [otherS, Bool.not_eq_true', Bool.or_eq_false_iff, decide_eq_false_iff_not, Decidable.not_not] at hxo
            exact ⟨hkey, hxo.1, hxo.2⟩)
          have hh2 : has3 R (mkS g l k t v) = true := has3_iff.2 ⟨x, hall x hxl.1, this⟩
          rw [hh2] at hh; cases hh
        · omega
      · rfl
theorem WfK.putL {K : KK} {l : List Chg} (w : WfK K l) {k t : Int} (v : Int) (ht : mayTa t = true) (hf : fullK K l k t = false) : WfK K (putLs K l k t v) := WfK.runD w (w.puts ht hf)
/-! ### What ends -/
def goneK : KK → Int → Chg → Bool
  | .kv, _, _ => false
  | .win g, m, x => decide (0 ≤ m) && decide (x.to ≤ m - g)
  | .ses g, m, x => decide (x.to + g ≤ m)
def sortW (l : List Chg) : List Chg := l.mergeSort fun a b => !aheadW b a
def inK : KK → List Chg → List Chg
  | .kv, l => l
  | .win _, l => sortW l
  | .ses _, l => l
def listK (K : KK) (l : List Chg) : List Chg := inK K l
def expC (K : KK) (m : Int) (l : List Chg) : List Chg := inK K ((l.filter (goneK K m)).map goneS)
def expL (K : KK) (m : Int) (l : List Chg) : List Chg := l.filter fun x => !goneK K m x
theorem inK_perm (K : KK) (l : List Chg) : (inK K l).Perm l := by cases K <;> first | exact .refl _ | exact List.mergeSort_perm _ _
theorem WfK.expL {K : KK} {l : List Chg} (w : WfK K l) (m : Int) : WfK K (Pk.expL K m l) := w.filter _
theorem sortW_sorted (l : List Chg) : SortedW (sortW l) := by
  unfold SortedW sortW
  have := List.pairwise_mergeSort (le := fun a b => !aheadW b a) (l := l) (fun a b c h1 h2 => ?_) (fun a b => ?_)
  · exact this.imp fun {a b} h => by simpa using h
  · simp only [aheadW, Bool.not_eq_true', decide_eq_false_iff_not] at *
    omega
  · simp only [aheadW, Bool.or_eq_true, Bool.not_eq_true', decide_eq_false_iff_not]
    omega
/-- What is sorted by windows is this, if no place is twice. -/
theorem sortW_is {l lc : List Chg} (hp : lc.Perm l) (hs : SortedW lc) (hn : (l.map plC).Nodup) : lc = sortW l :=
  sorted_unique (hp.trans (List.mergeSort_perm _ _).symm) hs (sortW_sorted l) ((hp.map plC).nodup_iff.2 hn)
/-! ### Late ones -/
def lateK : KK → Int → Int → Bool
  | .kv, _, _ => false
  | .win g, t, m => decide (frW g t + g ≤ m)
  | .ses g, t, m => decide (t + g ≤ m)
end Go.Proofs.YtedkjhifbibpmaaGreatDoor.Pk
namespace Go.Proofs.YtedkjhifbibpmaaGreatDoor.Pk
open Go Go.Proofs Go.Proofs.YtedkjhifbibpmaaGreatDoor.Ab
set_option linter.unusedVariables false
set_option linter.unusedSimpArgs false
/-! ### A map of windows, as a rising list -/
def RelW (g : Int) (e : Ent) (l : List Chg) : Prop := (e.map (chgW g)).Perm l
def winC (g k fr v : Int) : Chg := ⟨k, fr, fr + g, v, false⟩
theorem RelW.mem {g : Int} {e : Ent} {l : List Chg} (h : RelW g e l) (x : Chg) : x ∈ l ↔ ∃ s k fr v, (s, (k, fr), v) ∈ e ∧ x = winC g k fr v := by
  rw [← h.mem_iff, List.mem_map]
  constructor
  · rintro ⟨⟨s, ⟨k, fr⟩, v⟩, h1, rfl⟩; exact ⟨s, k, fr, v, h1, rfl⟩
  · rintro ⟨s, k, fr, v, h1, rfl⟩; exact ⟨_, h1, rfl⟩
theorem kget_iff {e : Ent} (hn : KNodup e) {k fr v : Int} : kget e (k, fr) = some v ↔ ∃ s, (s, (k, fr), v) ∈ e := by
  constructor
  · intro h
    clear hn
    induction e with
    | nil => cases h
    | cons a r ih =>
      unfold kget at h
      split at h
      · rename_i hk
        obtain ⟨s, kk, vv⟩ := a
        simp only at hk h
        subst hk
        cases h
        exact ⟨s, by simp⟩
      · obtain ⟨s, hs⟩ := ih h
        exact ⟨s, by simp [hs]⟩
  · rintro ⟨s, hs⟩
    exact kmem hn hs
theorem RelW.mem' {g : Int} {e : Ent} {l : List Chg} (h : RelW g e l) (hn : KNodup e) (x : Chg) : x ∈ l ↔ ∃ k fr v, kget e (k, fr) = some v ∧ x = winC g k fr v := by
  rw [h.mem x]
  constructor
  · rintro ⟨s, k, fr, v, h1, h2⟩; exact ⟨k, fr, v, (kget_iff hn).2 ⟨s, h1⟩, h2⟩
  · rintro ⟨k, fr, v, h1, h2⟩
    obtain ⟨s, hs⟩ := (kget_iff hn).1 h1
    exact ⟨s, k, fr, v, hs, h2⟩
theorem ss_nodup {l : List Chg} (h : SS l) : l.Nodup := h.imp fun {a b} hl e => by subst e; unfold lt3 at hl; omega
theorem knodup_map {g : Int} {e : Ent} (hn : KNodup e) : (e.map (chgW g)).Nodup := by
  have : ((e.map (chgW g)).map plC).Nodup := by
    rw [List.map_map]
    have e1 : (plC ∘ chgW g) = fun x : Nat × (Int × Int) × Int => x.2.1 := rfl
    rw [e1]; exact hn
  exact List.Pairwise.of_map plC (fun a b h e => h (by rw [e])) this
theorem RelW.of {g : Int} {e : Ent} {l : List Chg} (hn : KNodup e) (hs : SS l) (h : ∀ x, x ∈ l ↔ ∃ k fr v, kget e (k, fr) = some v ∧ x = winC g k fr v) : RelW g e l := by
  refine (List.perm_ext_iff_of_nodup (knodup_map hn) (ss_nodup hs)).2 fun x => ?_
  rw [h x, List.mem_map]
  constructor
  · rintro ⟨⟨s, ⟨k, fr⟩, v⟩, h1, rfl⟩; exact ⟨k, fr, v, (kget_iff hn).2 ⟨s, h1⟩, rfl⟩
  · rintro ⟨k, fr, v, h1, rfl⟩
    obtain ⟨s, hs⟩ := (kget_iff hn).1 h1
    exact ⟨_, hs, rfl⟩
theorem same3_winC {g : Int} {k fr v k2 fr2 v2 : Int} : same3 (winC g k fr v) (winC g k2 fr2 v2) = decide (k = k2 ∧ fr = fr2) := by
  rw [Bool.eq_iff_iff, same3_iff, decide_eq_true_eq]
  simp only [winC]
  constructor
  · rintro ⟨h1, h2, _⟩; exact ⟨h1, h2⟩
  · rintro ⟨rfl, rfl⟩; exact ⟨rfl, rfl, rfl⟩
theorem RelW.len {g : Int} {e : Ent} {l : List Chg} (h : RelW g e l) : e.length = l.length := by have := h.length_eq; simpa using this
theorem RelW.has {g : Int} {e : Ent} {l : List Chg} (h : RelW g e l) (hn : KNodup e) {x : Chg} {k fr v : Int} (hx : x = winC g k fr v) : has3 l x = (kget e (k, fr)).isSome := by
  subst hx
  rw [Bool.eq_iff_iff, has3_iff]
  constructor
  · rintro ⟨y, hy, hs⟩
    obtain ⟨k2, fr2, v2, h1, rfl⟩ := (h.mem' hn y).1 hy
    rw [same3_winC, decide_eq_true_eq] at hs
    obtain ⟨rfl, rfl⟩ := hs
    rw [h1]; rfl
  · intro hs
    obtain ⟨v2, hv⟩ := Option.isSome_iff_exists.1 hs
    exact ⟨winC g k fr v2, (h.mem' hn _).2 ⟨k, fr, v2, hv, rfl⟩, by rw [same3_winC]; simp⟩
theorem ss_find {l : List Chg} (hs : SS l) {x y : Chg} (hy : y ∈ l) (h : same3 y x = true) : l.filter (fun z => same3 z x) = [y] := by
  induction l with
  | nil => cases hy
  | cons a r ih =>
    have hp := List.pairwise_cons.1 hs
    rcases List.mem_cons.1 hy with rfl | hy
    · rw [List.filter_cons_of_pos (p := fun z => same3 z x) h]
      congr 1
      rw [List.filter_eq_nil_iff]
      intro z hz hzx
      have hl := hp.1 z hz
      rw [same3_iff] at h hzx
      unfold lt3 at hl
      omega
    · rw [List.filter_cons_of_neg (p := fun z => same3 z x)]
      · exact ih hp.2 hy
      · intro ha
        have hl := hp.1 y hy
        rw [same3_iff] at h ha
        unfold lt3 at hl
        omega
theorem valOf_some {l : List Chg} (hs : SS l) {x y : Chg} (hy : y ∈ l) (h : same3 y x = true) : valOf l x = y.val := by
  unfold valOf; rw [ss_find hs hy h]; rfl
theorem valOf_none {l : List Chg} {x : Chg} (h : has3 l x = false) : valOf l x = 0 := by
  unfold valOf
  have : l.filter (fun z => same3 z x) = [] := by
    rw [List.filter_eq_nil_iff]
    intro z hz hzx
    have := has3_iff.2 ⟨z, hz, hzx⟩
    rw [this] at h; cases h
  rw [this]; rfl
theorem RelW.val {g : Int} {e : Ent} {l : List Chg} (h : RelW g e l) (hn : KNodup e) (hs : SS l) {k fr v : Int} : valOf l (winC g k fr v) = (kget e (k, fr)).getD 0 := by
  cases hk : kget e (k, fr) with
  | none => rw [valOf_none (by rw [h.has hn rfl, hk]; rfl)]; rfl
  | some u => rw [valOf_some hs ((h.mem' hn (winC g k fr u)).2 ⟨k, fr, u, hk, rfl⟩) (by rw [same3_winC]; simp)]; rfl
theorem RelW.set {g : Int} {e : Ent} {l : List Chg} (h : RelW g e l) (hn : KNodup e) (hs : SS l) (cl : Nat) (k fr v : Int) : RelW g (kset cl e (k, fr) v) (setL l (winC g k fr v)) := by
  refine RelW.of (hn.set _ _ _) ((ss_rm3 hs _).insS (has3_rm _ _)) fun x => ?_
  unfold setL
  rw [mem_ins3, mem_rm3]
  constructor
  · rintro (rfl | ⟨h1, h2⟩)
    · exact ⟨k, fr, v, by rw [kget_kset, if_pos rfl], rfl⟩
    · obtain ⟨k2, fr2, v2, h3, rfl⟩ := (h.mem' hn x).1 h1
      rw [same3_winC, decide_eq_false_iff_not] at h2
      exact ⟨k2, fr2, v2, by rw [kget_kset, if_neg (fun q => h2 (by cases q; exact ⟨rfl, rfl⟩))]; exact h3, rfl⟩
  · rintro ⟨k2, fr2, v2, h3, rfl⟩
    rw [kget_kset] at h3
    by_cases hk : (k2, fr2) = (k, fr)
    · rw [if_pos hk] at h3
      cases hk
      cases h3
      exact .inl rfl
    · rw [if_neg hk] at h3
      refine .inr ⟨(h.mem' hn _).2 ⟨k2, fr2, v2, h3, rfl⟩, ?_⟩
      rw [same3_winC, decide_eq_false_iff_not]
      rintro ⟨rfl, rfl⟩
      exact hk rfl
theorem rm3_same' {l : List Chg} {x y : Chg} (h : same3 x y = true) : rm3 l x = rm3 l y := by
  unfold rm3
  refine List.filter_congr fun z _ => ?_
  rw [same3_iff] at h
  have : same3 z x = same3 z y := by rw [Bool.eq_iff_iff, same3_iff, same3_iff, h.1, h.2.1, h.2.2]
  rw [this]
theorem RelW.del {g : Int} {e : Ent} {l : List Chg} (h : RelW g e l) (hn : KNodup e) (hs : SS l) {k fr : Int} {c : Chg} (hc : same3 c (winC g k fr 0) = true) : RelW g (kdel e (k, fr)) (rm3 l c) := by
  rw [rm3_same' hc]
  refine RelW.of (hn.del _) (ss_rm3 hs _) fun x => ?_
  rw [mem_rm3]
  constructor
  · rintro ⟨h1, h2⟩
    obtain ⟨k2, fr2, v2, h3, rfl⟩ := (h.mem' hn x).1 h1
    rw [same3_winC, decide_eq_false_iff_not] at h2
    exact ⟨k2, fr2, v2, by rw [kget_kdel hn, if_neg (fun q => h2 (by cases q; exact ⟨rfl, rfl⟩))]; exact h3, rfl⟩
  · rintro ⟨k2, fr2, v2, h3, rfl⟩
    rw [kget_kdel hn] at h3
    split at h3
    · cases h3
    · rename_i hk
      refine ⟨(h.mem' hn _).2 ⟨k2, fr2, v2, h3, rfl⟩, ?_⟩
      rw [same3_winC, decide_eq_false_iff_not]
      rintro ⟨rfl, rfl⟩
      exact hk rfl
theorem RelW.filter {g b : Int} {e : Ent} {l : List Chg} (h : RelW g e l) : RelW g (e.filter fun x => !gnW g b x) (l.filter fun x => !decide (x.to ≤ b)) := by
  unfold RelW
  have := List.Perm.filter (fun x : Chg => !decide (x.to ≤ b)) (show (e.map (chgW g)).Perm l from h)
  rw [List.filter_map] at this
  exact this
theorem RelW.gone {g b : Int} {e : Ent} {l lc : List Chg} (h : RelW g e l) (hp : lc.Perm ((e.filter (gnW g b)).map (goneW g))) : lc.Perm ((l.filter fun x => decide (x.to ≤ b)).map goneS) := by
  refine hp.trans ?_
  have := (List.Perm.filter (fun x : Chg => decide (x.to ≤ b)) (show (e.map (chgW g)).Perm l from h)).map goneS
  rw [List.filter_map, List.map_map] at this
  exact this
theorem nodup_pl {g : Int} {l : List Chg} (w : WfK (.win g) l) : (l.map plC).Nodup := by
  refine List.pairwise_map.2 (w.ss.imp_of_mem fun {a b} ha hb hl hpl => ?_)
  have h1 := w.ok a ha
  have h2 := w.ok b hb
  simp only [badK, isW, Bool.or_eq_false_iff, Bool.not_eq_false', Bool.and_eq_true, decide_eq_true_eq] at h1 h2
  have e1 : a.key = b.key := congrArg Prod.fst hpl
  have e2 : a.fr = b.fr := congrArg Prod.snd hpl
  unfold lt3 at hl
  omega
theorem RelW.list {g : Int} {e : Ent} {l lc : List Chg} (w : WfK (.win g) l) (h : RelW g e l) (hp : lc.Perm (e.map (chgW g))) (hs : SortedW lc) : lc = sortW l := sortW_is (hp.trans h) hs (nodup_pl w)
theorem RelW.exp {g b : Int} {e : Ent} {l lc : List Chg} (w : WfK (.win g) l) (h : RelW g e l) (hp : lc.Perm ((e.filter (gnW g b)).map (goneW g))) (hs : SortedW lc) : lc = sortW ((l.filter fun x => decide (x.to ≤ b)).map goneS) := by
  refine sortW_is (h.gone hp) hs ?_
  rw [List.map_map]
  have e1 : (plC ∘ goneS) = plC := rfl
  rw [e1]
  exact (nodup_pl w).sublist (List.filter_sublist.map _)
/-! ### Rising pairs, as a rising list -/
def kvC (p : Pr) : Chg := ⟨p.1, 0, 0, p.2, false⟩
theorem kv_iff {l : List Pr} (hs : Srt l) {k v : Int} : (k, v) ∈ l ↔ look l k = some v := ⟨fun h => look_mem hs h, look_some⟩
theorem kv_mem {l : List Pr} (hs : Srt l) {x : Chg} : x ∈ l.map kvC ↔ ∃ k v, look l k = some v ∧ x = ⟨k, 0, 0, v, false⟩ := by
  rw [List.mem_map]
  constructor
  · rintro ⟨⟨k, v⟩, h1, rfl⟩; exact ⟨k, v, (kv_iff hs).1 h1, rfl⟩
  · rintro ⟨k, v, h1, rfl⟩; exact ⟨_, (kv_iff hs).2 h1, rfl⟩
theorem kv_ss {l : List Pr} (hs : Srt l) : SS (l.map kvC) := by
  refine List.pairwise_map.2 (hs.imp fun {a b} h => ?_)
  exact .inl h
theorem kv_same {k k2 v v2 : Int} {d d2 : Bool} : same3 ⟨k, 0, 0, v, d⟩ ⟨k2, 0, 0, v2, d2⟩ = decide (k = k2) := by
  rw [Bool.eq_iff_iff, same3_iff, decide_eq_true_eq]
  simp
theorem kv_has {l : List Pr} (hs : Srt l) {k v : Int} {d : Bool} : has3 (l.map kvC) ⟨k, 0, 0, v, d⟩ = has l k := by
  rw [Bool.eq_iff_iff, has3_iff]
  unfold has
  constructor
  · rintro ⟨y, hy, h⟩
    obtain ⟨k2, v2, h1, rfl⟩ := (kv_mem hs).1 hy
    rw [kv_same, decide_eq_true_eq] at h
    subst h
    rw [h1]; rfl
  · intro h
    obtain ⟨v2, hv⟩ := Option.isSome_iff_exists.1 h
    exact ⟨_, (kv_mem hs).2 ⟨k, v2, hv, rfl⟩, by rw [kv_same]; simp⟩
theorem kv_val {l : List Pr} (hs : Srt l) {k v : Int} {d : Bool} : valOf (l.map kvC) ⟨k, 0, 0, v, d⟩ = (look l k).getD 0 := by
  cases hk : look l k with
  | none => rw [valOf_none (by rw [kv_has hs, has, hk]; rfl)]; rfl
  | some u => rw [valOf_some (kv_ss hs) ((kv_mem hs).2 ⟨k, u, hk, rfl⟩) (by rw [kv_same]; simp)]; rfl
theorem kv_set {l : List Pr} (hs : Srt l) (k v : Int) : (put l k v).map kvC = setL (l.map kvC) ⟨k, 0, 0, v, false⟩ := by
  refine SS.eq_of_mem (kv_ss (srt_put hs k v)) ((ss_rm3 (kv_ss hs) _).insS (has3_rm _ _)) fun x => ?_
  unfold setL
  rw [kv_mem (srt_put hs k v), mem_ins3, mem_rm3, kv_mem hs]
  constructor
  · rintro ⟨k2, v2, h1, rfl⟩
    rw [look_put l k v k2 hs] at h1
    split at h1
    · rename_i e; subst e; cases h1; exact .inl rfl
    · rename_i e; exact .inr ⟨⟨k2, v2, h1, rfl⟩, by rw [kv_same, decide_eq_false_iff_not]; exact e⟩
  · rintro (rfl | ⟨⟨k2, v2, h1, rfl⟩, h2⟩)
    · exact ⟨k, v, by rw [look_put l k v k hs, if_pos rfl], rfl⟩
    · rw [kv_same, decide_eq_false_iff_not] at h2
      exact ⟨k2, v2, by rw [look_put l k v k2 hs, if_neg h2]; exact h1, rfl⟩
end Go.Proofs.YtedkjhifbibpmaaGreatDoor.Pk
