/-
  What functions of the program do, told of abstract states. Conditions: as each theorem says.
-/
import Derived.Test.YtilgpaibolollaaGreatNc
import Derived.Test.YtilgpaibolollaaGreatNb
import Derived.Test.YtilgpaibolollaaGreatAcD
namespace Go.Proofs.YtilgpaibolollaaGreat.Pk
open Go Go.Proofs Go.Proofs.YtilgpaibolollaaGreat.Ab
set_option maxRecDepth 10000
set_option linter.unusedVariables false
set_option linter.unusedSimpArgs false
theorem pb0 {room : Int} {bs : List Nat} {x : Act} (ho : okAct x) (hf : (bs.length : Int) + 60 + x.bytes.length ≤ room) : putBad room bs (payN x) = 0 := by
  obtain ⟨h1, h2, h3, h4⟩ := ho
  have e1 := enc_le x.kind.toNat (by omega)
  have e2 := enc_le x.epoch.toNat (by omega)
  have e3 := enc_le x.at_.toNat (by omega)
  have e4 := enc_le x.bytes.length (by omega)
  have hp : (payN x).length ≤ 40 + x.bytes.length := by
    unfold payN encBytes
    split <;> simp only [List.length_append] <;> omega
  have e5 := enc_le (payN x).length (by omega)
  have hF : (frame (payN x)).length ≤ 14 + (payN x).length := by
    unfold frame encBytes
    rw [List.length_append, List.length_append, sumL_len]
    omega
  unfold putBad
  rw [if_neg (by omega), if_pos (by omega)]
theorem fr_len (x : Act) (ho : okAct x) : (frame (payN x)).length ≤ 54 + x.bytes.length := by
  obtain ⟨h1, h2, h3, h4⟩ := ho
  have e1 := enc_le x.kind.toNat (by omega)
  have e2 := enc_le x.epoch.toNat (by omega)
  have e3 := enc_le x.at_.toNat (by omega)
  have e4 := enc_le x.bytes.length (by omega)
  have hp : (payN x).length ≤ 40 + x.bytes.length := by
    unfold payN encBytes
    split <;> simp only [List.length_append] <;> omega
  have e5 := enc_le (payN x).length (by omega)
  unfold frame encBytes
  rw [List.length_append, List.length_append, sumL_len]
  omega
/-! ### SlotNobody -/
end Go.Proofs.YtilgpaibolollaaGreat.Pk
namespace Go.Proofs.YtilgpaibolollaaGreat.Pk
open Go Go.Proofs Go.Proofs.YtilgpaibolollaaGreat.Ab
set_option linter.unusedVariables false
/-! ### The reference's node: its epoch, its cells by rising slots (pure) -/
abbrev RNd := Int × List Cel
def Rise (l : List Cel) : Prop := l.Pairwise fun a b => a.at_ < b.at_
def rfind (l : List Cel) (k : Int) : Option Cel := l.find? fun c => decide (c.at_ = k)
def rwith (l : List Cel) (c : Cel) : List Cel := (l.filter fun d => decide (d.at_ < c.at_)) ++ c :: (l.filter fun d => decide (c.at_ < d.at_))
def folR (n : RNd) (a : Act) : Bool :=
  if a.kind = 2 then decide (n.1 ≤ a.epoch) else decide (n.1 ≤ a.epoch) && (match rfind n.2 a.at_ with | some c => decide (c.epoch < a.epoch) | none => true)
def redoR (n : RNd) (p : List Nat) : RNd :=
  if (readC p).2 && folR n (readC p).1 then (if (readC p).1.kind = 2 then ((readC p).1.epoch, n.2) else (n.1, rwith n.2 ⟨(readC p).1.at_, (readC p).1.epoch, (readC p).1.bytes⟩)) else n
def redoRL (l : List (List Nat)) : RNd := l.foldl redoR (0, [])
theorem redoRL_snoc (l : List (List Nat)) (p : List Nat) : redoRL (l ++ [p]) = redoR (redoRL l) p := by unfold redoRL; rw [List.foldl_append]; rfl

/-- A node and the reference's. -/
structure Like (s : NSt) (n : RNd) : Prop where
  ep : s.1 = n.1
  ri : Rise n.2
  mem : ∀ k c, kget s.2.1 k = some c ↔ c ∈ n.2 ∧ c.at_ = k
theorem Rise.find {l : List Cel} (r : Rise l) (k : Int) (c : Cel) : rfind l k = some c ↔ c ∈ l ∧ c.at_ = k := by
  unfold rfind
  induction l with
  | nil => simp
  | cons d l ih =>
    rw [List.find?_cons]
    have hd : ∀ b ∈ l, d.at_ < b.at_ := (List.pairwise_cons.1 r).1
    have ih := ih (List.pairwise_cons.1 r).2
    by_cases h : d.at_ = k
    · rw [show decide (d.at_ = k) = true by simpa using h]
      simp only [Option.some.injEq, List.mem_cons]
      constructor
      · rintro rfl; exact ⟨.inl rfl, h⟩
      · rintro ⟨e | e, hk⟩
        · exact e.symm
        · have := hd c e; omega
    · rw [show decide (d.at_ = k) = false by simpa using h]
      simp only [List.mem_cons]
      rw [ih]
      constructor
      · rintro ⟨h1, h2⟩; exact ⟨.inr h1, h2⟩
      · rintro ⟨e | e, hk⟩
        · subst e; exact absurd hk h
        · exact ⟨e, hk⟩
theorem Rise.with {l : List Cel} (r : Rise l) (c : Cel) : Rise (rwith l c) := by
  unfold Rise rwith
  rw [List.pairwise_append]
  refine ⟨r.filter _, List.pairwise_cons.2 ⟨fun b hb => by simpa using (List.mem_filter.1 hb).2, r.filter _⟩, fun a ha b hb => ?_⟩
  have h1 : a.at_ < c.at_ := by simpa using (List.mem_filter.1 ha).2
  rcases List.mem_cons.1 hb with rfl | hb
  · exact h1
  · have h2 : c.at_ < b.at_ := by simpa using (List.mem_filter.1 hb).2
    omega
theorem mem_rwith (l : List Cel) (c d : Cel) : d ∈ rwith l c ↔ d = c ∨ (d ∈ l ∧ d.at_ ≠ c.at_) := by
  unfold rwith
  simp only [List.mem_append, List.mem_cons, List.mem_filter, decide_eq_true_eq]
  constructor
  · rintro (⟨h1, h2⟩ | h | ⟨h1, h2⟩)
    · exact .inr ⟨h1, by omega⟩
    · exact .inl h
    · exact .inr ⟨h1, by omega⟩
  · rintro (h | ⟨h1, h2⟩)
    · exact .inr (.inl h)
    · by_cases h3 : d.at_ < c.at_
      · exact .inl ⟨h1, h3⟩
      · exact .inr (.inr ⟨h1, by omega⟩)
theorem Like.find {s : NSt} {n : RNd} (w : Like s n) (k : Int) : kget s.2.1 k = rfind n.2 k := by
  cases h : kget s.2.1 k with
  | some c => exact ((w.ri.find k c).2 ((w.mem k c).1 h)).symm
  | none =>
    cases h2 : rfind n.2 k with
    | none => rfl
    | some c => rw [(w.mem k c).2 ((w.ri.find k c).1 h2)] at h; cases h
theorem Like.nil : Like (0, [], 0) (0, []) := ⟨rfl, List.Pairwise.nil, fun k c => by simp [kget]⟩
theorem Like.redo {s : NSt} {n : RNd} (w : Like s n) (p : List Nat) : Like (redo s p) (redoR n p) := by
  unfold Pk.redo redoR
  generalize (readC p).1 = a
  cases (readC p).2 with
  | false => exact w
  | true =>
    simp only [Bool.true_and]
    have hf := w.find a.at_
    by_cases hk : a.kind = 2
    · by_cases h1 : s.1 < a.epoch
      · rw [if_pos (by simp [folB, hk, h1]), if_pos (by have := w.ep; simp [folR, hk]; omega), if_pos hk]
        exact ⟨by simp [appE, hk], w.ri, by simpa [appC, hk] using w.mem⟩
      · rw [if_neg (by simp [folB, hk]; omega)]
        by_cases h2 : n.1 ≤ a.epoch
        · rw [if_pos (by simp [folR, hk, h2]), if_pos hk]
          exact ⟨by have := w.ep; simp only; omega, w.ri, w.mem⟩
        · rw [if_neg (by simp [folR, hk]; omega)]
          exact w
    · have e : folB s.1 s.2.1 a = folR n a := by unfold folB folR; rw [if_neg hk, if_neg hk, hf, w.ep]; rfl
      rw [e]
      split
      · refine ⟨by simp [appE, hk, w.ep], w.ri.with _, fun k c => ?_⟩
        simp only [appC, if_neg hk]
        rw [kget_kset, mem_rwith]
        by_cases hx : k = a.at_
        · rw [if_pos hx]
          simp only [Option.some.injEq]
          constructor
          · rintro rfl; exact ⟨.inl rfl, hx.symm⟩
          · rintro ⟨e | ⟨_, e⟩, h2⟩
            · exact e.symm
            · exact absurd (h2.trans hx) e
        · rw [if_neg hx, w.mem]
          constructor
          · rintro ⟨h1, h2⟩; exact ⟨.inr ⟨h1, by simp only; omega⟩, h2⟩
          · rintro ⟨e | ⟨h1, _⟩, h2⟩
            · subst e; exact absurd h2.symm hx
            · exact ⟨h1, h2⟩
      · exact w
theorem like_all (l : List (List Nat)) : Like (redoL l) (redoRL l) := by
  unfold redoL redoRL
  have : ∀ (l : List (List Nat)) (s : NSt) (n : RNd), Like s n → Like (l.foldl Pk.redo s) (l.foldl redoR n) := by
    intro l
    induction l with
    | nil => exact fun s n w => w
    | cons p l ih => exact fun s n w => ih _ _ (w.redo p)
  exact this l _ _ Like.nil
theorem Rise.ext : ∀ {a b : List Cel}, Rise a → Rise b → (∀ c, c ∈ a ↔ c ∈ b) → a = b
  | [], [], _, _, _ => rfl
  | [], d :: b, _, _, h => by have := (h d).2 (by simp); cases this
  | c :: a, [], _, _, h => by have := (h c).1 (by simp); cases this
  | c :: a, d :: b, ra, rb, h => by
    have ha := (List.pairwise_cons.1 ra).1
    have hb := (List.pairwise_cons.1 rb).1
    have e : c = d := by
      rcases List.mem_cons.1 ((h c).1 (by simp)) with e | e
      · exact e
      · rcases List.mem_cons.1 ((h d).2 (by simp)) with e2 | e2
        · exact e2.symm
        · have h1 := ha d e2; have h2 := hb c e; omega
    subst e
    have := Rise.ext (a := a) (b := b) (List.pairwise_cons.1 ra).2 (List.pairwise_cons.1 rb).2 fun x => by
      constructor
      · intro hx
        rcases List.mem_cons.1 ((h x).1 (List.mem_cons_of_mem _ hx)) with e | e
        · subst e; have := ha x hx; omega
        · exact e
      · intro hx
        rcases List.mem_cons.1 ((h x).2 (List.mem_cons_of_mem _ hx)) with e | e
        · subst e; have := hb x hx; omega
        · exact e
    rw [this]
theorem kget_iff {es : Ces} (nd : KNodup es) (sm : ∀ e ∈ es, e.2.2.at_ = e.2.1) (c : Cel) : kget es c.at_ = some c ↔ c ∈ es.map (·.2.2) := by
  induction es with
  | nil => simp [kget]
  | cons e r ih =>
    have h1 : ∀ x ∈ r, x.2.1 ≠ e.2.1 := by
      have := nd
      unfold KNodup at this
      rw [List.map_cons, List.nodup_cons] at this
      intro x hx hh
      exact this.1 (hh ▸ List.mem_map_of_mem hx)
    have h2 : KNodup r := by
      have := nd
      unfold KNodup at this ⊢
      rw [List.map_cons, List.nodup_cons] at this
      exact this.2
    have se := sm e (by simp)
    have ih := ih h2 fun x hx => sm x (List.mem_cons_of_mem _ hx)
    rw [List.map_cons, List.mem_cons]
    show (if c.at_ = e.2.1 then some e.2.2 else kget r c.at_) = some c ↔ _
    by_cases hk : c.at_ = e.2.1
    · rw [if_pos hk, Option.some.injEq]
      constructor
      · intro h; exact .inl h.symm
      · rintro (h | h)
        · exact h.symm
        · obtain ⟨x, hx, rfl⟩ := List.mem_map.1 h
          have := sm x (List.mem_cons_of_mem _ hx)
          exact absurd (this.symm.trans hk) (h1 x hx)
    · rw [if_neg hk, ih]
      constructor
      · exact .inr
      · rintro (h | h)
        · subst h; exact absurd se hk
        · exact h
/-- What a node tells in the order of slots is the reference's row. -/
theorem Like.all {s : NSt} {n : RNd} (w : Like s n) (nd : KNodup s.2.1) (sm : ∀ e ∈ s.2.1, e.2.2.at_ = e.2.1) {out : List Cel} (hp : out.Perm (s.2.1.map (·.2.2))) (ho : out.Pairwise fun a b => ¬ b.at_ < a.at_) : out = n.2 := by
  refine Rise.ext ?_ w.ri fun c => ?_
  · have e : (s.2.1.map (·.2.2)).map (·.at_) = s.2.1.map (·.2.1) := by
      rw [List.map_map]
      exact List.map_congr_left fun x hx => sm x hx
    have h1 : (out.map (·.at_)).Nodup := by
      have := hp.map (·.at_)
      rw [e] at this
      exact this.nodup_iff.2 nd
    have h2 : out.Pairwise fun a b => a.at_ ≠ b.at_ := List.pairwise_map.1 h1
    exact (ho.and h2).imp fun {a b} h => by have := h.1; have := h.2; omega
  · rw [hp.mem_iff, ← kget_iff nd sm, w.mem]
    simp
end Go.Proofs.YtilgpaibolollaaGreat.Pk
namespace Go.Proofs.YtilgpaibolollaaGreat.Pk
open Go Go.Proofs Go.Proofs.YtilgpaibolollaaGreat.Ab
set_option maxRecDepth 10000
set_option linter.unusedVariables false
set_option linter.unusedSimpArgs false
/-! ### Layer 8 of the reference: find -/
def rnE (room : Int) (s m : List Nat) (torn : Int) (n : RNd) : List V := [.int .i64 room, .imm s.length (bytesV s), .imm m.length (bytesV m), .int .i64 torn, .int .i64 n.1, .imm n.2.length (n.2.flatMap celE)]
theorem cels_clo (l : List Cel) : CloL (l.flatMap celE) := rows_clo celE_clo l
theorem rnE_clo (room : Int) (s m : List Nat) (torn : Int) (n : RNd) : CloL (rnE room s m torn n) :=
  CloL.cons (Clo.int _ _) (CloL.cons (Clo.imm (bytesV_clo _)) (CloL.cons (Clo.imm (bytesV_clo _)) (CloL.cons (Clo.int _ _) (CloL.cons (Clo.int _ _) (CloL.cons (Clo.imm (cels_clo _)) CloL.nil)))))
theorem cel_ixR {l : List Cel} {k : Nat} (hk : k < l.length) {kk : IntKind} : aIndexAddr Tryz.prog 38 (.imm l.length (l.flatMap celE)) (.int kk (k : Int)) = some (.at (celE l[k] ++ (l.drop (k + 1)).flatMap celE)) := rows_ix celE_len hk ss_38
def findI (l : List Cel) (k : Int) : Int := match l.findIdx? (fun c => decide (c.at_ = k)) with | some i => (i : Int) | none => -1
theorem findI_at {l : List Cel} {k : Int} {i : Nat} (hi : i < l.length) (h0 : ∀ j (hj : j < l.length), j < i → l[j].at_ ≠ k) (h1 : l[i].at_ = k) : findI l k = (i : Int) := by
  have : l.findIdx? (fun c => decide (c.at_ = k)) = some i := by
    rw [List.findIdx?_eq_some_iff_getElem]
    exact ⟨hi, by simpa using h1, fun j hj => by simpa using h0 j (by omega) hj⟩
  unfold findI
  rw [this]
theorem findI_none {l : List Cel} {k : Int} (h0 : ∀ j (hj : j < l.length), l[j].at_ ≠ k) : findI l k = -1 := by
  have : l.findIdx? (fun c => decide (c.at_ = k)) = none := by
    rw [List.findIdx?_eq_none_iff]
    intro x hx
    obtain ⟨j, hj, rfl⟩ := List.getElem_of_mem hx
    simpa using h0 j hj
  unfold findI
  rw [this]
theorem pFindR (room : Int) (s m : List Nat) (torn : Int) (n : RNd) (hl : n.2.length ≤ 2 ^ 40) (k : Int) (h : AHeap) : Pure Tryz.prog 51 [.agg (rnE room s m torn n), .int .i64 k] h (.int .i64 (findI n.2 k)) := by
  obtain ⟨ep, l⟩ := n
  simp only at hl
  refine Pure.val (Clo.int _ _) ?_
  refine SCalls.enterI (c := _) Tryz.func51 rfl (by kernel_rfl) (by simp) ?_
  have hcl : (V.agg (rnE room s m torn (ep, l))).cells = some (rnE room s m torn (ep, l)) := rfl
  simp only [bW, Int.reduceNeg, hcl]
  have k0 : Keep h (h.push (.cells (rnE room s m torn (ep, l)) 40 none)) none_ := Keep.push _ _ _
  have g0 : (h.push (.cells (rnE room s m torn (ep, l)) 40 none)).get h.n = .cells (rnE room s m torn (ep, l)) 40 none := get_push_new
  have e5 : dropC (AObj.cells (rnE room s m torn (ep, l)) 40 none) 5 = some [.imm l.length (l.flatMap celE)] := rfl
  generalize h.push (.cells (rnE room s m torn (ep, l)) 40 none) = H at k0 g0 ⊢
  refine SWp.loopG (α := Nat) (fun i f h' => h' = H ∧ f 1 = .int .i64 k ∧ f 2 = .ptr h.n 0 ∧ f 5 = .int .i64 (i : Nat) ∧ i ≤ l.length ∧ ∀ j (hj : j < l.length), j < i → l[j].at_ ≠ k) (fun i => l.length - i) 0
    ⟨rfl, rfl, rfl, rfl, Nat.zero_le _, fun j hj h => absurd h (Nat.not_lt_zero _)⟩ ?_
  rintro i f h' ⟨rfl, f1, f2, f5, hi, hno⟩
  refine wpI_sound (by kernel_rfl) ?_
  by_cases hlt : i < l.length
  · have d1 : decide ((i : Int) < ((l.length : Nat) : Int)) = true := by simp; omega
    have hx := cel_ixR hlt (kk := .i64)
    have l0 : loadGo (some none) (some (celE l[i] ++ (l.drop (i + 1)).flatMap celE)) = some (.int .i64 l[i].at_) := rfl
    have hi1 : IntKind.i64.wrap ((i : Int) + 1) = ((i + 1 : Nat) : Int) := by rw [Go.IntWalk.i64_in _ (by omega)]; rfl
    by_cases hk : l[i].at_ = k
    · have c1 : (l[i].at_ == k) = true := by simpa using hk
      simp only [bW, Int.reduceNeg, Nat.reduceEqDiff, ft_40_2, ft_51_0, kt_38, lt_3, lt_38, f1, f2, f5, g0, e5, d1, hx, l0, c1, retA_ret, Tryz.results51, resultsA_1]
      exact hid_mk ⟨by rw [findI_at hlt hno hk], k0⟩
    · have c1 : (l[i].at_ == k) = false := by simpa using hk
      simp only [bW, Int.reduceNeg, Nat.reduceEqDiff, ft_40_2, ft_51_0, kt_38, lt_3, lt_38, f1, f2, f5, g0, e5, d1, hx, l0, c1, hi1]
      exact hid_mk ⟨i + 1, ⟨rfl, f1, f2, rfl, hlt, fun j hj hji => by
        by_cases e : j = i
        · subst e; exact hk
        · exact hno j hj (by omega)⟩, by omega⟩
  · have d1 : decide ((i : Int) < ((l.length : Nat) : Int)) = false := by simp; omega
    simp only [bW, Int.reduceNeg, Nat.reduceEqDiff, ft_40_2, kt_38, lt_38, f2, f5, g0, e5, d1, retA_ret, Tryz.results51, resultsA_1]
    exact hid_mk ⟨by rw [findI_none fun j hj => hno j hj (by omega)], k0⟩
end Go.Proofs.YtilgpaibolollaaGreat.Pk
namespace Go.Proofs.YtilgpaibolollaaGreat.Pk
open Go Go.Proofs Go.Proofs.YtilgpaibolollaaGreat.Ab
set_option maxRecDepth 10000
set_option linter.unusedVariables false
set_option linter.unusedSimpArgs false
def val : List Nat → Nat
  | [] => 0
  | g :: r => g % 128 + 128 * val r
theorem val_snoc (l : List Nat) (g : Nat) : val (l ++ [g]) = val l + g % 128 * 128 ^ l.length := by
  induction l with
  | nil => simp [val]
  | cons x l ih =>
    rw [List.cons_append, val, val, ih, List.length_cons, Nat.pow_succ, Nat.mul_add, Nat.add_assoc]
    congr 2
    rw [← Nat.mul_assoc, Nat.mul_comm 128 (g % 128), Nat.mul_assoc, Nat.mul_comm 128 (128 ^ l.length)]
theorem p7 (k : Nat) : 2 ^ (7 * k) = 128 ^ k := by rw [Nat.pow_mul]
theorem dec_run : ∀ (k : Nat) (bs : List Nat) (at_ acc : Nat), k ≤ bs.length → at_ + k ≤ 9 → (∀ (i : Nat) (hi : i < bs.length), i < k → 128 ≤ bs[i]) → dec bs at_ acc = dec (bs.drop k) (at_ + k) (acc + val (bs.take k) * 2 ^ (7 * at_))
  | 0, bs, at_, acc, _, _, _ => by simp [val]
  | k + 1, [], at_, acc, h, _, _ => by simp at h
  | k + 1, g :: r, at_, acc, h, ha, hb => by
    have h0 := hb 0 (by simp) (by omega)
    simp at h0
    rw [dec, if_neg (by omega), if_pos h0, dec_run k r (at_ + 1) _ (by simpa using h) (by omega) (fun i hi hk => by
      have := hb (i + 1) (by simpa using hi) (by omega)
      simpa using this)]
    rw [List.drop_succ_cons, List.take_succ_cons, val, show at_ + 1 + k = at_ + (k + 1) by omega]
    congr 1
    rw [p7, p7, Nat.pow_succ, Nat.add_mul, Nat.add_assoc]
    congr 2
    rw [Nat.mul_comm (128 ^ at_) 128, ← Nat.mul_assoc, Nat.mul_comm (val _) 128]
theorem val_drop : ∀ (l : List Nat) (j : Nat), val (l.drop j) ≤ val l
  | [], j => by simp
  | g :: r, 0 => by simp
  | g :: r, j + 1 => by
    have := val_drop r j
    rw [List.drop_succ_cons, val]
    omega
def rdGot (bs : List Nat) : Nat × List Nat × Nat := if (dec bs 0 0).2.2 = 0 then ((dec bs 0 0).1, bs.drop (dec bs 0 0).2.1, 0) else (0, bs, (dec bs 0 0).2.2)
def gotC (bs : List Nat) : List V := [.int .u64 ((rdGot bs).1 : Nat), .imm (rdGot bs).2.1.length (bytesV (rdGot bs).2.1), .int .i64 ((rdGot bs).2.2 : Nat)]
theorem rdGot_bad {bs : List Nat} {e : Nat} (h : dec bs 0 0 = (0, 0, e)) (he : e ≠ 0) : rdGot bs = (0, bs, e) := by
  unfold rdGot; rw [h]; simp [he]
theorem gotC_bad {bs : List Nat} {e : Nat} (h : dec bs 0 0 = (0, 0, e)) (he : e ≠ 0) : gotC bs = [.int .u64 0, .imm bs.length (bytesV bs), .int .i64 (e : Nat)] := by
  unfold gotC; rw [rdGot_bad h he]; rfl
theorem bytes_ix {bs : List Nat} {k : Nat} (hk : k < bs.length) {kk : IntKind} : aIndexAddr Tryz.prog 29 (.imm bs.length (bytesV bs)) (.int kk (k : Int)) = some (.at (.int .u8 (bs[k] : Nat) :: bytesV (bs.drop (k + 1)))) := by
  rw [index_imm ss_29 (by omega) (by omega) (by rw [bytesV_length]; omega), Int.toNat_natCast, bytes_drop hk]
set_option maxRecDepth 10000 in
theorem ReadUint (bs : List Nat) (h : AHeap) (hb : ∀ b ∈ bs, b < 256) (hc : bs.length ≤ 2 ^ 47) :
    Pure Tryz.prog 87 [.imm bs.length (bytesV bs)] h (.agg (gotC bs)) := by
  refine Pure.val (Clo.agg (CloL.cons (Clo.int _ _) (CloL.cons (Clo.imm (bytesV_clo _)) (CloL.cons (Clo.int _ _) CloL.nil)))) ?_
  refine SCalls.enterI (c := _) Tryz.func87 rfl (by kernel_rfl) (by simp) ?_
  simp only [bW, zc_162]
  refine SWp.loopG (α := Nat) (fun k f h' => h' = h.push (.cells [.int .u64 0, .snil, .int .i64 0] 162 none) ∧ f 0 = .imm bs.length (bytesV bs) ∧ f 2 = .ptr h.n 0 ∧ f 3 = .int .i64 (k : Nat) ∧ k ≤ 10 ∧ k ≤ bs.length ∧ ∀ (i : Nat) (hi : i < bs.length), i < k → 128 ≤ bs[i]) (fun k => 10 - k) 0
    ⟨rfl, rfl, rfl, rfl, by omega, by omega, by omega⟩ ?_
  rintro k f h1 ⟨rfl, f0, f2, f3, hk10, hkl, hall⟩
  refine wpI_sound (by kernel_rfl) ?_
  have kp : Keep h (h.push (.cells [.int .u64 0, .snil, .int .i64 0] 162 none)) none_ := Keep.push _ _ _
  by_cases hend : k = 10
  · subst hend
    have hlt : 9 < bs.length := by omega
    have hd : dec bs 0 0 = (0, 0, 5) := by
      rw [dec_run 9 bs 0 0 (by omega) (by omega) fun i hi h9 => hall i hi (by omega), List.drop_eq_getElem_cons hlt, dec, if_pos ⟨by omega, by have := hall 9 hlt (by omega); omega⟩]
    have hg := gotC_bad hd (by decide)
    have c1 : decide (((10 : Nat) : Int) < ((bs.length : Nat) : Int)) = true ∨ decide (((10 : Nat) : Int) < ((bs.length : Nat) : Int)) = false := by cases decide (((10 : Nat) : Int) < ((bs.length : Nat) : Int)) <;> simp
    have c2 : decide (((10 : Nat) : Int) < 10) = false := by decide
    have c3 : (((10 : Nat) : Int) == 10) = true := by decide
    rcases c1 with c1 | c1
    · simp only [bW, Nat.reduceEqDiff, Nat.reduceAdd, Nat.reduceLeDiff, reduceCtorEq, kt_29, lt_162, pl_162, zc_162, zt_162, f0, f2, f3, c1, c2, c3, retA_ret, Tryz.results87, resultsC_1, resultA_cell]
      exact hid_mk ⟨by rw [hg]; rfl, Keep.push _ _ _⟩
    · simp only [bW, Nat.reduceEqDiff, Nat.reduceAdd, Nat.reduceLeDiff, reduceCtorEq, kt_29, lt_162, pl_162, zc_162, zt_162, f0, f2, f3, c1, c3, retA_ret, Tryz.results87, resultsC_1, resultA_cell]
      exact hid_mk ⟨by rw [hg]; rfl, Keep.push _ _ _⟩
  · have hk9 : k ≤ 9 := by omega
    have c10 : (((k : Nat) : Int) == 10) = false := by simp; omega
    have l10 : decide (((k : Nat) : Int) < 10) = true := by simp; omega
    have hrun := dec_run k bs 0 0 hkl (by omega) hall
    rw [Nat.zero_add, Nat.zero_add, Nat.mul_zero, Nat.pow_zero, Nat.mul_one] at hrun
    by_cases hlen : k = bs.length
    · have c1 : decide (((k : Nat) : Int) < ((bs.length : Nat) : Int)) = false := by simp [hlen]
      have c2 : (((k : Nat) : Int) == ((bs.length : Nat) : Int)) = true := by simp [hlen]
      have hd : dec bs 0 0 = (0, 0, 4) := by rw [hrun, List.drop_of_length_le (by omega)]; rfl
      have hg := gotC_bad hd (by decide)
      simp only [bW, Nat.reduceEqDiff, Nat.reduceAdd, Nat.reduceLeDiff, reduceCtorEq, kt_29, lt_162, pl_162, zc_162, zt_162, f0, f2, f3, c1, c10, c2, retA_ret, Tryz.results87, resultsC_1, resultA_cell]
      exact hid_mk ⟨by rw [hg]; rfl, Keep.push _ _ _⟩
    · have hlt : k < bs.length := by omega
      have c1 : decide (((k : Nat) : Int) < ((bs.length : Nat) : Int)) = true := by simpa using hlt
      have c2 : (((k : Nat) : Int) == ((bs.length : Nat) : Int)) = false := by simp; omega
      by_cases hbig : 128 ≤ bs[k]
      · have c3 : decide ((128 : Int) ≤ ((bs[k] : Nat) : Int)) = true := by simp; omega
        simp only [bW, Nat.reduceEqDiff, reduceCtorEq, kt_29, lt_5, f0, f3, c1, l10, bytes_ix hlt, c3, inc64 hlt (by omega)]
        refine hid_mk ⟨k + 1, ⟨rfl, f0, f2, rfl, by omega, by omega, fun i hi hik => ?_⟩, by omega⟩
        by_cases hik2 : i = k
        · subst hik2; exact hbig
        · exact hall i hi (by omega)
      · have c3 : decide ((128 : Int) ≤ ((bs[k] : Nat) : Int)) = false := by simp; omega
        rw [List.drop_eq_getElem_cons hlt] at hrun
        by_cases hbad : (k = 9 ∧ 1 < bs[k]) ∨ (0 < k ∧ bs[k] = 0)
        · have hd : dec bs 0 0 = (0, 0, 5) := by
            rw [hrun, dec]
            by_cases h9 : k = 9 ∧ 1 < bs[k]
            · rw [if_pos h9]
            · rw [if_neg h9, if_neg hbig, if_pos (by omega)]
          have hg := gotC_bad hd (by decide)
          by_cases h9 : k = 9
          · have d9 : (((k : Nat) : Int) == 9) = true := by simp [h9]
            have h9l : 9 < bs.length := by omega
            have hix : aIndexAddr Tryz.prog 29 (.imm bs.length (bytesV bs)) (.int .i64 9) = some (.at (.int .u8 (bs[9] : Nat) :: bytesV (bs.drop (9 + 1)))) := bytes_ix (k := 9) h9l
            by_cases h1 : 1 < bs[k]
            · have d1 : decide ((1 : Int) < ((bs[9] : Nat) : Int)) = true := by subst h9; simp; omega
              simp only [bW, Nat.reduceEqDiff, Nat.reduceAdd, Nat.reduceLeDiff, reduceCtorEq, kt_29, lt_162, lt_5, pl_162, zc_162, zt_162, f0, f2, f3, c1, l10, bytes_ix hlt, c3, c10, c2, d9, hix, d1, retA_ret, Tryz.results87, resultsC_1, resultA_cell]
              exact hid_mk ⟨by rw [hg]; rfl, Keep.push _ _ _⟩
            · have d1 : decide ((1 : Int) < ((bs[9] : Nat) : Int)) = false := by subst h9; simp; omega
              have d2 : decide ((0 : Int) < ((k : Nat) : Int)) = true := by simp; omega
              have d3 : (((bs[k] : Nat) : Int) == 0) = true := by simp; omega
              simp only [bW, Nat.reduceEqDiff, Nat.reduceAdd, Nat.reduceLeDiff, reduceCtorEq, kt_29, lt_162, lt_5, pl_162, zc_162, zt_162, f0, f2, f3, c1, l10, bytes_ix hlt, c3, c10, c2, d9, hix, d1, d2, d3, retA_ret, Tryz.results87, resultsC_1, resultA_cell]
              exact hid_mk ⟨by rw [hg]; rfl, Keep.push _ _ _⟩
          · have d9 : (((k : Nat) : Int) == 9) = false := by simp; omega
            have d2 : decide ((0 : Int) < ((k : Nat) : Int)) = true := by simp; omega
            have d3 : (((bs[k] : Nat) : Int) == 0) = true := by simp; omega
            simp only [bW, Nat.reduceEqDiff, Nat.reduceAdd, Nat.reduceLeDiff, reduceCtorEq, kt_29, lt_162, lt_5, pl_162, zc_162, zt_162, f0, f2, f3, c1, l10, bytes_ix hlt, c3, c10, c2, d9, d2, d3, retA_ret, Tryz.results87, resultsC_1, resultA_cell]
            exact hid_mk ⟨by rw [hg]; rfl, Keep.push _ _ _⟩
        · have hd : dec bs 0 0 = (val (bs.take (k + 1)), k + 1, 0) := by
            rw [hrun, dec, if_neg (by omega), if_neg hbig, if_neg (by omega), List.take_succ_eq_append_getElem hlt, val_snoc, p7, List.length_take, Nat.min_eq_left hkl]
          have hv := dec_lt bs 0 0 (by omega) (by decide) hb
          rw [hd] at hv
          have hG : gotC bs = [.int .u64 (val (bs.take (k + 1)) : Nat), .imm (bs.drop (k + 1)).length (bytesV (bs.drop (k + 1))), .int .i64 0] := by
            unfold gotC rdGot; rw [hd]; rfl
          have hsl := slice_from bs (k + 1) (by omega) (kk := .i64)
          have j0 : val ((bs.take (k + 1)).drop (k + 1)) = 0 := by rw [List.drop_of_length_le (by rw [List.length_take]; omega)]; rfl
          have j1 : (((k + 1 : Nat) : Int) - 1) = (k : Int) := by omega
          have conds : ((((k : Nat) : Int) == 9) = false ∧ ((decide ((0 : Int) < ((k : Nat) : Int)) = false) ∨ (decide ((0 : Int) < ((k : Nat) : Int)) = true ∧ (((bs[k] : Nat) : Int) == 0) = false))) ∨
              (∃ h9 : 9 < bs.length, (((k : Nat) : Int) == 9) = true ∧ decide ((1 : Int) < ((bs[9] : Nat) : Int)) = false ∧ decide ((0 : Int) < ((k : Nat) : Int)) = true ∧ (((bs[k] : Nat) : Int) == 0) = false) := by
            by_cases h9 : k = 9
            · right
              subst h9
              exact ⟨by omega, rfl, by simp; omega, by decide, by simp; omega⟩
            · left
              refine ⟨by simp; omega, ?_⟩
              by_cases h0 : k = 0
              · left; simp [h0]
              · right; exact ⟨by simp; omega, by simp; omega⟩
          rcases conds with ⟨d9, d2 | ⟨d2, d3⟩⟩ | ⟨h9, d9, d1, d2, d3⟩
          · simp only [bW, Nat.reduceEqDiff, reduceCtorEq, kt_29, lt_5, f0, f3, c1, l10, bytes_ix hlt, c3, c10, c2, d9, d2]
            refine SWp.loopG (α := Nat) (fun j f h' => h' = h.push (.cells [.int .u64 0, .snil, .int .i64 0] 162 none) ∧ f 0 = .imm bs.length (bytesV bs) ∧ f 2 = .ptr h.n 0 ∧ f 3 = .int .i64 (k : Nat) ∧ f 4 = .int .u64 (val ((bs.take (k + 1)).drop j) : Nat) ∧ f 5 = .int .i64 ((j : Int) - 1) ∧ j ≤ k + 1) (fun j => j) (k + 1)
              ⟨rfl, f0, f2, f3, by rw [j0]; rfl, by rw [j1]; rfl, Nat.le_refl _⟩ ?_
            rintro j f' h1 ⟨rfl, g0, g2, g3, g4, g5, hj⟩
            refine wpI_sound (by kernel_rfl) ?_
            cases j with
            | zero =>
              have e1 : decide ((0 : Int) ≤ ((0 : Nat) : Int) - 1) = false := by decide
              simp only [bW, Nat.reduceEqDiff, Nat.reduceAdd, Nat.reduceLeDiff, reduceCtorEq, lt_162, pl_162, zc_162, zt_162, g0, g2, g3, g4, g5, e1, inc64 hlt (by omega), hsl, retA_ret, Tryz.results87, resultsC_1, resultA_cell]
              refine hid_mk ⟨?_, Keep.push _ _ _⟩
              rw [hG]
            | succ j =>
              have e2 : ((j + 1 : Nat) : Int) - 1 = (j : Int) := by omega
              have hjl : j < bs.length := by omega
              have hstep : (bs.take (k + 1)).drop j = bs[j] :: (bs.take (k + 1)).drop (j + 1) := by
                rw [List.drop_eq_getElem_cons (by rw [List.length_take]; omega), List.getElem_take]
              have hlt2 : val ((bs.take (k + 1)).drop j) < 2 ^ 64 := Nat.lt_of_le_of_lt (val_drop _ _) hv
              have hw : IntKind.u64.wrap (IntKind.u64.wrap ((val ((bs.take (k + 1)).drop (j + 1)) : Nat) * 128) + IntKind.u64.wrap (((bs[j] : Nat) : Int).tmod 128)) = ((val ((bs.take (k + 1)).drop j) : Nat) : Int) := by
                rw [hstep, val] at hlt2 ⊢
                rw [Int.tmod_eq_emod_of_nonneg (by omega), IntKind.wrap_u64, IntKind.wrap_u64, IntKind.wrap_u64]
                omega
              have hdec : IntKind.i64.wrap ((j : Int) - 1) = (j : Int) - 1 := Go.IntWalk.i64_in _ (by omega)
              rw [e2] at g5
              have e3 : decide ((0 : Int) ≤ (j : Int)) = true := by simp
              simp only [bW, Nat.reduceEqDiff, reduceCtorEq, lt_5, g0, g4, g5, e3, bytes_ix hjl, aBin_rem (show (128 : Int) ≠ 0 by decide), aConv_int it_5 it_117, hw, hdec]
              exact hid_mk ⟨j, ⟨rfl, g0, g2, g3, rfl, rfl, by omega⟩, by omega⟩
          · simp only [bW, Nat.reduceEqDiff, reduceCtorEq, kt_29, lt_5, f0, f3, c1, l10, bytes_ix hlt, c3, c10, c2, d9, d2, d3]
            refine SWp.loopG (α := Nat) (fun j f h' => h' = h.push (.cells [.int .u64 0, .snil, .int .i64 0] 162 none) ∧ f 0 = .imm bs.length (bytesV bs) ∧ f 2 = .ptr h.n 0 ∧ f 3 = .int .i64 (k : Nat) ∧ f 4 = .int .u64 (val ((bs.take (k + 1)).drop j) : Nat) ∧ f 5 = .int .i64 ((j : Int) - 1) ∧ j ≤ k + 1) (fun j => j) (k + 1)
              ⟨rfl, f0, f2, f3, by rw [j0]; rfl, by rw [j1]; rfl, Nat.le_refl _⟩ ?_
            rintro j f' h1 ⟨rfl, g0, g2, g3, g4, g5, hj⟩
            refine wpI_sound (by kernel_rfl) ?_
            cases j with
            | zero =>
              have e1 : decide ((0 : Int) ≤ ((0 : Nat) : Int) - 1) = false := by decide
              simp only [bW, Nat.reduceEqDiff, Nat.reduceAdd, Nat.reduceLeDiff, reduceCtorEq, lt_162, pl_162, zc_162, zt_162, g0, g2, g3, g4, g5, e1, inc64 hlt (by omega), hsl, retA_ret, Tryz.results87, resultsC_1, resultA_cell]
              refine hid_mk ⟨?_, Keep.push _ _ _⟩
              rw [hG]
            | succ j =>
              have e2 : ((j + 1 : Nat) : Int) - 1 = (j : Int) := by omega
              have hjl : j < bs.length := by omega
              have hstep : (bs.take (k + 1)).drop j = bs[j] :: (bs.take (k + 1)).drop (j + 1) := by
                rw [List.drop_eq_getElem_cons (by rw [List.length_take]; omega), List.getElem_take]
              have hlt2 : val ((bs.take (k + 1)).drop j) < 2 ^ 64 := Nat.lt_of_le_of_lt (val_drop _ _) hv
              have hw : IntKind.u64.wrap (IntKind.u64.wrap ((val ((bs.take (k + 1)).drop (j + 1)) : Nat) * 128) + IntKind.u64.wrap (((bs[j] : Nat) : Int).tmod 128)) = ((val ((bs.take (k + 1)).drop j) : Nat) : Int) := by
                rw [hstep, val] at hlt2 ⊢
                rw [Int.tmod_eq_emod_of_nonneg (by omega), IntKind.wrap_u64, IntKind.wrap_u64, IntKind.wrap_u64]
                omega
              have hdec : IntKind.i64.wrap ((j : Int) - 1) = (j : Int) - 1 := Go.IntWalk.i64_in _ (by omega)
              rw [e2] at g5
              have e3 : decide ((0 : Int) ≤ (j : Int)) = true := by simp
              simp only [bW, Nat.reduceEqDiff, reduceCtorEq, lt_5, g0, g4, g5, e3, bytes_ix hjl, aBin_rem (show (128 : Int) ≠ 0 by decide), aConv_int it_5 it_117, hw, hdec]
              exact hid_mk ⟨j, ⟨rfl, g0, g2, g3, rfl, rfl, by omega⟩, by omega⟩
          · have hix : aIndexAddr Tryz.prog 29 (.imm bs.length (bytesV bs)) (.int .i64 9) = some (.at (.int .u8 (bs[9] : Nat) :: bytesV (bs.drop (9 + 1)))) := bytes_ix (k := 9) h9
            simp only [bW, Nat.reduceEqDiff, Nat.reduceAdd, reduceCtorEq, kt_29, lt_5, f0, f3, c1, l10, bytes_ix hlt, c3, c10, c2, d9, hix, d1, d2, d3]
            refine SWp.loopG (α := Nat) (fun j f h' => h' = h.push (.cells [.int .u64 0, .snil, .int .i64 0] 162 none) ∧ f 0 = .imm bs.length (bytesV bs) ∧ f 2 = .ptr h.n 0 ∧ f 3 = .int .i64 (k : Nat) ∧ f 4 = .int .u64 (val ((bs.take (k + 1)).drop j) : Nat) ∧ f 5 = .int .i64 ((j : Int) - 1) ∧ j ≤ k + 1) (fun j => j) (k + 1)
              ⟨rfl, f0, f2, f3, by rw [j0]; rfl, by rw [j1]; rfl, Nat.le_refl _⟩ ?_
            rintro j f' h1 ⟨rfl, g0, g2, g3, g4, g5, hj⟩
            refine wpI_sound (by kernel_rfl) ?_
            cases j with
            | zero =>
              have e1 : decide ((0 : Int) ≤ ((0 : Nat) : Int) - 1) = false := by decide
              simp only [bW, Nat.reduceEqDiff, Nat.reduceAdd, Nat.reduceLeDiff, reduceCtorEq, lt_162, pl_162, zc_162, zt_162, g0, g2, g3, g4, g5, e1, inc64 hlt (by omega), hsl, retA_ret, Tryz.results87, resultsC_1, resultA_cell]
              refine hid_mk ⟨?_, Keep.push _ _ _⟩
              rw [hG]
            | succ j =>
              have e2 : ((j + 1 : Nat) : Int) - 1 = (j : Int) := by omega
              have hjl : j < bs.length := by omega
              have hstep : (bs.take (k + 1)).drop j = bs[j] :: (bs.take (k + 1)).drop (j + 1) := by
                rw [List.drop_eq_getElem_cons (by rw [List.length_take]; omega), List.getElem_take]
              have hlt2 : val ((bs.take (k + 1)).drop j) < 2 ^ 64 := Nat.lt_of_le_of_lt (val_drop _ _) hv
              have hw : IntKind.u64.wrap (IntKind.u64.wrap ((val ((bs.take (k + 1)).drop (j + 1)) : Nat) * 128) + IntKind.u64.wrap (((bs[j] : Nat) : Int).tmod 128)) = ((val ((bs.take (k + 1)).drop j) : Nat) : Int) := by
                rw [hstep, val] at hlt2 ⊢
                rw [Int.tmod_eq_emod_of_nonneg (by omega), IntKind.wrap_u64, IntKind.wrap_u64, IntKind.wrap_u64]
                omega
              have hdec : IntKind.i64.wrap ((j : Int) - 1) = (j : Int) - 1 := Go.IntWalk.i64_in _ (by omega)
              rw [e2] at g5
              have e3 : decide ((0 : Int) ≤ (j : Int)) = true := by simp
              simp only [bW, Nat.reduceEqDiff, reduceCtorEq, lt_5, g0, g4, g5, e3, bytes_ix hjl, aBin_rem (show (128 : Int) ≠ 0 by decide), aConv_int it_5 it_117, hw, hdec]
              exact hid_mk ⟨j, ⟨rfl, g0, g2, g3, rfl, rfl, by omega⟩, by omega⟩
theorem gotC_eq (bs : List Nat) : gotC bs = [.int .u64 ((dec bs 0 0).1 : Nat), .imm (bs.drop (dec bs 0 0).2.1).length (bytesV (bs.drop (dec bs 0 0).2.1)), .int .i64 ((dec bs 0 0).2.2 : Nat)] := by
  unfold gotC rdGot
  by_cases h : (dec bs 0 0).2.2 = 0
  · rw [if_pos h, h]
  · rw [if_neg h]
    have hd := dec_err bs 0 0 h
    rw [hd]
    rfl
/-! ### A frame is read as the definition says -/
theorem dec_take : ∀ (b : List Nat) (k n : Nat), k ≤ 9 → dec (b.take (10 - k)) k n = dec b k n
  | [], k, n, hk => by simp
  | g :: r, k, n, hk => by
    rw [show 10 - k = (9 - k) + 1 by omega, List.take_succ_cons, dec, dec]
    by_cases h9 : k = 9
    · subst h9
      by_cases h1 : 1 < g
      · rw [if_pos ⟨rfl, h1⟩, if_pos ⟨rfl, h1⟩]
      · have h2 : ¬ 128 ≤ g := by omega
        simp only [if_neg h2]
    · rw [show 9 - k = 10 - (k + 1) by omega, dec_take r (k + 1) _ (by omega)]
end Go.Proofs.YtilgpaibolollaaGreat.Pk
namespace Go.Proofs.YtilgpaibolollaaGreat.Pk
open Go Go.Proofs Go.Proofs.YtilgpaibolollaaGreat.Ab
set_option maxRecDepth 10000
set_option linter.unusedVariables false
set_option linter.unusedSimpArgs false
/-- What is read of a frame, by the definition: the number as it stands, not of ten bytes; the frame made anew. -/
def openR (b : List Nat) : List Nat × Nat × Nat :=
  if (dec b 0 0).2.2 ≠ 0 then ([], 0, (dec b 0 0).2.2)
  else if 4096 < (dec b 0 0).1 then ([], 0, 2)
  else if (b.drop (dec b 0 0).2.1).length < (dec b 0 0).1 + 4 then ([], 0, 4)
  else if frame ((b.drop (dec b 0 0).2.1).take (dec b 0 0).1) = b.take (frame ((b.drop (dec b 0 0).2.1).take (dec b 0 0).1)).length then
    ((b.drop (dec b 0 0).2.1).take (dec b 0 0).1, (frame ((b.drop (dec b 0 0).2.1).take (dec b 0 0).1)).length, 0)
  else ([], 0, 5)
theorem dec_fin {b : List Nat} (hb : ∀ x ∈ b, x < 256) (h : (dec b 0 0).2.2 = 0) : b.take (dec b 0 0).2.1 = enc (dec b 0 0).1 ∧ 1 ≤ (dec b 0 0).2.1 ∧ (dec b 0 0).2.1 ≤ b.length ∧ (enc (dec b 0 0).1).length = (dec b 0 0).2.1 := by
  have e : dec b 0 0 = ((dec b 0 0).1, (dec b 0 0).2.1, 0) := Prod.ext rfl (Prod.ext rfl h)
  obtain ⟨h1, x, h2, h3, h4⟩ := dec_enc b 0 0 _ _ hb e
  have hu := dec_used b 0 0
  have hx : (dec b 0 0).1 = x := by simpa using h2
  rw [Nat.sub_zero] at h3
  refine ⟨by rw [h3, hx], h1, by omega, ?_⟩
  rw [hx, ← h3, List.length_take]
  omega
theorem openR_eq {b : List Nat} (hb : ∀ x ∈ b, x < 256) : openR b = openC b := by
  unfold openR openC
  have hd : dec (b.take 10) 0 0 = dec b 0 0 := dec_take b 0 0 (by omega)
  rw [hd]
  by_cases h0 : (dec b 0 0).2.2 ≠ 0
  · rw [if_pos h0, if_pos h0]
  rw [if_neg h0, if_neg h0]
  obtain ⟨t1, t2, t3, t4⟩ := dec_fin hb (by omega)
  generalize (dec b 0 0).1 = n at *
  generalize (dec b 0 0).2.1 = u at *
  by_cases h1 : 4096 < n
  · rw [if_pos h1, if_pos h1]
  rw [if_neg h1, if_neg h1]
  by_cases h2 : b.length < u + n + 4
  · rw [if_pos (by rw [List.length_drop]; omega), if_pos h2]
  rw [if_neg (by rw [List.length_drop]; omega), if_neg h2]
  have hx : ((b.drop u).take n).length = n := by rw [List.length_take, List.length_drop]; omega
  have hf : (frame ((b.drop u).take n)).length = u + n + 4 := by
    unfold frame encBytes
    rw [List.length_append, List.length_append, hx, t4]
    rfl
  have hs : b.take (u + n + 4) = b.take u ++ ((b.drop u).take n ++ (b.drop (u + n)).take 4) := by
    rw [show u + n + 4 = u + (n + 4) by omega, List.take_add, List.take_add, List.drop_drop]
  have hiff : (frame ((b.drop u).take n) = b.take (frame ((b.drop u).take n)).length) ↔ ((b.drop (u + n)).take 4 = sumL ((b.drop u).take n)) := by
    rw [hf, hs, t1]
    unfold frame encBytes
    rw [hx, List.append_assoc, List.append_cancel_left_eq, List.append_cancel_left_eq]
    exact eq_comm
  by_cases h3 : (b.drop (u + n)).take 4 = sumL ((b.drop u).take n)
  · rw [if_pos (hiff.2 h3), if_pos h3, hf]
  · rw [if_neg (fun h => h3 (hiff.1 h)), if_neg h3]
end Go.Proofs.YtilgpaibolollaaGreat.Pk
namespace Go.Proofs.YtilgpaibolollaaGreat.Pk
open Go Go.Proofs Go.Proofs.YtilgpaibolollaaGreat.Ab
set_option maxRecDepth 10000
set_option linter.unusedVariables false
set_option linter.unusedSimpArgs false
theorem frame_lt {x : List Nat} (hx : ∀ n ∈ x, n < 256) (hl : x.length < 2 ^ 60) : ∀ n ∈ frame x, n < 256 := by
  intro n hn
  unfold frame encBytes at hn
  rcases List.mem_append.1 hn with hn | hn
  · rcases List.mem_append.1 hn with hn | hn
    · exact enc_lt _ _ (Nat.le_refl _) n hn
    · exact hx n hn
  · unfold sumL at hn
    simp only [List.mem_cons, List.not_mem_nil, or_false] at hn
    rcases hn with rfl | rfl | rfl | rfl <;> exact sumB_lt x _
theorem pOpenR (b : List Nat) (hb : ∀ x ∈ b, x < 256) (h : AHeap) (hl : b.length ≤ 2 ^ 40) : Pure Tryz.prog 110 [.imm b.length (bytesV b)] h (openV (openC b)) := by
  rw [← openR_eq hb]
  refine Pure.val (openV_clo _) ?_
  refine SCalls.enterI (c := _) Tryz.func110 rfl (by kernel_rfl) (by simp) ?_
  simp only [bW, Nat.reduceEqDiff, reduceCtorEq]
  refine callI_pure cal87 (ReadUint b h hb (by omega)) ?_
  rw [gotC_eq]
  have hcl : (V.agg [.int .u64 ((dec b 0 0).1 : Nat), .imm (b.drop (dec b 0 0).2.1).length (bytesV (b.drop (dec b 0 0).2.1)), .int .i64 ((dec b 0 0).2.2 : Nat)]).cells = some [.int .u64 ((dec b 0 0).1 : Nat), .imm (b.drop (dec b 0 0).2.1).length (bytesV (b.drop (dec b 0 0).2.1)), .int .i64 ((dec b 0 0).2.2 : Nat)] := rfl
  have hR : openR b = openR b := rfl
  conv at hR => rhs; unfold openR
  have k0 : Keep h (h.push (.cells [.int .u64 ((dec b 0 0).1 : Nat), .imm (b.drop (dec b 0 0).2.1).length (bytesV (b.drop (dec b 0 0).2.1)), .int .i64 ((dec b 0 0).2.2 : Nat)] 162 none)) none_ := Keep.push _ _ _
  by_cases h0 : (dec b 0 0).2.2 ≠ 0
  · have hne : ((((dec b 0 0).2.2 : Nat) : Int) != 0) = true := by simp; omega
    rw [if_pos h0] at hR
    simp only [bW, Nat.reduceEqDiff, Nat.reduceAdd, Nat.reduceLeDiff, ft_162_2, lt_3, zc_162, zt_162, hcl, hne]
    refine SWp.drawnI [] (by kernel_rfl) (by kernel_rfl) (by kernel_rfl) ?_
    simp only [bW, gI_nil, gI_cons, goI_rest, ggI_true, wantedA_none, idleOp, Bool.or_false, List.contains_nil, Nat.reduceEqDiff, Nat.reduceAdd, Nat.reduceLeDiff, ft_162_2, lt_3, retA_ret, Tryz.results110, resultsA_3]
    exact hid_mk ⟨by rw [hR, openV, if_neg h0], k0⟩
  have hne : ((((dec b 0 0).2.2 : Nat) : Int) != 0) = false := by simp; omega
  rw [if_neg h0] at hR
  obtain ⟨t1, t2, t3, t4⟩ := dec_fin hb (by omega)
  by_cases h1 : 4096 < (dec b 0 0).1
  · have c1 : decide ((4096 : Int) < (((dec b 0 0).1 : Nat) : Int)) = true := by simp; omega
    rw [if_pos h1] at hR
    simp only [bW, Nat.reduceEqDiff, Nat.reduceAdd, Nat.reduceLeDiff, ft_162_0, ft_162_2, lt_117, lt_3, zc_162, zt_162, hcl, hne, c1, retA_ret, Tryz.results110, resultsA_3]
    exact hid_mk ⟨by rw [hR, openV, if_neg (by decide)]; first | done | rfl, k0⟩
  have c1 : decide ((4096 : Int) < (((dec b 0 0).1 : Nat) : Int)) = false := by simp; omega
  rw [if_neg h1] at hR
  have w1 : IntKind.i64.wrap (((dec b 0 0).1 : Nat) : Int) = (((dec b 0 0).1 : Nat) : Int) := Go.IntWalk.i64_in _ (by omega)
  have w2 : IntKind.i64.wrap ((((dec b 0 0).1 : Nat) : Int) + 4) = ((((dec b 0 0).1 + 4 : Nat)) : Int) := by rw [Go.IntWalk.i64_in _ (by omega)]; omega
  by_cases h2 : (b.drop (dec b 0 0).2.1).length < (dec b 0 0).1 + 4
  · have c2 : decide ((((b.drop (dec b 0 0).2.1).length : Nat) : Int) < ((((dec b 0 0).1 + 4 : Nat)) : Int)) = true := by simp only [decide_eq_true_eq]; omega
    rw [if_pos h2] at hR
    simp only [bW, Nat.reduceEqDiff, Nat.reduceAdd, Nat.reduceLeDiff, ft_162_0, ft_162_1, ft_162_2, kt_29, lt_117, lt_29, lt_3, zc_162, zt_162, hcl, hne, c1, aConv_int it_117 it_3, w1, w2, c2, retA_ret, Tryz.results110, resultsA_3]
    exact hid_mk ⟨by rw [hR, openV, if_neg (by decide)]; first | done | rfl, k0⟩
  have c2 : decide ((((b.drop (dec b 0 0).2.1).length : Nat) : Int) < ((((dec b 0 0).1 + 4 : Nat)) : Int)) = false := by simp only [decide_eq_false_iff_not]; omega
  rw [if_neg h2] at hR
  have s1 := slice_toK (b.drop (dec b 0 0).2.1) (dec b 0 0).1 (by omega) (kk := .i64)
  simp only [bW, Nat.reduceEqDiff, Nat.reduceAdd, Nat.reduceLeDiff, ft_162_0, ft_162_1, ft_162_2, kt_29, lt_117, lt_29, lt_3, zc_162, zt_162, hcl, hne, c1, aConv_int it_117 it_3, w1, w2, c2, s1]
  have hx : ((b.drop (dec b 0 0).2.1).take (dec b 0 0).1).length = (dec b 0 0).1 := by rw [List.length_take]; omega
  have hxb : ∀ n ∈ (b.drop (dec b 0 0).2.1).take (dec b 0 0).1, n < 256 := fun n hn => hb n (List.mem_of_mem_drop (List.mem_of_mem_take hn))
  have hf : (frame ((b.drop (dec b 0 0).2.1).take (dec b 0 0).1)).length = (dec b 0 0).2.1 + (dec b 0 0).1 + 4 := by
    unfold frame encBytes
    rw [List.length_append, List.length_append, hx, t4]
    rfl
  have hfle : (frame ((b.drop (dec b 0 0).2.1).take (dec b 0 0).1)).length ≤ b.length := by rw [hf]; rw [List.length_drop] at h2; omega
  generalize (b.drop (dec b 0 0).2.1).take (dec b 0 0).1 = x at *
  have hflt := frame_lt hxb (by omega)
  have hft : ∀ n ∈ b.take (frame x).length, n < 256 := fun n hn => hb n (List.mem_of_mem_take hn)
  refine callI_pure cal114 (pFrameR x hxb _ (by omega)) ?_
  rw [frameV, if_neg (by omega)]
  have s2 := slice_toK b (frame x).length hfle (kk := .i64)
  have e1 := strB_eq hflt hft
  simp only [bW, Nat.reduceEqDiff]
  refine SWp.drawnS none_ [] (.q 0 (.q 1 (.q 2 (.q 3 (.q 4 (.q 5 (.q 6 (.q 7 .done)))))))) (by kernel_rfl) (by kernel_rfl) (by kernel_rfl) ?_
  by_cases h3 : frame x = b.take (frame x).length
  · have c3 : (!decide (frame x = b.take (frame x).length)) = false := by simpa using h3
    rw [if_pos h3] at hR
    simp only [bW, bS, Nat.reduceEqDiff, reduceCtorEq, kt_29, convB, s2, e1, c3]
    simp only [bW, Nat.reduceEqDiff, retA_ret, Tryz.results110, resultsA_3]
    exact hid_mk ⟨by rw [hR, openV, if_pos rfl], k0⟩
  · have c3 : (!decide (frame x = b.take (frame x).length)) = true := by simpa using h3
    rw [if_neg h3] at hR
    simp only [bW, bS, Nat.reduceEqDiff, reduceCtorEq, kt_29, convB, s2, e1, c3]
    simp only [bW, Nat.reduceEqDiff, retA_ret, Tryz.results110, resultsA_3]
    exact hid_mk ⟨by rw [hR, openV, if_neg (by decide)]; first | done | rfl, k0⟩
end Go.Proofs.YtilgpaibolollaaGreat.Pk
namespace Go.Proofs.YtilgpaibolollaaGreat.Pk
open Go Go.Proofs Go.Proofs.YtilgpaibolollaaGreat.Ab
set_option maxRecDepth 10000
set_option linter.unusedVariables false
set_option linter.unusedSimpArgs false
set_option maxRecDepth 10000 in
theorem pScanR (b : List Nat) (h : AHeap) (hb : ∀ x ∈ b, x < 256) (hl : b.length ≤ 2 ^ 30) : SCalls Tryz.prog 85 [.imm b.length (bytesV b)] h (fun r h' => ∃ v, r = .tuple [v, .int .i64 ((scanF b.length b).2 : Nat)] ∧ Acc h h' 29 1 v (rowV (scanF b.length b).1)) := by
  refine SCalls.enterI (c := _) Tryz.func85 rfl (by kernel_rfl) (by simp) ?_
  simp only [bW]
  refine SWp.loopG (α := Nat × List (List Nat) × Nat × V) (fun x f h' => f 0 = .imm b.length (bytesV b) ∧ f 4 = x.2.2.2 ∧ f 5 = .int .i64 (x.2.2.1 : Nat) ∧ x.2.2.1 ≤ b.length ∧ x.2.1.length ≤ x.2.2.1 ∧ b.length - x.2.2.1 ≤ x.1 ∧ Acc h h' 29 1 x.2.2.2 (rowV x.2.1) ∧
    x.2.1 ++ (scanF x.1 (b.drop x.2.2.1)).1 = (scanF b.length b).1 ∧ x.2.2.1 + (scanF x.1 (b.drop x.2.2.1)).2 = (scanF b.length b).2) (fun x => x.1) (b.length, [], 0, .snil)
    ⟨rfl, rfl, rfl, Nat.zero_le _, Nat.le_refl _, Nat.le_refl _, Acc.nil (Keep.refl _ _), by simp, by simp⟩ ?_
  rintro ⟨k, acc, at_, v⟩ f h1 ⟨f0, f4, f5, hat, hal, hk, a1, hS1, hS2⟩
  simp only at f0 f4 f5 hat hal hk a1 hS1 hS2
  refine wpI_sound (by kernel_rfl) ?_
  have fin : Acc h h1 29 1 v (rowV acc) → (scanF k (b.drop at_)) = ([], 0) → ∃ v2, V.tuple [v, .int .i64 (at_ : Nat)] = .tuple [v2, .int .i64 ((scanF b.length b).2 : Nat)] ∧ Acc h h1 29 1 v2 (rowV (scanF b.length b).1) := fun a1 hz => by
    rw [hz] at hS1 hS2
    simp only [List.append_nil, Nat.add_zero] at hS1 hS2
    rw [← hS1, ← hS2]
    exact ⟨v, rfl, a1⟩
  by_cases hlt : at_ < b.length
  · have d1 : decide ((at_ : Int) < ((b.length : Nat) : Int)) = true := by rw [decide_eq_true_iff]; omega
    have hsl := slice_from b at_ (by omega) (kk := .i64)
    obtain ⟨k', rfl⟩ : ∃ k', k = k' + 1 := ⟨k - 1, by omega⟩
    have hne : b.drop at_ ≠ [] := fun hh => by
      have := congrArg List.length hh
      rw [List.length_drop, List.length_nil] at this
      omega
    simp only [bW, Nat.reduceEqDiff, reduceCtorEq, kt_29, f0, f5, d1, hsl]
    refine callI_pure cal110 (pOpenR (b.drop at_) (fun x hx => hb x (List.mem_of_mem_drop hx)) h1 (by rw [List.length_drop]; omega)) ?_
    have hok := openC_ok (b.drop at_)
    have hF : scanF (k' + 1) (b.drop at_) = if b.drop at_ = [] ∨ (openC (b.drop at_)).2.2 ≠ 0 then ([], 0) else ((openC (b.drop at_)).1 :: (scanF k' ((b.drop at_).drop (openC (b.drop at_)).2.1)).1, (openC (b.drop at_)).2.1 + (scanF k' ((b.drop at_).drop (openC (b.drop at_)).2.1)).2) := rfl
    rw [List.length_drop] at hok
    generalize openC (b.drop at_) = O at hok hF ⊢
    obtain ⟨pay, len, err⟩ := O
    simp only at hok hF
    by_cases herr : err = 0
    · obtain ⟨hlo, hhi⟩ := hok herr
      subst herr
      rw [if_neg (by simp [hne]), List.drop_drop] at hF
      have d2 : ((0 : Int) != 0) = false := rfl
      have hw : IntKind.i64.wrap ((at_ : Int) + (len : Int)) = ((at_ + len : Nat) : Int) := by rw [Go.IntWalk.i64_in _ (by omega)]; omega
      have hl1 := lit1r h1 pay.length (bytesV pay)
      obtain ⟨v2, h2, e2, a2⟩ := a1.elem (P := Tryz.prog) sl_73 (by decide) (xs := [.imm pay.length (bytesV pay)]) rfl rfl (by simp only [rowV_len, lim]; omega) (by simp only [rowV_len, lim]; omega)
      have hov : openV (pay, len, 0) = .tuple [.imm pay.length (bytesV pay), .int .i64 (len : Nat), .int .i64 0] := rfl
      simp only [bW, hov, Nat.reduceEqDiff, f4, f5, hl1, e2, hw]
      rw [hF] at hS1 hS2
      refine hid_mk ⟨(k', acc ++ [pay], at_ + len, v2), ⟨f0, rfl, rfl, by simp only; omega, by simp only [List.length_append, List.length_cons, List.length_nil]; omega, by simp only; omega, ?_, ?_, ?_⟩, by simp only; omega⟩
      · rw [rowV_app]; exact a2
      · rw [← hS1]; simp [List.append_assoc]
      · rw [← hS2]; simp only; omega
    · have d2 : ((err : Int) != 0) = true := by simp; omega
      have hov : openV (pay, len, err) = .tuple [.snil, .int .i64 0, .int .i64 (err : Nat)] := by simp [openV, herr]
      rw [if_pos (.inr herr)] at hF
      simp only [bW, hov, Nat.reduceEqDiff, f4, f5, d2, retA_ret, Tryz.results85, resultsA_2]
      exact hid_mk (fin a1 hF)
  · have d1 : decide ((at_ : Int) < ((b.length : Nat) : Int)) = false := by rw [decide_eq_false_iff_not]; omega
    have hz : scanF k (b.drop at_) = ([], 0) := by
      rw [List.drop_of_length_le (by omega)]
      cases k with
      | zero => rfl
      | succ k => simp [scanF]
    simp only [bW, Nat.reduceEqDiff, reduceCtorEq, kt_29, f0, f4, f5, d1, retA_ret, Tryz.results85, resultsA_2]
    exact hid_mk (fin a1 hz)
end Go.Proofs.YtilgpaibolollaaGreat.Pk
namespace Go.Proofs.YtilgpaibolollaaGreat.Pk
open Go Go.Proofs Go.Proofs.YtilgpaibolollaaGreat.Ab
set_option maxRecDepth 10000
set_option linter.unusedVariables false
set_option linter.unusedSimpArgs false
theorem app0 (h : AHeap) : aBuildSlice Tryz.prog 29 0 [] h = some (.sl h.n 0 0 0, h.push (.cells [] 5 none)) := by rw [buildSlice_go sl_29]; rfl
def bV (l : List Int) : List V := l.map (V.int .u8)
theorem bV_len (l : List Int) : (bV l).length = l.length := List.length_map ..
theorem bV_clo (l : List Int) : CloL (bV l) := CloL.map fun _ _ => Clo.int _ _
theorem bV_app (a b : List Int) : bV (a ++ b) = bV a ++ bV b := List.map_append
def xE (room : Int) (s m : List Int) : List V := [.int .i64 room, .imm s.length (bV s), .imm m.length (bV m)]
theorem xE_clo (room : Int) (s m : List Int) : CloL (xE room s m) := CloL.cons (Clo.int _ _) (CloL.cons (Clo.imm (bV_clo _)) (CloL.cons (Clo.imm (bV_clo _)) CloL.nil))
theorem xNil (room : Int) (h : AHeap) : CastL [.int .i64 room, .snil, .snil] h (xE room [] []) h := CastL.skip (CastL.cons (Cast.nil0 h) (CastL.last (Cast.nil0 h)))

set_option maxRecDepth 10000 in
theorem rNew (room : Int) (h : AHeap) (h0 : 0 ≤ room) (h1 : room ≤ 1048576) : Pure Tryz.prog 7 [.int .i64 room] h (.tuple [.agg (xE room [] []), .int .i64 0]) := by
  refine Pure.of (Clo.tuple (CloL.cons (Clo.agg (xE_clo _ _ _)) (CloL.cons (Clo.int _ _) CloL.nil))) ?_
  refine SCalls.enterI (c := _) Tryz.func7 rfl (by kernel_rfl) (by simp) ?_
  have c1 : decide (room < 0) = false := by simp; omega
  have c2 : decide (1048576 < room) = false := by simp; omega
  simp only [bW, Nat.reduceEqDiff, Nat.reduceAdd, Nat.reduceLeDiff, reduceCtorEq, lt_31, pl_31, zc_31, zt_31, c1, c2, retA_ret, Tryz.results7, resultsC_2, resultA_tmp, resultA_cell, res2_some]
  exact hid_mk ⟨_, Cast.tuple (CastL.cons (Pk.Cast.agg (xNil room _)) (CastL.refl _ _)), Keep.push _ _ _⟩
theorem srcB (l : List Int) (h : AHeap) : aSrc Tryz.prog 1 29 (.imm l.length (bV l)) h = some (l.length, bV l) := imm_src kt_29 (by simp [bV]) (one_u8 l)
theorem fresh1 (h : AHeap) : Acc h (h.push (.cells [] 5 none)) 5 1 (.sl h.n 0 0 0) [] := by
  refine ⟨?_, Keep.push _ _ _, fun k hk => by simp [idOf] at hk; omega⟩
  exact Own.fresh' (h := h) (e := 5) (sz := 1) [] 0 rfl (by decide)
theorem Acc.base {h0 h1 h : AHeap} {e : TypeId} {sz : Nat} {v : V} {cs : List V} (k : Keep h0 h1 none_) (a : Acc h1 h e sz v cs) : Acc h0 h e sz v cs :=
  ⟨a.own, k.trans' a.keep, fun j hj => Nat.le_trans k.n (a.new j hj)⟩
theorem get_p3 (h : AHeap) (A B C : AObj) : (((h.push A).push B).push C).get h.n = A := by
  rw [get_push_lt (by simp only [push_n]; omega), get_push_lt (by simp only [push_n]; omega), get_push_new]
theorem get_p2 (h : AHeap) (A B : AObj) : ((h.push A).push B).get h.n = A := by
  rw [get_push_lt (by simp only [push_n]; omega), get_push_new]

set_option maxRecDepth 10000 in
theorem rDBytes (room : Int) (s m : List Int) (hs : s.length + m.length ≤ 2 ^ 40) (h : AHeap) : Pure Tryz.prog 86 [.agg (xE room s m)] h (.imm (s ++ m).length (bV (s ++ m))) := by
  refine Pure.acc (e := 5) (sz := 1) (bV_clo _) (by rw [bV_len, Nat.mul_one]) (by omega) ?_
  refine SCalls.enterI (c := _) Tryz.func86 rfl (by kernel_rfl) (by simp) ?_
  simp only [bW, xE]
  obtain ⟨v1, h1, q1, a1⟩ := (fresh1 (h.push (.cells (xE room s m) 31 none))).appM (P := Tryz.prog) (tx := 29) (x := .imm s.length (bV s)) (n := s.length) (news := bV s) sl_29 (by decide) (srcB s _) (by rw [bV_len]; exact (Nat.mul_one _).symm) (fun k hk => by
    have hk' : k * 1 = 0 + (bV s).length := hk
    rw [bV_len] at hk'
    show k * 1 ≤ lim ∧ k ≤ lim
    unfold lim
    omega)
  obtain ⟨v2, h2, q2, a2⟩ := a1.appM (P := Tryz.prog) (tx := 29) (x := .imm m.length (bV m)) (n := m.length) (news := bV m) sl_29 (by decide) (srcB m _) (by rw [bV_len]; exact (Nat.mul_one _).symm) (fun k hk => by
    have hk' : k * 1 = ([] ++ bV s).length + (bV m).length := hk
    rw [List.nil_append, bV_len, bV_len] at hk'
    show k * 1 ≤ lim ∧ k ≤ lim
    unfold lim
    omega)
  have K1 := a1.keep
  rw [push_n] at q1
  unfold xE at q1 K1
  refine SWp.drawnS none_ [0, 3, 6] (.q 1 (.q 2 (.q 4 (.q 5 (.e 0 (.e 3 (.a 6 (.q 7 .done)) .stop) .stop))))) (by kernel_rfl) (by kernel_rfl) (by kernel_rfl) ?_
  simp only [bW, bS, Nat.reduceEqDiff, Nat.reduceAdd, Nat.reduceLeDiff, ft_31_1, ft_31_2, lt_29, app0, q1, q2, retA_ret, Tryz.results86, resultsA_1]
  exact ⟨K1, hid_mk (Pk.Acc.base (Keep.push _ _ _) (a2.conv (by rw [List.nil_append, bV_app])))⟩

theorem fin2 {h h2 : AHeap} {A B : AObj} {v : V} (room : Int) (s m : List Int) (a : Acc ((h.push A).push B) h2 5 1 v (bV m)) (e : V) (X Y : AObj) :
    ∃ h3, Cast (.tuple [.agg [.int .i64 room, .imm s.length (bV s), v], e]) ((h2.set h.n X).set (h.n + 1) Y) (.tuple [.agg (xE room s m), e]) h3 ∧ Keep h h3 none_ := by
  have nw : ∀ j, idOf v = some j → h.n + 2 ≤ j := fun j hj => by have := a.new j hj; simp only [push_n] at this; omega
  have k0 : Keep h h2 none_ := ((Keep.push _ _ _).then_push _).trans' a.keep
  have kF : Keep h ((h2.set h.n X).set (h.n + 1) Y) none_ := (k0.setNew (Nat.le_refl _) X).setNew (by omega) Y
  have oF : Own ((h2.set h.n X).set (h.n + 1) Y) 5 1 v (bV m) := (a.own.keep (Keep.set _ _ _) fun k hk => by have := nw k hk; omega).keep (Keep.set _ _ _) fun k hk => by have := nw k hk; omega
  obtain ⟨h3, c, k⟩ := Acc.cast (h0 := h) ⟨oF, kF, fun j hj => by have := nw j hj; omega⟩ (n := m.length) (by rw [bV_len, Nat.mul_one]) (by omega)
  exact ⟨h3, Cast.tuple (CastL.cons (Pk.Cast.agg (CastL.cons (Cast.refl _ _) (CastL.cons (Cast.refl _ _) (CastL.cons c (CastL.refl _ _))))) (CastL.refl _ _)), k⟩

set_option maxRecDepth 10000 in
theorem rAppend (room : Int) (s m b : List Int) (h : AHeap) (h1 : room ≤ 1048576) (hs : s.length + m.length ≤ 2 ^ 40) (hb : b.length ≤ 2 ^ 47) :
    Pure Tryz.prog 21 [.agg (xE room s m), .imm b.length (bV b)] h (if (s.length + m.length + b.length : Int) ≤ room then .tuple [.agg (xE room s (m ++ b)), .int .i64 0] else .tuple [.agg (xE room s m), .int .i64 3]) := by
  have w1 : IntKind.i64.wrap ((s.length : Int) + (m.length : Int)) = s.length + m.length := by rw [Go.IntWalk.i64_in _ (by omega)]
  have w2 : IntKind.i64.wrap ((s.length : Int) + (m.length : Int) + (b.length : Int)) = s.length + m.length + b.length := by rw [Go.IntWalk.i64_in _ (by omega)]
  by_cases hc : (s.length + m.length + b.length : Int) ≤ room
  · rw [if_pos hc]
    refine Pure.of (Clo.tuple (CloL.cons (Clo.agg (xE_clo _ _ _)) (CloL.cons (Clo.int _ _) CloL.nil))) ?_
    refine SCalls.enterI (c := _) Tryz.func21 rfl (by kernel_rfl) (by simp) ?_
    have c1 : decide (room < (s.length : Int) + (m.length : Int) + (b.length : Int)) = false := by simp; omega
    obtain ⟨v1, h1, q1, a1⟩ := (fresh1 ((h.push (.cells (xE room s m) 31 none)).push (.cells [.int .i64 0, .snil, .snil] 31 none))).appM (P := Tryz.prog) (tx := 29) (x := .imm m.length (bV m)) (n := m.length) (news := bV m) sl_29 (by decide) (srcB m _) (by rw [bV_len]; exact (Nat.mul_one _).symm) (fun k hk => by
      have hk' : k * 1 = 0 + (bV m).length := hk
      rw [bV_len] at hk'
      show k * 1 ≤ lim ∧ k ≤ lim
      unfold lim
      omega)
    obtain ⟨v2, h2, q2, a2⟩ := a1.appM (P := Tryz.prog) (tx := 29) (x := .imm b.length (bV b)) (n := b.length) (news := bV b) sl_29 (by decide) (srcB b _) (by rw [bV_len]; exact (Nat.mul_one _).symm) (fun k hk => by
      have hk' : k * 1 = ([] ++ bV m).length + (bV b).length := hk
      rw [List.nil_append, bV_len, bV_len] at hk'
      show k * 1 ≤ lim ∧ k ≤ lim
      unfold lim
      omega)
    rw [push_n, push_n] at q1
    have n1 := a1.keep.n
    have n2 := a2.keep.n
    simp only [push_n] at n1 n2
    have g1 : h1.get h.n = .cells (xE room s m) 31 none := (a1.keep.get h.n (by simp only [push_n]; omega) (by simp [none_])).trans (get_p2 _ _ _)
    have g2 : h2.get h.n = .cells (xE room s m) 31 none := (a2.keep.get h.n (by simp only [push_n]; omega) (by simp [none_])).trans (get_p2 _ _ _)
    have g2' : h2.get (h.n + 1) = .cells [.int .i64 0, .snil, .snil] 31 none := (a2.keep.get (h.n + 1) (by simp only [push_n]; omega) (by simp [none_])).trans (by rw [← push_n (h := h), get_push_new])
    obtain ⟨hv1, hv2⟩ := one_of_own a2.own
    have gs : ∀ o, (h2.set h.n o).get (h.n + 1) = .cells [.int .i64 0, .snil, .snil] 31 none := fun o => (get_set_ne (by omega)).trans g2'
    have hset : setC (some 3) (AObj.cells [.int .i64 0, .snil, .snil] 31 none) 0 [.int .i64 room, .imm s.length (bV s), v2] = some (.cells [.int .i64 room, .imm s.length (bV s), v2] 31 none) := by
      rw [setC_row (n := 3) rfl (by simp [hv2]; exact ⟨rfl, rfl⟩), if_pos (by decide)]; rfl
    unfold xE at q1 g1 g2
    simp only [bW, Nat.reduceEqDiff, Nat.reduceAdd, Nat.reduceLeDiff, ft_31_0, ft_31_1, ft_31_2, kt_29, lt_29, lt_3, lt_31, zc_31, zt_29, zt_31, xE, w1, w2, c1, app0, q1, q2, g2, gs, hv1, hv2, hset, retA_ret, Tryz.results21, resultsC_2, resultA_tmp, resultA_cell, res2_some]
    exact hid_mk (fin2 room s (m ++ b) (a2.conv (by rw [List.nil_append, ← bV_app])) (.int .i64 0) _ _)
  · rw [if_neg hc]
    refine Pure.of (Clo.tuple (CloL.cons (Clo.agg (xE_clo _ _ _)) (CloL.cons (Clo.int _ _) CloL.nil))) ?_
    refine SCalls.enterI (c := _) Tryz.func21 rfl (by kernel_rfl) (by simp) ?_
    have c1 : decide (room < (s.length : Int) + (m.length : Int) + (b.length : Int)) = true := by simp; omega
    simp only [bW, Nat.reduceEqDiff, Nat.reduceAdd, Nat.reduceLeDiff, ft_31_0, ft_31_1, ft_31_2, kt_29, lt_29, lt_3, lt_31, zc_31, zt_31, xE, w1, w2, c1, retA_ret, Tryz.results21, resultsC_2, resultA_tmp, resultA_cell, res2_some]
    exact hid_mk ⟨_, Cast.refl _ _, (Keep.push _ _ _).then_push _⟩

theorem agg1 (room : Int) (s : List Int) (h : AHeap) : Cast (.agg [.int .i64 room, .imm s.length (bV s), .snil]) h (.agg (xE room s [])) h := Pk.Cast.agg (CastL.skip (CastL.skip (CastL.last (Cast.nil0 h))))

set_option maxRecDepth 10000 in
theorem rSync (room : Int) (s m : List Int) (hs : s.length + m.length ≤ 2 ^ 40) (h : AHeap) : Pure Tryz.prog 61 [.agg (xE room s m)] h (.agg (xE room (s ++ m) [])) := by
  refine Pure.of (Clo.agg (xE_clo _ _ _)) ?_
  refine SCalls.enterI (c := _) Tryz.func61 rfl (by kernel_rfl) (by simp) ?_
  simp only [bW, zc_31, xE]
  refine SWp.drawnS none_ [5] (.q 0 (.q 1 (.q 2 (.c 3 (.q 4 (.a 5 .done)))))) (by kernel_rfl) (by kernel_rfl) (by kernel_rfl) ?_
  simp only [bW, bS, Nat.reduceEqDiff, Nat.reduceAdd, ft_31_0, lt_3, lt_31]
  refine siI_c rfl rfl rfl (fun h' _ => rDBytes room s m hs h') ?_
  simp only [bW, bS, Nat.reduceEqDiff, Nat.reduceAdd, Nat.reduceLeDiff, lt_31, pl_31, zc_31, zt_31, retA_ret, Tryz.results61, resultsC_1, resultA_cell]
  exact hid_mk ⟨_, agg1 _ _ _, (Keep.push _ _ _).then_push _⟩

set_option maxRecDepth 10000 in
theorem rCut (room : Int) (s m : List Int) (n : Int) (h : AHeap) (hs : s.length + m.length ≤ 2 ^ 40) :
    Pure Tryz.prog 78 [.agg (xE room s m), .int .i64 n] h (if 0 ≤ n ∧ n ≤ (s.length + m.length : Int) then .tuple [.agg (xE room (s.take n.toNat) (m.take (n.toNat - s.length))), .int .i64 0] else .tuple [.agg (xE room s m), .int .i64 2]) := by
  have w1 : IntKind.i64.wrap ((s.length : Int) + (m.length : Int)) = s.length + m.length := by rw [Go.IntWalk.i64_in _ (by omega)]
  by_cases h0 : n < 0
  · have c0 : decide (n < 0) = true := by simp [h0]
    rw [if_neg (by omega)]
    refine Pure.of (Clo.tuple (CloL.cons (Clo.agg (xE_clo _ _ _)) (CloL.cons (Clo.int _ _) CloL.nil))) ?_
    refine SCalls.enterI (c := _) Tryz.func78 rfl (by kernel_rfl) (by simp) ?_
    simp only [bW, Nat.reduceEqDiff, Nat.reduceAdd, lt_31, zc_31, zt_31, xE, c0, retA_ret, Tryz.results78, resultsC_2, resultA_tmp, resultA_cell, res2_some]
    exact hid_mk ⟨_, Cast.refl _ _, (Keep.push _ _ _).then_push _⟩
  have c0 : decide (n < 0) = false := by simp; omega
  by_cases h1 : n ≤ (s.length + m.length : Int)
  rotate_left
  · have c1 : decide ((s.length : Int) + (m.length : Int) < n) = true := by simp; omega
    rw [if_neg (by omega)]
    refine Pure.of (Clo.tuple (CloL.cons (Clo.agg (xE_clo _ _ _)) (CloL.cons (Clo.int _ _) CloL.nil))) ?_
    refine SCalls.enterI (c := _) Tryz.func78 rfl (by kernel_rfl) (by simp) ?_
    simp only [bW, Nat.reduceEqDiff, Nat.reduceAdd, Nat.reduceLeDiff, ft_31_1, ft_31_2, kt_29, lt_29, lt_31, zc_31, zt_31, xE, w1, c0, c1, retA_ret, Tryz.results78, resultsC_2, resultA_tmp, resultA_cell, res2_some]
    exact hid_mk ⟨_, Cast.refl _ _, (Keep.push _ _ _).then_push _⟩
  have c1 : decide ((s.length : Int) + (m.length : Int) < n) = false := by simp; omega
  rw [if_pos ⟨by omega, h1⟩]
  obtain ⟨k, rfl⟩ : ∃ k : Nat, n = k := ⟨n.toNat, by omega⟩
  rw [Int.toNat_natCast]
  refine Pure.of (Clo.tuple (CloL.cons (Clo.agg (xE_clo _ _ _)) (CloL.cons (Clo.int _ _) CloL.nil))) ?_
  refine SCalls.enterI (c := _) Tryz.func78 rfl (by kernel_rfl) (by simp) ?_
  have sl : ∀ (l : List Int) (j : Nat), j ≤ l.length → aSlice Tryz.prog 29 (.imm l.length (bV l)) none (some (.int .i64 (j : Int))) none = some (.imm (l.take j).length (bV (l.take j))) := fun l j hj => by
    rw [slice_imm_hi ss_29 (by omega) (by omega) (by rw [bV_len, Nat.mul_one]), Int.toNat_natCast, List.length_take, Nat.min_eq_left hj, Nat.mul_one]
    unfold bV
    rw [List.map_take]
  by_cases h2 : k ≤ s.length
  · have c2 : decide ((k : Int) ≤ (s.length : Int)) = true := by simp; omega
    have s1 := sl s k h2
    have z : m.take (k - s.length) = [] := by rw [Nat.sub_eq_zero_of_le h2]; rfl
    rw [z]
    simp only [bW, Nat.reduceEqDiff, Nat.reduceAdd, Nat.reduceLeDiff, ft_31_1, ft_31_2, kt_29, lt_29, zc_31, xE, w1, c0, c1, c2]
    refine SWp.drawnS none_ [7] (.q 0 (.q 1 (.q 2 (.q 3 (.q 4 (.q 5 (.q 6 (.a 7 (.q 8 .done))))))))) (by kernel_rfl) (by kernel_rfl) (by kernel_rfl) ?_
    simp only [bW, bS, Nat.reduceEqDiff, Nat.reduceAdd, Nat.reduceLeDiff, ft_31_0, ft_31_1, lt_29, lt_3, lt_31, pl_31, zc_31, zt_31, s1, retA_ret, Tryz.results78, resultsC_2, resultA_tmp, resultA_cell, res2_some]
    exact hid_mk ⟨_, Cast.tuple (CastL.cons (agg1 _ _ _) (CastL.refl _ _)), (Keep.push _ _ _).then_push _⟩
  · have c2 : decide ((k : Int) ≤ (s.length : Int)) = false := by simp; omega
    have w3 : IntKind.i64.wrap ((k : Int) - (s.length : Int)) = ((k - s.length : Nat) : Int) := by rw [Go.IntWalk.i64_in _ (by omega)]; omega
    have s1 := sl m (k - s.length) (by omega)
    have z : s.take k = s := List.take_of_length_le (by omega)
    rw [z]
    simp only [bW, Nat.reduceEqDiff, Nat.reduceAdd, Nat.reduceLeDiff, ft_31_1, ft_31_2, kt_29, lt_29, lt_31, zc_31, zt_29, zt_31, xE, w1, w3, c0, c1, c2, s1, retA_ret, Tryz.results78, resultsC_2, resultA_tmp, resultA_cell, res2_some]
    exact hid_mk ⟨_, Cast.refl _ _, (Keep.push _ _ _).then_push _⟩
end Go.Proofs.YtilgpaibolollaaGreat.Pk
