/-
  Abstract values and an abstract heap for Go code, related to the world; the operations on them, and the rules of code. Conditions: none.
-/
import Derived.Test.YtohiphnmebklfaaAbB
set_option linter.unusedVariables false
set_option linter.unusedSimpArgs false
namespace Go.Proofs.Ytohiphnmebklfaa.Ab
open Go Go.RowKit
set_option linter.unusedVariables false

section
variable {P : Program} {t e : TypeId} {x y v : V} {h : AHeap}
/-! ### Structs and arrays -/
def bplT (P : Program) (t : TypeId) : Option (List (Nat × Nat) ⊕ Nat) :=
  match placesT P t with
  | some pl => some (.inl pl)
  | none => match arrT P t with
    | some (_, e) => (sizeT P e).map .inr
    | none => none
def buildGo (zs : Option (List V)) (b : Option (List (Nat × Nat) ⊕ Nat)) (parts : List (Nat × V)) : Option V :=
  match zs, b with
  | some zs, some (.inl pl) => (aFill (fun i => pl[i]?) zs parts).map .agg
  | some zs, some (.inr sz) => (aFill (fun i => some (i * sz, sz)) zs parts).map .agg
  | _, _ => none
theorem aBuild_go {parts : List (Nat × V)} : aBuild P t parts = buildGo (zeroC P t) (bplT P t) parts := by
  unfold aBuild buildGo bplT
  cases zeroC P t with
  | none => rfl
  | some zs =>
    cases placesT P t with
    | some pl => rfl
    | none =>
      simp only
      cases arrT P t with
      | none => rfl
      | some p =>
        obtain ⟨n, e⟩ := p
        simp only
        cases sizeT P e <;> rfl
theorem buildGo_struct {zs : List V} {pl : List (Nat × Nat)} {parts : List (Nat × V)} : buildGo (some zs) (some (.inl pl)) parts = (aFill (fun i => pl[i]?) zs parts).map .agg := nr rfl
theorem buildGo_array {zs : List V} {sz : Nat} {parts : List (Nat × V)} : buildGo (some zs) (some (.inr sz)) parts = (aFill (fun i => some (i * sz, sz)) zs parts).map .agg := nr rfl
theorem aFill_nil {place : Nat → Option (Nat × Nat)} {cs : List V} : aFill place cs [] = some cs := nr rfl
def fillGo (place : Nat → Option (Nat × Nat)) (cs : List V) (p : Option (Nat × Nat)) (vs : Option (List V)) (r : List (Nat × V)) : Option (List V) :=
  match p, vs with
  | some (off, size), some vs => if vs.length = size ∧ off + size ≤ cs.length then aFill place (setAll cs off vs) r else none
  | _, _ => none
theorem aFill_cons {place : Nat → Option (Nat × Nat)} {cs : List V} {i : Nat} {r : List (Nat × V)} : aFill place cs ((i, v) :: r) = fillGo place cs (place i) v.cells r := by
  show (match place i, v.cells with | some (off, size), some vs => _ | _, _ => none) = _
  unfold fillGo
  rfl
theorem fillGo_some {place : Nat → Option (Nat × Nat)} {cs vs : List V} {off size : Nat} {r : List (Nat × V)} : fillGo place cs (some (off, size)) (some vs) r = if vs.length = size ∧ off + size ≤ cs.length then aFill place (setAll cs off vs) r else none := nr rfl

def partT (P : Program) (t : TypeId) (k : Nat) : Option (Nat × Option Nat) :=
  match P.underlying t with
  | some (.struct fs) => match fs[k]? with
    | some f => match rowT P f.type, sizeT P f.type with
      | some true, some n => some (f.offset, some n)
      | some false, some _ => some (f.offset, none)
      | _, _ => none
    | none => none
  | _ => none
def partGo (p : Option (Nat × Option Nat)) (x : V) : Option V :=
  match p, x with
  | some (off, some n), .agg cs => some (.agg ((cs.drop off).take n))
  | some (off, none), .agg cs => cs[off]?
  | _, _ => none
theorem aFieldOf_eq {k : Nat} : aFieldOf P t x k = partGo (partT P t k) x := by
  unfold aFieldOf partGo partT
  cases P.underlying t with
  | none => rfl
  | some d =>
    cases d <;> try rfl
    rename_i fs
    cases hk : fs[k]? with
    | none => cases x <;> simp [hk]
    | some f =>
      cases hr : rowT P f.type with
      | none => cases x <;> simp [hk, hr, aPart]
      | some b => cases b <;> cases hz : sizeT P f.type <;> cases x <;> simp [hk, hr, hz, aPart]
theorem partGo_row {off n : Nat} {cs : List V} : partGo (some (off, some n)) (.agg cs) = some (.agg ((cs.drop off).take n)) := nr rfl
theorem partGo_one {off : Nat} {cs : List V} : partGo (some (off, none)) (.agg cs) = cs[off]? := nr rfl

/-! ### Slices -/
theorem slSz_eq {sz : Nat} (h : slSz P t = some sz) : ∃ e, P.underlying t = some (.slice e) ∧ sizeT P e = some sz := by
  unfold slSz at h
  split at h
  · rename_i e hu; exact ⟨e, hu, h⟩
  · cases h
/-- s[lo:] and s[lo:hi] of what is only read. -/
theorem slice_imm {sz n : Nat} {cs : List V} {lo hi : Option V} {l m : Nat} (hs : slSz P t = some sz) (h1 : loOf lo = some l) (h2 : hiOf n hi = some m) (hl : l ≤ m) (hm : m ≤ n) (hc : cs.length = n * sz) :
    aSlice P t (.imm n cs) lo hi none = some (.imm (m - l) ((cs.drop (l * sz)).take ((m - l) * sz))) := by
  obtain ⟨e, hu, he⟩ := slSz_eq hs
  unfold aSlice
  have h3 : hiOf n (none : Option V) = some n := rfl
  simp only [hu, he, h1, h2, h3]
  have : l * sz ≤ cs.length := by rw [hc]; exact Nat.mul_le_mul_right _ (by omega)
  simp [cutImm, hl, hm, this]
theorem slice_imm_lo {sz n : Nat} {cs : List V} {k : IntKind} {l : Int} (hs : slSz P t = some sz) (h0 : 0 ≤ l) (hl : l ≤ n) (hc : cs.length = n * sz) :
    aSlice P t (.imm n cs) (some (.int k l)) none none = some (.imm (n - l.toNat) (cs.drop (l.toNat * sz))) := by
  rw [slice_imm hs (l := l.toNat) (m := n) (by simp [loOf, natOf, h0]) rfl (by omega) (Nat.le_refl _) hc]
  rw [List.take_of_length_le]
  rw [List.length_drop, hc, Nat.sub_mul]
  first | done | exact Nat.le_refl _
theorem slice_imm_hi {sz n : Nat} {cs : List V} {k : IntKind} {m : Int} (hs : slSz P t = some sz) (h0 : 0 ≤ m) (hm : m ≤ n) (hc : cs.length = n * sz) :
    aSlice P t (.imm n cs) none (some (.int k m)) none = some (.imm m.toNat (cs.take (m.toNat * sz))) := by
  rw [slice_imm hs (l := 0) (m := m.toNat) rfl (by simp [hiOf, natOf, h0]) (Nat.zero_le _) (by omega) hc]
  simp
/-- An element. -/
theorem index_imm {sz n : Nat} {cs : List V} {k : IntKind} {i : Int} (hs : slSz P t = some sz) (h0 : 0 ≤ i) (hi : i < n) (hc : cs.length = n * sz) :
    aIndexAddr P t (.imm n cs) (.int k i) = some (.at (cs.drop (i.toNat * sz))) := by
  rw [aIndexAddr_eq, hs, ixGo_imm, if_pos ⟨h0, hi, by rw [hc]; exact Nat.mul_le_mul_right _ (by omega)⟩]

/-! ### Bytes and strings -/
def byT (P : Program) (t : TypeId) : Bool := match P.underlying t with | some (.slice e) => isU8 P e | _ => false
theorem byT_eq (h : byT P t = true) : ∃ e, P.underlying t = some (.slice e) ∧ isU8 P e = true := by
  unfold byT at h
  split at h
  · rename_i e hu; exact ⟨e, hu, h⟩
  · cases h
theorem strT_eq (h : strT P t = true) : P.underlying t = some .string := by
  unfold strT at h
  split at h
  · assumption
  · cases h
theorem conv_imm {s d : TypeId} {ns : List Int} {n : Nat} (hs : byT P s = true) (hd : strT P d = true) (hn : n = ns.length) : aConv P s d (.imm n (ns.map (V.int .u8))) h = some (.string (strOfNums ns)) := by
  obtain ⟨e, hu, he⟩ := byT_eq hs
  unfold aConv
  have : (flatV (.imm n (ns.map (V.int .u8)))).bind (fun a => pureRun P (convert s d a)) = none := rfl
  rw [this]
  simp only [hu, strT_eq hd]
  rw [if_pos ⟨he, by simpa using hn⟩, numsOf_map]
  rfl
theorem conv_str {s d : TypeId} {b : ByteArray} (hs : strT P s = true) (hd : byT P d = true) : aConv P s d (.string b) h = some (.imm b.size (b.data.toList.map fun u => V.int .u8 u.toNat)) := by
  obtain ⟨e, hu, he⟩ := byT_eq hd
  unfold aConv
  have e1 : (flatV (.string b)).bind (fun a => pureRun P (convert s d a)) = none := by
    show pureRun P (convert s d (.string b)) = none
    unfold convert
    rw [pureRun_bind, pureRun_underlying (strT_eq hs), Option.bind_some, pureRun_bind, pureRun_underlying hu, Option.bind_some]
    simp only
    rw [pureRun_bind, pureRun_underlying (isU8_eq he), Option.bind_some]
    rfl
  rw [e1]
  simp only [strT_eq hs, hu, he, if_true, byteCells_flat]

def bsGo (T : Option SlT) (len : Nat) (parts : List (Nat × V)) (h : AHeap) : Option (V × AHeap) :=
  match T with
  | some T => if len * T.sz ≤ 2 ^ 24 ∧ len ≤ 2 ^ 24 then (aFill (fun i => some (i * T.sz, T.sz)) (made T.zs len) parts).map fun cells => (.sl h.n 0 len len, h.push (.cells cells T.e none)) else none
  | none => none
theorem buildSlice_go {len : Nat} {parts : List (Nat × V)} {T : SlT} (hT : slT P t = some T) : aBuildSlice P t len parts h = bsGo (some T) len parts h := by
  obtain ⟨he, hz, hsz, hbs, hzs, _⟩ := slT_eq hT
  unfold aBuildSlice bsGo
  simp only [he, hsz, hz, hzs, true_and]
  split
  · cases aFill (fun i => some (i * T.sz, T.sz)) (made T.zs len) parts <;> rfl
  · rfl

/-! ### make, copy -/
theorem make_go {T : SlT} {l c : Nat} {k k' : IntKind} (hT : slT P t = some T) (hl : l ≤ c) (h1 : T.bs * c ≤ 140737488355328) (h2 : c ≤ 140737488355328) :
    aMake P t (.int k (l : Int)) (.int k' (c : Int)) h = some (.sl h.n 0 l c, h.push (.cells (made T.zs c) T.e none)) := by
  obtain ⟨he, hz, hsz, hbs, hzs, _⟩ := slT_eq hT
  unfold aMake
  simp [he, natOf, hz, hbs, hsz, hzs, hl, h1, h2]
theorem copy_new {T : SlT} {tx : TypeId} {i cap n : Nat} {c cs : List V} {src : V} {h : AHeap} (hT : slT P t = some T) (hg : h.get i = .cells c T.e none) (hs : aLenOf src = some n) (hf : aFirst T.sz n src h = some cs)
    (hone : cs.all (·.one) = true) (hfit : cs.length ≤ c.length) :
    ∃ h', aCopy P t (.sl i 0 n cap) src h = some (.int .i64 n, h') ∧ h' = h.set i (.cells (lay c 0 cs) T.e none) := by
  obtain ⟨he, hz, hsz, hbs, hzs, _⟩ := slT_eq hT
  have hmin : Nat.min n n = n := Nat.min_self _
  unfold aCopy
  simp only [he, hsz, hs, hmin, hf]
  by_cases h0 : n = 0
  · subst h0
    have hcs : cs = [] := by
      have := (aFirst_len hf)
      simpa using this
    subst hcs
    refine ⟨h, by simp, ?_⟩
    rw [show lay c 0 [] = c by simp [lay]]
    exact (set_self hg).symm
  · rw [if_neg h0]
    simp only [hg, Nat.zero_add]
    rw [if_pos ⟨hfit, hone⟩]
    exact ⟨_, rfl, rfl⟩
where
  aFirst_len {sz n : Nat} {x : V} {h : AHeap} {vs : List V} (hs : aFirst sz n x h = some vs) : vs.length = n * sz := by
    unfold aFirst at hs
    split at hs
    · split at hs
      · rename_i h0; simp at hs; subst hs; simp [h0]
      · cases hs
    · split at hs
      · rename_i h0; simp at hs; subst hs; simp [h0]
      · cases hs
    · split at hs
      · split at hs
        · simp at hs; subst hs; simp; omega
        · cases hs
      · cases hs
    · split at hs
      · simp at hs; subst hs; simp; omega
      · cases hs
    · split at hs
      · rename_i hc; simp at hs; subst hs
        have := byteCells_length
        rw [List.length_take, List.length_map, this]
        rw [hc.1]; omega
      · cases hs
    · cases hs
end

/-! ### Telling a state otherwise, behind a piece of code; and the arguments of a call -/
theorem SWp.castPost {P : Program} {n : Nat} {c : Code} {Q : AExit → AFrame → AHeap → Prop} {f : AFrame} {h : AHeap} (hs : SWp P n c (fun x f h => ∃ f2 h2, CastF f h f2 h2 ∧ Q x f2 h2) f h) : SWp P n c Q f h := by
  intro ρ B w0 a w hw hf
  refine wp_mono (hs ρ B w0 a w hw hf) fun e a' w' ⟨ρ', x, f', h', hx, hw', hf', hl, f2, h2, hc, hQ⟩ => ?_
  obtain ⟨ρ2, hl2, hw2, hf2⟩ := hc ρ' B w0 w' n a' hw' hf'
  exact ⟨ρ2, x, f2, h2, hx, hw2, hf2, hl.trans hl2, hQ⟩
theorem CastF.refl (f : AFrame) (h : AHeap) : CastF f h f h := fun ρ B w0 w n a hw hf => ⟨ρ, Ren.le.refl ρ, hw, hf⟩
theorem CastF.trans {f f1 f2 : AFrame} {h h1 h2 : AHeap} (a : CastF f h f1 h1) (b : CastF f1 h1 f2 h2) : CastF f h f2 h2 := fun ρ B w0 w n x hw hf =>
  let ⟨ρ1, l1, w1, v1⟩ := a ρ B w0 w n x hw hf
  let ⟨ρ2, l2, w2, v2⟩ := b ρ1 B w0 w n x w1 v1
  ⟨ρ2, l1.trans l2, w2, v2⟩
/-- What one slot holds is told otherwise. -/
theorem CastF.slot {f : AFrame} {h h2 : AHeap} {t : Tmp} {v : V} (hc : Cast (f t) h v h2) : CastF f h (f.put (some t) v) h2 := fun ρ B w0 w n a hw hf => by
  obtain ⟨ρ', hl, hw', hv⟩ := hc ρ B w0 w _ hw (hf.tmps t)
  refine ⟨ρ', hl, hw', fun k => ?_, hf.size, hf.defers⟩
  simp only [AFrame.put]
  by_cases hk : k = t
  · subst hk; simpa using hv
  · simp only [hk, if_false]; exact (hf.tmps k).mono hl
theorem SCallsE.args {P : Program} {fid : FuncId} {args args2 : List V} {h h2 : AHeap} {R : V → AHeap → Prop} {E : AHeap → Prop} (hc : CastL args h args2 h2) (hs : SCallsE P fid args2 h2 R E) : SCallsE P fid args h R E := by
  intro ρ B w0 w args' hw ha
  obtain ⟨ρ1, l1, w1, a1⟩ := hc ρ B w0 w _ hw ha
  refine (hs ρ1 B w0 w args' w1 a1).mono fun e w' hh => ?_
  rcases hh with ⟨ρ', r, r', h', he, hr, hw', hle, hR⟩ | ⟨ρ', ch, h', he, hch, hw', hle, hE⟩
  · exact .inl ⟨ρ', r, r', h', he, hr, hw', l1.trans hle, hR⟩
  · exact .inr ⟨ρ', ch, h', he, hch, hw', l1.trans hle, hE⟩
theorem SCalls.args {P : Program} {fid : FuncId} {args args2 : List V} {h h2 : AHeap} {R : V → AHeap → Prop} (hc : CastL args h args2 h2) (hs : SCalls P fid args2 h2 R) : SCalls P fid args h R := SCallsE.args hc hs
/-- A new slice of some elements, as an argument. -/
theorem Cast.lit {h : AHeap} {c : List V} {e : TypeId} {n sz : Nat} (hc : c.length = n * sz) (hn : n < unk) (hsz : 0 < sz) : ∃ h2, Cast (.sl h.n 0 n n) (h.push (.cells c e none)) (.imm n c) h2 ∧ Keep h h2 none_ := by
  have ho := Own.fresh (h := h) (e := e) c n n hc (Nat.le_refl _) hn
  rw [← hc, List.take_length] at ho
  obtain ⟨h2, h3, h4⟩ := Cast.own ho hc hsz
  exact ⟨h2, h3, (Keep.push h _ none_).trans h4 fun k hk hid => by simp [isId, idOf] at hid; omega⟩
end Go.Proofs.Ytohiphnmebklfaa.Ab

namespace Go.Proofs.Ytohiphnmebklfaa.Ab
open Go Go.RowKit
set_option linter.unusedVariables false

/-! ### Cuts of an own slice -/
variable {P : Program} {t : TypeId} {T : SlT}
theorem loOf_int {k : IntKind} {n : Nat} : loOf (some (.int k (n : Int))) = some n := by simp [loOf, natOf]
theorem hiOf_int {k : IntKind} {l n : Nat} : hiOf l (some (.int k (n : Int))) = some n := by simp [hiOf, natOf]

/-- The first n elements, and no room behind them. -/
theorem own_first {k k2 : IntKind} (hT : slT P t = some T) (hpos : 0 < T.sz) {h : AHeap} {v : V} {cs : List V} (ho : Own h T.e T.sz v cs) {n : Nat} (hn : n * T.sz ≤ cs.length) (hu : cs.length < unk) :
    ∃ v2, aSlice P t v none (some (.int k (n : Int))) (some (.int k2 (n : Int))) = some v2 ∧ Own h T.e T.sz v2 (cs.take (n * T.sz)) ∧ (idOf v2 = idOf v) := by
  obtain ⟨he, hz, hsz, hbs, hzs, hu2⟩ := slT_eq hT
  rcases ho with ⟨hv, rfl⟩ | ⟨i, len, cap, c, ex, rfl, hi, hg, hlen, htake, hcap⟩
  · have h0 : n = 0 := by
      have : n * T.sz = 0 := by simpa using hn
      rcases Nat.mul_eq_zero.1 this with h | h <;> omega
    subst h0
    rcases hv with rfl | rfl
    · exact ⟨.snil, by simp [aSlice, hu2, hsz, loOf, hiOf, natOf], .inl ⟨.inl rfl, by simp⟩, rfl⟩
    · exact ⟨.z0, by simp [aSlice, hu2, hsz, loOf, hiOf, natOf], .inl ⟨.inr rfl, by simp⟩, rfl⟩
  · have hnl : n ≤ len := by
      rw [hlen] at hn
      exact Nat.le_of_mul_le_mul_right hn hpos
    have hlu : len < unk := by
      have : len ≤ len * T.sz := Nat.le_mul_of_pos_right _ hpos
      omega
    have hcl : len * T.sz ≤ c.length := by
      have := congrArg List.length htake
      rw [List.length_take, hlen] at this
      omega
    refine ⟨.sl i 0 n n, ?_, .inr ⟨i, n, n, c, ex, rfl, hi, hg, ?_, ?_, .inl ⟨by omega, by omega, Nat.le_refl _⟩⟩, rfl⟩
    · simp only [aSlice, hu2, hsz, loOf, hiOf_int, Option.isSome_some, true_and]
      by_cases hc : unk ≤ cap
      · rw [if_pos hc, if_pos ⟨by omega, by omega⟩]
        simp [cutSlice, hlu, hnl]
      · rw [if_neg hc, if_neg (by simp; omega)]
        have hcap2 : len ≤ cap := by rcases hcap with ⟨_, _, h⟩ | ⟨h, _⟩ <;> omega
        simp [cutSlice, show cap < unk by omega]
        omega
    · rw [List.length_take, hlen]; exact Nat.min_eq_left (Nat.mul_le_mul_right _ hnl)
    · rw [← htake, List.take_take]
      congr 1
      have := Nat.mul_le_mul_right T.sz hnl
      omega

/-- What is behind the first n elements is cleared. -/
theorem own_clear {k : IntKind} (hT : slT P t = some T) (hpos : 0 < T.sz) (hone : T.zs.all (·.one) = true) {h : AHeap} {v : V} {cs : List V} (ho : Own h T.e T.sz v cs) {n : Nat} (hn : n * T.sz ≤ cs.length) :
    ∃ s h', aSlice P t v (some (.int k (n : Int))) none none = some s ∧ aClear P t s h = some h' ∧ (∃ cs', cs'.take (n * T.sz) = cs.take (n * T.sz) ∧ cs'.length = cs.length ∧ Own h' T.e T.sz v cs') ∧ Keep h h' (isId v) := by
  obtain ⟨he, hz, hsz, hbs, hzs, hu2⟩ := slT_eq hT
  rcases ho with ⟨hv, rfl⟩ | ⟨i, len, cap, c, ex, rfl, hi, hg, hlen, htake, hcap⟩
  · have h0 : n = 0 := by
      have : n * T.sz = 0 := by simpa using hn
      rcases Nat.mul_eq_zero.1 this with h | h <;> omega
    subst h0
    rcases hv with rfl | rfl
    · exact ⟨.snil, h, by simp [aSlice, hu2, hsz, loOf, hiOf, natOf], by simp [aClear, he], ⟨[], by simp, rfl, .inl ⟨.inl rfl, rfl⟩⟩, Keep.refl _ _⟩
    · exact ⟨.z0, h, by simp [aSlice, hu2, hsz, loOf, hiOf, natOf], by simp [aClear, he], ⟨[], by simp, rfl, .inl ⟨.inr rfl, rfl⟩⟩, Keep.refl _ _⟩
  · have hnl : n ≤ len := by
      rw [hlen] at hn
      exact Nat.le_of_mul_le_mul_right hn hpos
    have hcl : len * T.sz ≤ c.length := by
      have := congrArg List.length htake
      rw [List.length_take, hlen] at this
      omega
    have hsame : Own h T.e T.sz (.sl i 0 len cap) cs := .inr ⟨i, len, cap, c, ex, rfl, hi, hg, hlen, htake, hcap⟩
    by_cases hnl2 : n = len
    · subst hnl2
      have : ∃ s, aSlice P t (.sl i 0 n cap) (some (.int k (n : Int))) none none = some s ∧ aClear P t s h = some h := by
        simp only [aSlice, hu2, hsz, loOf_int, hiOf, Option.isSome_none]
        by_cases hc : cap < unk
        · have hcap2 : n ≤ cap := by rcases hcap with ⟨_, _, h⟩ | ⟨h, _⟩ <;> omega
          exact ⟨.sl i (if cap = n then 0 else n * T.sz) 0 (cap - n), by simp [cutSlice, hc, hcap2], by simp [aClear, he, hz, hg]⟩
        · by_cases h0 : n = 0
          · subst h0
            exact ⟨.sl i 0 0 cap, by simp [cutSlice, hc], by simp [aClear, he, hz, hg]⟩
          · exact ⟨.imm 0 [], by simp [cutSlice, hc, h0], by simp [aClear, he]⟩
      obtain ⟨s, h1, h2⟩ := this
      exact ⟨s, h, h1, h2, ⟨cs, rfl, rfl, hsame⟩, Keep.refl _ _⟩
    · have hlt : n < len := by omega
      have hml : (made T.zs (len - n)).length = (len - n) * T.sz := by rw [length_made, hzs]
      have hfit : n * T.sz + (len - n) * T.sz = len * T.sz := by rw [← Nat.add_mul]; congr 1; omega
      have : ∃ cp, aSlice P t (.sl i 0 len cap) (some (.int k (n : Int))) none none = some (.sl i (n * T.sz) (len - n) cp) := by
        simp only [aSlice, hu2, hsz, loOf_int, hiOf, Option.isSome_none]
        by_cases hc : cap < unk
        · have hcap2 : len ≤ cap := by rcases hcap with ⟨_, _, h⟩ | ⟨h, _⟩ <;> omega
          refine ⟨cap - n, ?_⟩
          simp [cutSlice, hc, hcap2, hnl, show cap ≠ n by omega]
        · refine ⟨cap + n, ?_⟩
          simp [cutSlice, hc, hnl, hlt]
      obtain ⟨cp, h1⟩ := this
      refine ⟨_, h.set i (.cells (lay c (n * T.sz) (made T.zs (len - n))) T.e ex), h1, ?_, ⟨(lay c (n * T.sz) (made T.zs (len - n))).take (len * T.sz), ?_, ?_, .inr ⟨i, len, cap, _, ex, rfl, hi, by simp [AHeap.set], ?_, rfl, ?_⟩⟩, (Keep.set h i _).mono fun k hk => by subst hk; rfl⟩
      · simp only [aClear, he, hz, hg]
        rw [if_neg (by omega), if_pos ⟨hone, by omega⟩]
      · have e1 : min (n * T.sz) (len * T.sz) = n * T.sz := by omega
        rw [List.take_take, ← htake, List.take_take, e1]
        have e2 : (c.take (n * T.sz)).length = n * T.sz := by rw [List.length_take]; omega
        unfold lay
        rw [List.append_assoc, List.take_append_of_le_length (by omega), List.take_take, Nat.min_self]
      · rw [List.length_take, length_lay _ _ _ (by omega), hlen]; omega
      · rw [List.length_take, length_lay _ _ _ (by omega)]; omega
      · rcases hcap with ⟨a, b, d⟩ | ⟨a, b⟩
        · exact .inl ⟨a, by rw [length_lay _ _ _ (by omega)]; exact b, d⟩
        · exact .inr ⟨a, b⟩

/-- An element of an own slice of single cells: where it lies, and a new one in its place. -/
theorem own_elem {kk : IntKind} (hs : slSz P t = some 1) {h : AHeap} {e : TypeId} {v : V} {cs : List V} (ho : Own h e 1 v cs) {k : Nat} (hk : k < cs.length) :
    ∃ i, aIndexAddr P t v (.int kk (k : Int)) = some (.ptr i k) ∧ idOf v = some i ∧ (∃ r, dropC (h.get i) k = some (cs[k] :: r)) ∧
      ∀ x, x.one = true → ∃ ob, setC (some 1) (h.get i) k [x] = some ob ∧ Own (h.set i ob) e 1 v (cs.set k x) ∧ Keep h (h.set i ob) (isId v) := by
  rcases ho with ⟨_, rfl⟩ | ⟨i, len, cap, c, ex, rfl, hi, hg, hlen, htake, hcap⟩
  · simp at hk
  · simp only [Nat.mul_one] at hlen htake hcap
    have hcl : len ≤ c.length := by
      have := congrArg List.length htake
      rw [List.length_take, hlen] at this
      omega
    have hget : cs[k]? = c[k]? := by rw [← htake, List.getElem?_take, if_pos (by omega)]
    have hck : k < c.length := by omega
    have hel : cs[k] = c[k] := by
      rw [List.getElem?_eq_getElem hk, List.getElem?_eq_getElem hck] at hget
      exact Option.some.inj hget
    refine ⟨i, ?_, rfl, ⟨c.drop (k + 1), ?_⟩, fun x ho => ?_⟩
    · rw [aIndexAddr_eq, hs, ixGo_sl, if_pos ⟨by omega, by omega⟩]
      simp
    · rw [hg, dropC_cells, if_pos (by omega), List.drop_eq_getElem_cons hck, hel]
    · refine ⟨.cells (c.set k x) e ex, ?_, .inr ⟨i, len, cap, c.set k x, ex, rfl, hi, by simp [AHeap.set], by simp [hlen], ?_, ?_⟩, (Keep.set h i _).mono fun k hk => by subst hk; rfl⟩
      · rw [hg, setC_one ho, if_pos hck]
      · rw [Nat.mul_one, ← htake, List.take_set]
      · simpa using hcap
theorem own_lenOf {h : AHeap} {e : TypeId} {v : V} {cs : List V} {sz : Nat} (ho : Own h e sz v cs) (hpos : 0 < sz) : ∃ n, aLenOf v = some n ∧ cs.length = n * sz ∧ aFirst sz n v h = some cs := by
  rcases ho with ⟨rfl | rfl, rfl⟩ | ⟨i, len, cap, c, ex, rfl, hi, hg, hlen, htake, hcap⟩
  · exact ⟨0, rfl, by simp, rfl⟩
  · exact ⟨0, rfl, by simp, rfl⟩
  · have hcl : len * sz ≤ c.length := by
      have := congrArg List.length htake
      rw [List.length_take, hlen] at this
      omega
    exact ⟨len, rfl, hlen, by simp [aFirst, hg, hcl, htake]⟩
/-- A new slice with the contents of what is copied into it. -/
theorem own_clone {tx : TypeId} (hT : slT P t = some T) {h : AHeap} {src : V} {n : Nat} {cs : List V} {k k' : IntKind} (hs : aLenOf src = some n) (hf : ∀ h', Keep h h' none_ → aFirst T.sz n src h' = some cs) (hone : cs.all (·.one) = true) (hlen : cs.length = n * T.sz)
    (h1 : T.bs * n ≤ 140737488355328) (h2 : n ≤ 140737488355328) :
    ∃ h1 h2, aMake P t (.int k (n : Int)) (.int k' (n : Int)) h = some (.sl h.n 0 n n, h1) ∧ aCopy P t (.sl h.n 0 n n) src h1 = some (.int .i64 n, h2) ∧ Own h2 T.e T.sz (.sl h.n 0 n n) cs ∧ Keep h h1 none_ ∧ Keep h h2 none_ := by
  obtain ⟨he, hz, hsz, hbs, hzs, _⟩ := slT_eq hT
  have hml : (made T.zs n).length = n * T.sz := by rw [length_made, hzs]
  have hk1 : Keep h (h.push (.cells (made T.zs n) T.e none)) none_ := Keep.push _ _ _
  obtain ⟨h2', hc, rfl⟩ := copy_new (P := P) (t := t) (T := T) (tx := t) (i := h.n) (cap := n) (c := made T.zs n) (src := src) (h := h.push (.cells (made T.zs n) T.e none)) hT get_push_new hs (hf _ hk1) hone (by omega)
  refine ⟨_, _, make_go hT (Nat.le_refl _) h1 h2, hc, .inr ⟨h.n, n, n, _, none, rfl, ?_, get_set_same, hlen, ?_, .inl ⟨by unfold unk; omega, ?_, Nat.le_refl _⟩⟩, hk1, hk1.setNew (Nat.le_refl _) _⟩
  · rw [set_n, push_n]; omega
  · simp [lay, hlen]
  · rw [length_lay _ _ _ (by omega), hml]; exact Nat.le_refl _
end Go.Proofs.Ytohiphnmebklfaa.Ab
