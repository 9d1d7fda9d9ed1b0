/-
  Abstract values and an abstract heap for Go code, related to the world; the operations on them, and the rules of code. Conditions: none.
-/
import Derived.Test.YtfcjehlhoebmnaaGreatDoorAbB
import Derived.SizedLaws
import Derived.Laws.StructEq
import Derived.Sort.Row
import Derived.Sort.Grow
import Derived.Sort.Statements
set_option linter.unusedVariables false
set_option linter.unusedSimpArgs false
namespace Go.Proofs.YtfcjehlhoebmnaaGreatDoor.Ab
open Go Go.RowKit
set_option linter.unusedVariables false

section
variable {P : Program} {t e : TypeId} {x y v : V} {h : AHeap}
/-! ### Structs and arrays -/
def bplT (P : Program) (t : TypeId) : Option (List (Nat × Nat) ⊕ Nat) :=
  match placesT P t with
  | some pl => some (.inl pl)
  | none => match arrT P t with
    | some (_, e) => (sizeT P e).map .inr
    | none => none
def buildGo (zs : Option (List V)) (b : Option (List (Nat × Nat) ⊕ Nat)) (parts : List (Nat × V)) : Option V :=
  match zs, b with
  | some zs, some (.inl pl) => (aFill (fun i => pl[i]?) zs parts).map .agg
  | some zs, some (.inr sz) => (aFill (fun i => some (i * sz, sz)) zs parts).map .agg
  | _, _ => none
theorem aBuild_go {parts : List (Nat × V)} : aBuild P t parts = buildGo (zeroC P t) (bplT P t) parts := by
  unfold aBuild buildGo bplT
  cases zeroC P t with
  | none => rfl
  | some zs =>
    cases placesT P t with
    | some pl => rfl
    | none =>
      simp only
      cases arrT P t with
      | none => rfl
      | some p =>
        obtain ⟨n, e⟩ := p
        simp only
        cases sizeT P e <;> rfl
theorem buildGo_struct {zs : List V} {pl : List (Nat × Nat)} {parts : List (Nat × V)} : buildGo (some zs) (some (.inl pl)) parts = (aFill (fun i => pl[i]?) zs parts).map .agg := nr rfl
theorem buildGo_array {zs : List V} {sz : Nat} {parts : List (Nat × V)} : buildGo (some zs) (some (.inr sz)) parts = (aFill (fun i => some (i * sz, sz)) zs parts).map .agg := nr rfl
theorem aFill_nil {place : Nat → Option (Nat × Nat)} {cs : List V} : aFill place cs [] = some cs := nr rfl
def fillGo (place : Nat → Option (Nat × Nat)) (cs : List V) (p : Option (Nat × Nat)) (vs : Option (List V)) (r : List (Nat × V)) : Option (List V) :=
  match p, vs with
  | some (off, size), some vs => if vs.length = size ∧ off + size ≤ cs.length then aFill place (setAll cs off vs) r else none
  | _, _ => none
theorem aFill_cons {place : Nat → Option (Nat × Nat)} {cs : List V} {i : Nat} {r : List (Nat × V)} : aFill place cs ((i, v) :: r) = fillGo place cs (place i) v.cells r := by
  show (match place i, v.cells with | some (off, size), some vs => _ | _, _ => none) = _
  unfold fillGo
  rfl
theorem fillGo_some {place : Nat → Option (Nat × Nat)} {cs vs : List V} {off size : Nat} {r : List (Nat × V)} : fillGo place cs (some (off, size)) (some vs) r = if vs.length = size ∧ off + size ≤ cs.length then aFill place (setAll cs off vs) r else none := nr rfl

def partT (P : Program) (t : TypeId) (k : Nat) : Option (Nat × Option Nat) :=
  match P.underlying t with
  | some (.struct fs) => match fs[k]? with
    | some f => match rowT P f.type, sizeT P f.type with
      | some true, some n => some (f.offset, some n)
      | some false, some _ => some (f.offset, none)
      | _, _ => none
    | none => none
  | _ => none
def partGo (p : Option (Nat × Option Nat)) (x : V) : Option V :=
  match p, x with
  | some (off, some n), .agg cs => some (.agg ((cs.drop off).take n))
  | some (off, none), .agg cs => cs[off]?
  | _, _ => none
theorem aFieldOf_eq {k : Nat} : aFieldOf P t x k = partGo (partT P t k) x := by
  unfold aFieldOf partGo partT
  cases P.underlying t with
  | none => rfl
  | some d =>
    cases d <;> try rfl
    rename_i fs
    cases hk : fs[k]? with
    | none => cases x <;> simp [hk]
    | some f =>
      cases hr : rowT P f.type with
      | none => cases x <;> simp [hk, hr, aPart]
      | some b => cases b <;> cases hz : sizeT P f.type <;> cases x <;> simp [hk, hr, hz, aPart]
theorem partGo_row {off n : Nat} {cs : List V} : partGo (some (off, some n)) (.agg cs) = some (.agg ((cs.drop off).take n)) := nr rfl
theorem partGo_one {off : Nat} {cs : List V} : partGo (some (off, none)) (.agg cs) = cs[off]? := nr rfl

/-! ### Slices -/
theorem slSz_eq {sz : Nat} (h : slSz P t = some sz) : ∃ e, P.underlying t = some (.slice e) ∧ sizeT P e = some sz := by
  unfold slSz at h
  split at h
  · rename_i e hu; exact ⟨e, hu, h⟩
  · cases h
/-- s[lo:] and s[lo:hi] of what is only read. -/
theorem slice_imm {sz n : Nat} {cs : List V} {lo hi : Option V} {l m : Nat} (hs : slSz P t = some sz) (h1 : loOf lo = some l) (h2 : hiOf n hi = some m) (hl : l ≤ m) (hm : m ≤ n) (hc : cs.length = n * sz) :
    aSlice P t (.imm n cs) lo hi none = some (.imm (m - l) ((cs.drop (l * sz)).take ((m - l) * sz))) := by
  obtain ⟨e, hu, he⟩ := slSz_eq hs
  unfold aSlice
  have h3 : hiOf n (none : Option V) = some n := rfl
  simp only [hu, he, h1, h2, h3]
  have : l * sz ≤ cs.length := by rw [hc]; exact Nat.mul_le_mul_right _ (by omega)
  simp [cutImm, hl, hm, this]
theorem slice_imm_lo {sz n : Nat} {cs : List V} {k : IntKind} {l : Int} (hs : slSz P t = some sz) (h0 : 0 ≤ l) (hl : l ≤ n) (hc : cs.length = n * sz) :
    aSlice P t (.imm n cs) (some (.int k l)) none none = some (.imm (n - l.toNat) (cs.drop (l.toNat * sz))) := by
  rw [slice_imm hs (l := l.toNat) (m := n) (by simp [loOf, natOf, h0]) rfl (by omega) (Nat.le_refl _) hc]
  rw [List.take_of_length_le]
  rw [List.length_drop, hc, Nat.sub_mul]
  first | done | exact Nat.le_refl _
theorem slice_imm_hi {sz n : Nat} {cs : List V} {k : IntKind} {m : Int} (hs : slSz P t = some sz) (h0 : 0 ≤ m) (hm : m ≤ n) (hc : cs.length = n * sz) :
    aSlice P t (.imm n cs) none (some (.int k m)) none = some (.imm m.toNat (cs.take (m.toNat * sz))) := by
  rw [slice_imm hs (l := 0) (m := m.toNat) rfl (by simp [hiOf, natOf, h0]) (Nat.zero_le _) (by omega) hc]
  simp
/-- An element. -/
theorem index_imm {sz n : Nat} {cs : List V} {k : IntKind} {i : Int} (hs : slSz P t = some sz) (h0 : 0 ≤ i) (hi : i < n) (hc : cs.length = n * sz) :
    aIndexAddr P t (.imm n cs) (.int k i) = some (.at (cs.drop (i.toNat * sz))) := by
  rw [aIndexAddr_eq, hs, ixGo_imm, if_pos ⟨h0, hi, by rw [hc]; exact Nat.mul_le_mul_right _ (by omega)⟩]

/-! ### Bytes and strings -/
def byT (P : Program) (t : TypeId) : Bool := match P.underlying t with | some (.slice e) => isU8 P e | _ => false
theorem byT_eq (h : byT P t = true) : ∃ e, P.underlying t = some (.slice e) ∧ isU8 P e = true := by
  unfold byT at h
  split at h
  · rename_i e hu; exact ⟨e, hu, h⟩
  · cases h
theorem strT_eq (h : strT P t = true) : P.underlying t = some .string := by
  unfold strT at h
  split at h
  · assumption
  · cases h
theorem conv_imm {s d : TypeId} {ns : List Int} {n : Nat} (hs : byT P s = true) (hd : strT P d = true) (hn : n = ns.length) : aConv P s d (.imm n (ns.map (V.int .u8))) h = some (.string (strOfNums ns)) := by
  obtain ⟨e, hu, he⟩ := byT_eq hs
  unfold aConv
  have : (flatV (.imm n (ns.map (V.int .u8)))).bind (fun a => pureRun P (convert s d a)) = none := rfl
  rw [this]
  simp only [hu, strT_eq hd]
  rw [if_pos ⟨he, by simpa using hn⟩, numsOf_map]
  rfl
theorem conv_str {s d : TypeId} {b : ByteArray} (hs : strT P s = true) (hd : byT P d = true) : aConv P s d (.string b) h = some (.imm b.size (b.data.toList.map fun u => V.int .u8 u.toNat)) := by
  obtain ⟨e, hu, he⟩ := byT_eq hd
  unfold aConv
  have e1 : (flatV (.string b)).bind (fun a => pureRun P (convert s d a)) = none := by
    show pureRun P (convert s d (.string b)) = none
    unfold convert
    rw [pureRun_bind, pureRun_underlying (strT_eq hs), Option.bind_some, pureRun_bind, pureRun_underlying hu, Option.bind_some]
    simp only
    rw [pureRun_bind, pureRun_underlying (isU8_eq he), Option.bind_some]
    rfl
  rw [e1]
  simp only [strT_eq hs, hu, he, if_true, byteCells_flat]

def bsGo (T : Option SlT) (len : Nat) (parts : List (Nat × V)) (h : AHeap) : Option (V × AHeap) :=
  match T with
  | some T => if len * T.sz ≤ 2 ^ 24 ∧ len ≤ 2 ^ 24 then (aFill (fun i => some (i * T.sz, T.sz)) (made T.zs len) parts).map fun cells => (.sl h.n 0 len len, h.push (.cells cells T.e none)) else none
  | none => none
theorem buildSlice_go {len : Nat} {parts : List (Nat × V)} {T : SlT} (hT : slT P t = some T) : aBuildSlice P t len parts h = bsGo (some T) len parts h := by
  obtain ⟨he, hz, hsz, hbs, hzs, _⟩ := slT_eq hT
  unfold aBuildSlice bsGo
  simp only [he, hsz, hz, hzs, true_and]
  split
  · cases aFill (fun i => some (i * T.sz, T.sz)) (made T.zs len) parts <;> rfl
  · rfl

/-! ### make, copy -/
theorem make_go {T : SlT} {l c : Nat} {k k' : IntKind} (hT : slT P t = some T) (hl : l ≤ c) (h1 : T.bs * c ≤ 140737488355328) (h2 : c ≤ 140737488355328) :
    aMake P t (.int k (l : Int)) (.int k' (c : Int)) h = some (.sl h.n 0 l c, h.push (.cells (made T.zs c) T.e none)) := by
  obtain ⟨he, hz, hsz, hbs, hzs, _⟩ := slT_eq hT
  unfold aMake
  simp [he, natOf, hz, hbs, hsz, hzs, hl, h1, h2]
theorem copy_new {T : SlT} {tx : TypeId} {i cap n : Nat} {c cs : List V} {src : V} {h : AHeap} (hT : slT P t = some T) (hg : h.get i = .cells c T.e none) (hs : aLenOf src = some n) (hf : aFirst T.sz n src h = some cs)
    (hone : cs.all (·.one) = true) (hfit : cs.length ≤ c.length) :
    ∃ h', aCopy P t (.sl i 0 n cap) src h = some (.int .i64 n, h') ∧ h' = h.set i (.cells (lay c 0 cs) T.e none) := by
  obtain ⟨he, hz, hsz, hbs, hzs, _⟩ := slT_eq hT
  have hmin : Nat.min n n = n := Nat.min_self _
  unfold aCopy
  simp only [he, hsz, hs, hmin, hf]
  by_cases h0 : n = 0
  · subst h0
    have hcs : cs = [] := by
      have := (aFirst_len hf)
      simpa using this
    subst hcs
    refine ⟨h, by simp, ?_⟩
    rw [show lay c 0 [] = c by simp [lay]]
    exact (set_self hg).symm
  · rw [if_neg h0]
    simp only [hg, Nat.zero_add]
    rw [if_pos ⟨hfit, hone⟩]
    exact ⟨_, rfl, rfl⟩
where
  aFirst_len {sz n : Nat} {x : V} {h : AHeap} {vs : List V} (hs : aFirst sz n x h = some vs) : vs.length = n * sz := by
    unfold aFirst at hs
    split at hs
    · split at hs
      · rename_i h0; simp at hs; subst hs; simp [h0]
      · cases hs
    · split at hs
      · rename_i h0; simp at hs; subst hs; simp [h0]
      · cases hs
    · split at hs
      · split at hs
        · simp at hs; subst hs; simp; omega
        · cases hs
      · cases hs
    · split at hs
      · simp at hs; subst hs; simp; omega
      · cases hs
    · split at hs
      · rename_i hc; simp at hs; subst hs
        have := byteCells_length
        rw [List.length_take, List.length_map, this]
        rw [hc.1]; omega
      · cases hs
    · cases hs
end

/-! ### Telling a state otherwise, behind a piece of code; and the arguments of a call -/
theorem SWp.castPost {P : Program} {n : Nat} {c : Code} {Q : AExit → AFrame → AHeap → Prop} {f : AFrame} {h : AHeap} (hs : SWp P n c (fun x f h => ∃ f2 h2, CastF f h f2 h2 ∧ Q x f2 h2) f h) : SWp P n c Q f h := by
  intro ρ B w0 a w hw hf
  refine wp_mono (hs ρ B w0 a w hw hf) fun e a' w' ⟨ρ', x, f', h', hx, hw', hf', hl, f2, h2, hc, hQ⟩ => ?_
  obtain ⟨ρ2, hl2, hw2, hf2⟩ := hc ρ' B w0 w' n a' hw' hf'
  exact ⟨ρ2, x, f2, h2, hx, hw2, hf2, hl.trans hl2, hQ⟩
theorem CastF.refl (f : AFrame) (h : AHeap) : CastF f h f h := fun ρ B w0 w n a hw hf => ⟨ρ, Ren.le.refl ρ, hw, hf⟩
theorem CastF.trans {f f1 f2 : AFrame} {h h1 h2 : AHeap} (a : CastF f h f1 h1) (b : CastF f1 h1 f2 h2) : CastF f h f2 h2 := fun ρ B w0 w n x hw hf =>
  let ⟨ρ1, l1, w1, v1⟩ := a ρ B w0 w n x hw hf
  let ⟨ρ2, l2, w2, v2⟩ := b ρ1 B w0 w n x w1 v1
  ⟨ρ2, l1.trans l2, w2, v2⟩
/-- What one slot holds is told otherwise. -/
theorem CastF.slot {f : AFrame} {h h2 : AHeap} {t : Tmp} {v : V} (hc : Cast (f t) h v h2) : CastF f h (f.put (some t) v) h2 := fun ρ B w0 w n a hw hf => by
  obtain ⟨ρ', hl, hw', hv⟩ := hc ρ B w0 w _ hw (hf.tmps t)
  refine ⟨ρ', hl, hw', fun k => ?_, hf.size, hf.defers.trans hl.dfr.symm⟩
  simp only [AFrame.put]
  by_cases hk : k = t
  · subst hk; simpa using hv
  · simp only [hk, if_false]; exact (hf.tmps k).mono hl
theorem SCallsE.args {P : Program} {fid : FuncId} {args args2 : List V} {h h2 : AHeap} {R : V → AHeap → Prop} {E : AHeap → Prop} (hc : CastL args h args2 h2) (hs : SCallsE P fid args2 h2 R E) : SCallsE P fid args h R E := by
  intro ρ B w0 w args' hw ha
  obtain ⟨ρ1, l1, w1, a1⟩ := hc ρ B w0 w _ hw ha
  refine (hs ρ1 B w0 w args' w1 a1).mono fun e w' hh => ?_
  rcases hh with ⟨ρ', r, r', h', he, hr, hw', hle, hR⟩ | ⟨ρ', ch, h', he, hch, hw', hle, hE⟩
  · exact .inl ⟨ρ', r, r', h', he, hr, hw', l1.trans hle, hR⟩
  · exact .inr ⟨ρ', ch, h', he, hch, hw', l1.trans hle, hE⟩
theorem SCalls.args {P : Program} {fid : FuncId} {args args2 : List V} {h h2 : AHeap} {R : V → AHeap → Prop} (hc : CastL args h args2 h2) (hs : SCalls P fid args2 h2 R) : SCalls P fid args h R := SCallsE.args hc hs
/-- A new slice of some elements, as an argument. -/
theorem Cast.lit {h : AHeap} {c : List V} {e : TypeId} {n sz : Nat} (hc : c.length = n * sz) (hn : n < unk) (hsz : 0 < sz) : ∃ h2, Cast (.sl h.n 0 n n) (h.push (.cells c e none)) (.imm n c) h2 ∧ Keep h h2 none_ := by
  have ho := Own.fresh (h := h) (e := e) c n n hc (Nat.le_refl _) hn
  rw [← hc, List.take_length] at ho
  obtain ⟨h2, h3, h4⟩ := Cast.own ho hc hsz
  exact ⟨h2, h3, (Keep.push h _ none_).trans h4 fun k hk hid => by simp [isId, idOf] at hid; omega⟩
end Go.Proofs.YtfcjehlhoebmnaaGreatDoor.Ab

namespace Go.Proofs.YtfcjehlhoebmnaaGreatDoor.Ab
open Go Go.RowKit
set_option linter.unusedVariables false

/-! ### Cuts of an own slice -/
variable {P : Program} {t : TypeId} {T : SlT}
theorem loOf_int {k : IntKind} {n : Nat} : loOf (some (.int k (n : Int))) = some n := by simp [loOf, natOf]
theorem hiOf_int {k : IntKind} {l n : Nat} : hiOf l (some (.int k (n : Int))) = some n := by simp [hiOf, natOf]

/-- The first n elements, and no room behind them. -/
theorem own_first {k k2 : IntKind} (hT : slT P t = some T) (hpos : 0 < T.sz) {h : AHeap} {v : V} {cs : List V} (ho : Own h T.e T.sz v cs) {n : Nat} (hn : n * T.sz ≤ cs.length) (hu : cs.length < unk) :
    ∃ v2, aSlice P t v none (some (.int k (n : Int))) (some (.int k2 (n : Int))) = some v2 ∧ Own h T.e T.sz v2 (cs.take (n * T.sz)) ∧ (idOf v2 = idOf v) := by
  obtain ⟨he, hz, hsz, hbs, hzs, hu2⟩ := slT_eq hT
  rcases ho with ⟨hv, rfl⟩ | ⟨i, len, cap, c, ex, rfl, hi, hg, hlen, htake, hcap⟩
  · have h0 : n = 0 := by
      have : n * T.sz = 0 := by simpa using hn
      rcases Nat.mul_eq_zero.1 this with h | h <;> omega
    subst h0
    rcases hv with rfl | rfl
    · exact ⟨.snil, by simp [aSlice, hu2, hsz, loOf, hiOf, natOf], .inl ⟨.inl rfl, by simp⟩, rfl⟩
    · exact ⟨.z0, by simp [aSlice, hu2, hsz, loOf, hiOf, natOf], .inl ⟨.inr rfl, by simp⟩, rfl⟩
  · have hnl : n ≤ len := by
      rw [hlen] at hn
      exact Nat.le_of_mul_le_mul_right hn hpos
    have hlu : len < unk := by
      have : len ≤ len * T.sz := Nat.le_mul_of_pos_right _ hpos
      omega
    have hcl : len * T.sz ≤ c.length := by
      have := congrArg List.length htake
      rw [List.length_take, hlen] at this
      omega
    refine ⟨.sl i 0 n n, ?_, .inr ⟨i, n, n, c, ex, rfl, hi, hg, ?_, ?_, .inl ⟨by omega, by omega, Nat.le_refl _⟩⟩, rfl⟩
    · simp only [aSlice, hu2, hsz, loOf, hiOf_int, Option.isSome_some, true_and]
      by_cases hc : unk ≤ cap
      · rw [if_pos hc, if_pos ⟨by omega, by omega⟩]
        simp [cutSlice, hlu, hnl]
      · rw [if_neg hc, if_neg (by simp; omega)]
        have hcap2 : len ≤ cap := by rcases hcap with ⟨_, _, h⟩ | ⟨h, _⟩ <;> omega
        simp [cutSlice, show cap < unk by omega]
        omega
    · rw [List.length_take, hlen]; exact Nat.min_eq_left (Nat.mul_le_mul_right _ hnl)
    · rw [← htake, List.take_take]
      congr 1
      have := Nat.mul_le_mul_right T.sz hnl
      omega

/-- What is behind the first n elements is cleared. -/
theorem own_clear {k : IntKind} (hT : slT P t = some T) (hpos : 0 < T.sz) (hone : T.zs.all (·.one) = true) {h : AHeap} {v : V} {cs : List V} (ho : Own h T.e T.sz v cs) {n : Nat} (hn : n * T.sz ≤ cs.length) :
    ∃ s h', aSlice P t v (some (.int k (n : Int))) none none = some s ∧ aClear P t s h = some h' ∧ (∃ cs', cs'.take (n * T.sz) = cs.take (n * T.sz) ∧ cs'.length = cs.length ∧ Own h' T.e T.sz v cs') ∧ Keep h h' (isId v) := by
  obtain ⟨he, hz, hsz, hbs, hzs, hu2⟩ := slT_eq hT
  rcases ho with ⟨hv, rfl⟩ | ⟨i, len, cap, c, ex, rfl, hi, hg, hlen, htake, hcap⟩
  · have h0 : n = 0 := by
      have : n * T.sz = 0 := by simpa using hn
      rcases Nat.mul_eq_zero.1 this with h | h <;> omega
    subst h0
    rcases hv with rfl | rfl
    · exact ⟨.snil, h, by simp [aSlice, hu2, hsz, loOf, hiOf, natOf], by simp [aClear, he], ⟨[], by simp, rfl, .inl ⟨.inl rfl, rfl⟩⟩, Keep.refl _ _⟩
    · exact ⟨.z0, h, by simp [aSlice, hu2, hsz, loOf, hiOf, natOf], by simp [aClear, he], ⟨[], by simp, rfl, .inl ⟨.inr rfl, rfl⟩⟩, Keep.refl _ _⟩
  · have hnl : n ≤ len := by
      rw [hlen] at hn
      exact Nat.le_of_mul_le_mul_right hn hpos
    have hcl : len * T.sz ≤ c.length := by
      have := congrArg List.length htake
      rw [List.length_take, hlen] at this
      omega
    have hsame : Own h T.e T.sz (.sl i 0 len cap) cs := .inr ⟨i, len, cap, c, ex, rfl, hi, hg, hlen, htake, hcap⟩
    by_cases hnl2 : n = len
    · subst hnl2
      have : ∃ s, aSlice P t (.sl i 0 n cap) (some (.int k (n : Int))) none none = some s ∧ aClear P t s h = some h := by
        simp only [aSlice, hu2, hsz, loOf_int, hiOf, Option.isSome_none]
        by_cases hc : cap < unk
        · have hcap2 : n ≤ cap := by rcases hcap with ⟨_, _, h⟩ | ⟨h, _⟩ <;> omega
          exact ⟨.sl i (if cap = n then 0 else n * T.sz) 0 (cap - n), by simp [cutSlice, hc, hcap2], by simp [aClear, he, hz, hg]⟩
        · by_cases h0 : n = 0
          · subst h0
            exact ⟨.sl i 0 0 cap, by simp [cutSlice, hc], by simp [aClear, he, hz, hg]⟩
          · exact ⟨.imm 0 [], by simp [cutSlice, hc, h0], by simp [aClear, he]⟩
      obtain ⟨s, h1, h2⟩ := this
      exact ⟨s, h, h1, h2, ⟨cs, rfl, rfl, hsame⟩, Keep.refl _ _⟩
    · have hlt : n < len := by omega
      have hml : (made T.zs (len - n)).length = (len - n) * T.sz := by rw [length_made, hzs]
      have hfit : n * T.sz + (len - n) * T.sz = len * T.sz := by rw [← Nat.add_mul]; congr 1; omega
      have : ∃ cp, aSlice P t (.sl i 0 len cap) (some (.int k (n : Int))) none none = some (.sl i (n * T.sz) (len - n) cp) := by
        simp only [aSlice, hu2, hsz, loOf_int, hiOf, Option.isSome_none]
        by_cases hc : cap < unk
        · have hcap2 : len ≤ cap := by rcases hcap with ⟨_, _, h⟩ | ⟨h, _⟩ <;> omega
          refine ⟨cap - n, ?_⟩
          simp [cutSlice, hc, hcap2, hnl, show cap ≠ n by omega]
        · refine ⟨cap + n, ?_⟩
          simp [cutSlice, hc, hnl, hlt]
      obtain ⟨cp, h1⟩ := this
      refine ⟨_, h.set i (.cells (lay c (n * T.sz) (made T.zs (len - n))) T.e ex), h1, ?_, ⟨(lay c (n * T.sz) (made T.zs (len - n))).take (len * T.sz), ?_, ?_, .inr ⟨i, len, cap, _, ex, rfl, hi, by simp [AHeap.set], ?_, rfl, ?_⟩⟩, (Keep.set h i _).mono fun k hk => by subst hk; rfl⟩
      · simp only [aClear, he, hz, hg]
        rw [if_neg (by omega), if_pos ⟨hone, by omega⟩]
      · have e1 : min (n * T.sz) (len * T.sz) = n * T.sz := by omega
        rw [List.take_take, ← htake, List.take_take, e1]
        have e2 : (c.take (n * T.sz)).length = n * T.sz := by rw [List.length_take]; omega
        unfold lay
        rw [List.append_assoc, List.take_append_of_le_length (by omega), List.take_take, Nat.min_self]
      · rw [List.length_take, length_lay _ _ _ (by omega), hlen]; omega
      · rw [List.length_take, length_lay _ _ _ (by omega)]; omega
      · rcases hcap with ⟨a, b, d⟩ | ⟨a, b⟩
        · exact .inl ⟨a, by rw [length_lay _ _ _ (by omega)]; exact b, d⟩
        · exact .inr ⟨a, b⟩

/-- An element of an own slice of single cells: where it lies, and a new one in its place. -/
theorem own_elem {kk : IntKind} (hs : slSz P t = some 1) {h : AHeap} {e : TypeId} {v : V} {cs : List V} (ho : Own h e 1 v cs) {k : Nat} (hk : k < cs.length) :
    ∃ i, aIndexAddr P t v (.int kk (k : Int)) = some (.ptr i k) ∧ idOf v = some i ∧ (∃ r, dropC (h.get i) k = some (cs[k] :: r)) ∧
      ∀ x, x.one = true → ∃ ob, setC (some 1) (h.get i) k [x] = some ob ∧ Own (h.set i ob) e 1 v (cs.set k x) ∧ Keep h (h.set i ob) (isId v) := by
  rcases ho with ⟨_, rfl⟩ | ⟨i, len, cap, c, ex, rfl, hi, hg, hlen, htake, hcap⟩
  · simp at hk
  · simp only [Nat.mul_one] at hlen htake hcap
    have hcl : len ≤ c.length := by
      have := congrArg List.length htake
      rw [List.length_take, hlen] at this
      omega
    have hget : cs[k]? = c[k]? := by rw [← htake, List.getElem?_take, if_pos (by omega)]
    have hck : k < c.length := by omega
    have hel : cs[k] = c[k] := by
      rw [List.getElem?_eq_getElem hk, List.getElem?_eq_getElem hck] at hget
      exact Option.some.inj hget
    refine ⟨i, ?_, rfl, ⟨c.drop (k + 1), ?_⟩, fun x ho => ?_⟩
    · rw [aIndexAddr_eq, hs, ixGo_sl, if_pos ⟨by omega, by omega⟩]
      simp
    · rw [hg, dropC_cells, if_pos (by omega), List.drop_eq_getElem_cons hck, hel]
    · refine ⟨.cells (c.set k x) e ex, ?_, .inr ⟨i, len, cap, c.set k x, ex, rfl, hi, by simp [AHeap.set], by simp [hlen], ?_, ?_⟩, (Keep.set h i _).mono fun k hk => by subst hk; rfl⟩
      · rw [hg, setC_one ho, if_pos hck]
      · rw [Nat.mul_one, ← htake, List.take_set]
      · simpa using hcap
theorem own_lenOf {h : AHeap} {e : TypeId} {v : V} {cs : List V} {sz : Nat} (ho : Own h e sz v cs) (hpos : 0 < sz) : ∃ n, aLenOf v = some n ∧ cs.length = n * sz ∧ aFirst sz n v h = some cs := by
  rcases ho with ⟨rfl | rfl, rfl⟩ | ⟨i, len, cap, c, ex, rfl, hi, hg, hlen, htake, hcap⟩
  · exact ⟨0, rfl, by simp, rfl⟩
  · exact ⟨0, rfl, by simp, rfl⟩
  · have hcl : len * sz ≤ c.length := by
      have := congrArg List.length htake
      rw [List.length_take, hlen] at this
      omega
    exact ⟨len, rfl, hlen, by simp [aFirst, hg, hcl, htake]⟩
/-- A new slice with the contents of what is copied into it. -/
theorem own_clone {tx : TypeId} (hT : slT P t = some T) {h : AHeap} {src : V} {n : Nat} {cs : List V} {k k' : IntKind} (hs : aLenOf src = some n) (hf : ∀ h', Keep h h' none_ → aFirst T.sz n src h' = some cs) (hone : cs.all (·.one) = true) (hlen : cs.length = n * T.sz)
    (h1 : T.bs * n ≤ 140737488355328) (h2 : n ≤ 140737488355328) :
    ∃ h1 h2, aMake P t (.int k (n : Int)) (.int k' (n : Int)) h = some (.sl h.n 0 n n, h1) ∧ aCopy P t (.sl h.n 0 n n) src h1 = some (.int .i64 n, h2) ∧ Own h2 T.e T.sz (.sl h.n 0 n n) cs ∧ Keep h h1 none_ ∧ Keep h h2 none_ := by
  obtain ⟨he, hz, hsz, hbs, hzs, _⟩ := slT_eq hT
  have hml : (made T.zs n).length = n * T.sz := by rw [length_made, hzs]
  have hk1 : Keep h (h.push (.cells (made T.zs n) T.e none)) none_ := Keep.push _ _ _
  obtain ⟨h2', hc, rfl⟩ := copy_new (P := P) (t := t) (T := T) (tx := t) (i := h.n) (cap := n) (c := made T.zs n) (src := src) (h := h.push (.cells (made T.zs n) T.e none)) hT get_push_new hs (hf _ hk1) hone (by omega)
  refine ⟨_, _, make_go hT (Nat.le_refl _) h1 h2, hc, .inr ⟨h.n, n, n, _, none, rfl, ?_, get_set_same, hlen, ?_, .inl ⟨by unfold unk; omega, ?_, Nat.le_refl _⟩⟩, hk1, hk1.setNew (Nat.le_refl _) _⟩
  · rw [set_n, push_n]; omega
  · simp [lay, hlen]
  · rw [length_lay _ _ _ (by omega), hml]; exact Nat.le_refl _
end Go.Proofs.YtfcjehlhoebmnaaGreatDoor.Ab

namespace Go.Proofs.YtfcjehlhoebmnaaGreatDoor.Ab
open Go Go.RowKit
set_option linter.unusedVariables false

/-! ### What came in, of any type of plain data -/
inductive Sh where
  | bool | int (k : IntKind) | str | sl (s : Sh) | unit | cat (a b : Sh)
def Sh.width : Sh → Nat
  | .unit => 0
  | .cat a b => a.width + b.width
  | _ => 1
def Sh.fits : Sh → List V → Prop
  | .bool, l => ∃ b, l = [.bool b]
  | .int k, l => ∃ n, l = [.int k n] ∧ (Lit.int k n).wf = true
  | .str, l => ∃ s, l = [.string s]
  | .sl s, l => ∃ es : List (List V), l = [.imm es.length es.flatten] ∧ ∀ e ∈ es, s.fits e
  | .unit, l => l = []
  | .cat a b, l => ∃ l1 l2, l = l1 ++ l2 ∧ a.fits l1 ∧ b.fits l2
theorem Sh.fits_length : ∀ {s : Sh} {l : List V}, s.fits l → l.length = s.width
  | .bool, _, ⟨_, h⟩ => by subst h; rfl
  | .int _, _, ⟨_, h, _⟩ => by subst h; rfl
  | .str, _, ⟨_, h⟩ => by subst h; rfl
  | .sl _, _, ⟨_, h, _⟩ => by subst h; rfl
  | .unit, _, h => by have : _ = [] := h; subst this; rfl
  | .cat a b, _, ⟨l1, l2, h, h1, h2⟩ => by subst h; rw [List.length_append, Sh.fits_length h1, Sh.fits_length h2]; rfl

def shFields (P : Program) (g : TypeId → Option Sh) : Nat → List Field → Option Sh
  | _, [] => some .unit
  | o, f :: fs =>
    if f.offset = o then
      match g f.type, shFields P g (o + P.cellsOf f.type) fs with
      | some s, some r => if s.width = P.cellsOf f.type then some (.cat s r) else none
      | _, _ => none
    else none
def shapeOf (P : Program) : Nat → TypeId → Option Sh
  | 0, _ => none
  | n + 1, t =>
    match P.underlying t with
    | some .bool => some .bool
    | some (.int k) => some (.int k)
    | some .string => some .str
    | some (.slice e) => match shapeOf P n e with | some s => if s.width = P.cellsOf e ∧ 0 < s.width then some (.sl s) else none | none => none
    | some (.struct fs) => match shFields P (shapeOf P n) 0 fs.toList with | some s => if s.width = P.cellsOf t then some s else none | none => none
    | _ => none

theorem pick_all {α : Type} {Pr : Nat → α → Prop} : ∀ (n : Nat), (∀ i, i < n → ∃ e, Pr i e) → ∃ es : List α, es.length = n ∧ ∀ i e, es[i]? = some e → Pr i e
  | 0, _ => ⟨[], rfl, by simp⟩
  | n + 1, h => by
    obtain ⟨es, h1, h2⟩ := pick_all n fun i hi => h i (by omega)
    obtain ⟨e, he⟩ := h n (by omega)
    refine ⟨es ++ [e], by simp [h1], fun i x hx => ?_⟩
    by_cases hi : i < es.length
    · rw [List.getElem?_append_left hi] at hx; exact h2 i x hx
    · rw [List.getElem?_append_right (by omega)] at hx
      have : i - es.length = 0 := by
        have := (List.getElem?_eq_some_iff.1 hx).1
        simp at this; omega
      rw [this] at hx
      simp at hx
      subst hx
      rw [show i = n by omega]
      exact he
theorem flatten_get {α : Type} {sz : Nat} (hpos : 0 < sz) : ∀ {es : List (List α)} {k : Nat} {v : α}, (∀ e ∈ es, e.length = sz) → es.flatten[k]? = some v → ∃ e, es[k / sz]? = some e ∧ e[k % sz]? = some v
  | [], k, v, _, h => by simp at h
  | e :: es, k, v, hl, h => by
    have he := hl e (by simp)
    rw [List.flatten_cons] at h
    by_cases hk : k < sz
    · rw [List.getElem?_append_left (by omega)] at h
      exact ⟨e, by rw [Nat.div_eq_of_lt hk]; rfl, by rw [Nat.mod_eq_of_lt hk]; exact h⟩
    · rw [List.getElem?_append_right (by omega), he] at h
      obtain ⟨x, h1, h2⟩ := flatten_get hpos (fun e h => hl e (by simp [h])) h
      refine ⟨x, ?_, ?_⟩
      · rw [show k / sz = (k - sz) / sz + 1 by rw [Nat.div_eq_sub_div hpos (by omega)]]
        simpa using h1
      · rw [Nat.mod_eq_sub_mod (by omega)]; exact h2
theorem flatten_len {α : Type} {sz : Nat} : ∀ {es : List (List α)}, (∀ e ∈ es, e.length = sz) → es.flatten.length = es.length * sz
  | [], _ => by simp
  | e :: es, h => by
    rw [List.flatten_cons, List.length_append, h e (by simp), flatten_len fun e he => h e (by simp [he]), List.length_cons, Nat.add_mul]
    omega

section
variable {H : Type} {enc : TypeId × Value → H} {P : Program} {w : World} {base : Nat} {spare : Nat → Bool} {held : Bool}

theorem cells_get {a : Addr} {n : Nat} {cs : List Value} (h : w.cells? base a n = some cs) : cs.length = n ∧ ∀ j, j < n → w.cell? (a.add j) = cs[j]? := by
  unfold World.cells? at h
  split at h
  case isFalse => cases h
  exact ⟨by simpa using mapM_some_length h, fun j hj => by simpa using mapM_some_get h j j (by simp [hj])⟩

theorem fields_read {g : TypeId → Option Sh} {cs : List Value} {fu : Nat} (hg : ∀ t s fuel cs x, g t = some s → DataW.trod enc P w base spare held fuel t cs = some x → ∃ l, s.fits l ∧ LRel (entryRen w) l cs) :
    ∀ (fs : List Field) (o : Nat) (s : Sh) (xs : List (DataW H × List MemPlace)), shFields P g o fs = some s → xs.length = fs.length →
      (∀ (i : Nat) (f : Field), fs[i]? = some f → DataW.trod enc P w base spare held fu f.type ((cs.drop f.offset).take (P.cellsOf f.type)) = xs[i]?) → ∃ l, s.fits l ∧ LRel (entryRen w) l ((cs.drop o).take s.width)
  | [], o, s, xs, hs, _, _ => by
    simp [shFields] at hs
    subst hs
    exact ⟨[], rfl, by simpa [Sh.width] using LRel.nil _⟩
  | f :: fs, o, s, xs, hs, hl, hx => by
    unfold shFields at hs
    split at hs
    case isFalse => cases hs
    rename_i ho
    split at hs
    case h_2 => cases hs
    rename_i s1 s2 h1 h2
    split at hs
    case isFalse => cases hs
    rename_i hw
    obtain rfl := Option.some.inj hs
    cases xs with
    | nil => simp at hl
    | cons x xs =>
      have hx0 := hx 0 f rfl
      obtain ⟨l1, f1, r1⟩ := hg _ _ _ _ _ h1 hx0
      obtain ⟨l2, f2, r2⟩ := fields_read hg fs _ s2 xs h2 (by simpa using hl) fun i f' hf => hx (i + 1) f' (by simpa using hf)
      refine ⟨l1 ++ l2, ⟨l1, l2, rfl, f1, f2⟩, ?_⟩
      have := r1.append r2
      rw [ho, ← hw] at this
      have e : ((cs.drop o).take s1.width) ++ ((cs.drop (o + s1.width)).take s2.width) = (cs.drop o).take (s1.width + s2.width) := by
        rw [List.take_add, List.drop_drop]
      rw [e] at this
      exact this

theorem reads : ∀ (n : Nat) (t : TypeId) (s : Sh) (fuel : Nat) (cs : List Value) (x : DataW H × List MemPlace), shapeOf P n t = some s → DataW.trod enc P w base spare held fuel t cs = some x → ∃ l, s.fits l ∧ LRel (entryRen w) l cs
  | 0, _, _, _, _, _, hs, _ => by simp [shapeOf] at hs
  | n + 1, t, s, fuel, cs, x, hs, h => by
    unfold shapeOf at hs
    split at hs
    · rename_i hu
      obtain rfl := Option.some.inj hs
      obtain ⟨b, rfl, _⟩ := DataW.trod_bool hu h
      exact ⟨[.bool b], ⟨b, rfl⟩, .cons (.bool b) (.nil _)⟩
    · rename_i k hu
      obtain rfl := Option.some.inj hs
      obtain ⟨m, rfl, _, hw⟩ := DataW.trod_int hu h
      exact ⟨[.int k m], ⟨m, rfl, hw⟩, .cons (.int k m) (.nil _)⟩
    · rename_i hu
      obtain rfl := Option.some.inj hs
      obtain ⟨b, rfl, _⟩ := DataW.trod_string hu h
      exact ⟨[.string b], ⟨b, rfl⟩, .cons (.string b) (.nil _)⟩
    · rename_i e hu
      split at hs
      case h_2 => cases hs
      rename_i s1 hs1
      split at hs
      case isFalse => cases hs
      rename_i hw
      obtain rfl := Option.some.inj hs
      rcases DataW.trod_slice hu h with ⟨rfl, _⟩ | ⟨a, len, cap, elems, rest, m, _, rfl, _, _, hlc, _, hel, hget, _⟩
      · exact ⟨[.imm 0 []], ⟨[], rfl, by simp⟩, .cons (.immZ none 0 (by simp)) (.nil _)⟩
      · rcases Nat.eq_zero_or_pos len with h0 | hpos
        · subst h0
          exact ⟨[.imm 0 []], ⟨[], rfl, by simp⟩, .cons (.immZ (some a) cap (by simp)) (.nil _)⟩
        · have each : ∀ i, i < len → ∃ l : List V, s1.fits l ∧ ∃ ci : List Value, LRel (entryRen w) l ci ∧ ∀ j, j < s1.width → w.cell? ((a.add (i * s1.width)).add j) = ci[j]? ∧ j < ci.length := fun i hi => by
            have h1 := hget i hi
            have h2 : ∃ y, elems[i]? = some y := ⟨_, List.getElem?_eq_getElem (by omega)⟩
            obtain ⟨y, hy⟩ := h2
            rw [hy, Option.bind_eq_some_iff] at h1
            obtain ⟨ci, hc1, hc2⟩ := h1
            obtain ⟨l, f1, r1⟩ := reads n e s1 m ci y hs1 hc2
            rw [← hw.1] at hc1
            obtain ⟨g1, g2⟩ := cells_get hc1
            exact ⟨l, f1, ci, r1, fun j hj => ⟨g2 j hj, by omega⟩⟩
          obtain ⟨es, hes1, hes2⟩ := pick_all len each
          have hmem : ∀ e ∈ es, s1.fits e := fun e he => by
            obtain ⟨i, hi⟩ := List.getElem?_of_mem he
            exact (hes2 i e hi).1
          have hlen : ∀ e ∈ es, e.length = s1.width := fun e he => Sh.fits_length (hmem e he)
          obtain ⟨b, off, sp⟩ := a
          have c0 : ∃ v, w.cell? ⟨b, off, sp⟩ = some v := by
            obtain ⟨_, ci, _, hc⟩ := (hes2 0 es[0] (List.getElem?_eq_getElem (by omega)))
            obtain ⟨q1, q2⟩ := hc 0 hw.2
            rw [Nat.zero_mul] at q1
            simp only [Addr.add, if_true] at q1
            exact ⟨_, q1.trans (List.getElem?_eq_getElem q2)⟩
          obtain ⟨v0, hv0⟩ := c0
          have hb : ∃ arr et fz, w.heap[b]? = some (.cells arr et fz) ∧ sp = none := by
            unfold World.cell? at hv0
            split at hv0
            · rename_i c et fz hq
              refine ⟨c, et, fz, hq, ?_⟩
              cases sp with
              | none => rfl
              | some _ => simp at hv0
            · cases hv0
          obtain ⟨arr, et, fz, hb, rfl⟩ := hb
          have hcell : ∀ m, w.cell? (Addr.add ⟨b, off, none⟩ m) = arr[off + m]? := fun m => by
            rw [Addr.add_mid]
            simp [World.cell?, hb]
          have hat : ∀ i j, j < s1.width → w.cell? ((Addr.add ⟨b, off, none⟩ (i * s1.width)).add j) = arr[off + (i * s1.width + j)]? := fun i j _ => by
            rw [Addr.add_mid, Addr.add_mid]
            simp [World.cell?, hb, Nat.add_assoc]
          refine ⟨[.imm es.length es.flatten], ⟨es, rfl, hmem⟩, .cons ?_ (.nil _)⟩
          rw [hes1]
          refine .imm off len cap (entry_frz hb) hlc ?_ fun k v v' h1 h2 => ?_
          · rw [flatten_len hlen, hes1]
            obtain ⟨_, ci, _, hc⟩ := (hes2 (len - 1) es[len - 1] (List.getElem?_eq_getElem (by omega)))
            obtain ⟨q1, q2⟩ := hc (s1.width - 1) (by omega)
            rw [hat _ _ (by omega), List.getElem?_eq_getElem q2] at q1
            have q3 := (Array.getElem?_eq_some_iff.1 q1).1
            have : (len - 1) * s1.width + s1.width = len * s1.width := by
              rw [← Nat.succ_mul]; congr 1; omega
            omega
          · obtain ⟨e1, g1, g2⟩ := flatten_get hw.2 hlen h1
            obtain ⟨_, ci, hr, hc⟩ := hes2 _ e1 g1
            have hj : k % s1.width < s1.width := Nat.mod_lt _ hw.2
            obtain ⟨q1, q2⟩ := hc _ hj
            rw [hat _ _ hj, show k / s1.width * s1.width + k % s1.width = k by rw [Nat.mul_comm]; exact Nat.div_add_mod k s1.width, h2] at q1
            exact hr.2 _ _ _ g2 q1.symm
    · rename_i fs hu
      split at hs
      case h_2 => cases hs
      rename_i s1 hs1
      split at hs
      case isFalse => cases hs
      rename_i hw
      obtain rfl := Option.some.inj hs
      obtain ⟨xs, m, _, _, hcl, hxl, hx⟩ := DataW.trod_struct hu h
      obtain ⟨l, f1, r1⟩ := fields_read (fu := m) (fun t s fuel cs x h1 h2 => reads n t s fuel cs x h1 h2) fs.toList 0 s1 xs hs1 (by simpa using hxl) fun i f hf => hx i f (by simpa using hf)
      rw [List.drop_zero, hw, ← hcl, List.take_length] at r1
      exact ⟨l, f1, r1⟩
    · cases hs

/-- A slice that came in: its elements, and that they are not too many. -/
theorem arg_slice {n : Nat} {t e : TypeId} {s : Sh} {a : Option Addr} {len cap : Nat} {d : DataW H} {ps : List MemPlace} (hu : P.underlying t = some (.slice e)) (hs : shapeOf P n e = some s) (hw : s.width = P.cellsOf e ∧ 0 < s.width)
    (h : DataW.Trod enc P w base spare held t (.slice a len cap) d ps) :
    ∃ es : List (List V), (∀ x ∈ es, s.fits x) ∧ VRel (entryRen w) (.imm es.length es.flatten) (.slice a len cap) ∧ (es.length = 0 ∨ ∃ el sp, d = .slice el sp ∧ es.length = el.length) := by
  obtain ⟨fuel, hf⟩ := h
  obtain ⟨l, ⟨es, rfl, hes⟩, hr⟩ := reads (n + 1) t (.sl s) fuel _ _ (by simp only [shapeOf, hu, hs, if_pos hw]) hf
  have hv : VRel (entryRen w) (.imm es.length es.flatten) (.slice a len cap) := hr.2 0 _ _ rfl rfl
  refine ⟨es, hes, hv, ?_⟩
  have hl : es.length = len := by
    generalize hq : es.length = m at hv
    generalize es.flatten = c at hv
    rcases hv.imm_inv with ⟨rfl, _, _, _, _, hh⟩ | ⟨_, _, _, _, _, _, _, _, hh⟩ <;> · simp at hh; omega
  rcases DataW.trod_slice hu hf with ⟨hc, _⟩ | ⟨a2, len2, cap2, elems, rest, m, _, hc, hx, _, _, _, hel, _⟩
  · simp [Value.cells] at hc
    left; omega
  · simp [Value.cells] at hc
    right
    exact ⟨_, _, (congrArg Prod.fst hx), by simp [hl, hel, hc.2.1]⟩
end
end Go.Proofs.YtfcjehlhoebmnaaGreatDoor.Ab

namespace Go.Proofs.YtfcjehlhoebmnaaGreatDoor.Ab
open Go Go.RowKit
set_option linter.unusedVariables false

/-! ### What came in, with the lengths of all slices bounded -/
def Sh.fitsB : Sh → List V → Prop
  | .bool, l => ∃ b, l = [.bool b]
  | .int k, l => ∃ n, l = [.int k n] ∧ (Lit.int k n).wf = true
  | .str, l => ∃ s, l = [.string s]
  | .sl s, l => ∃ es : List (List V), l = [.imm es.length es.flatten] ∧ es.length < 2 ^ 47 ∧ ∀ e ∈ es, s.fitsB e
  | .unit, l => l = []
  | .cat a b, l => ∃ l1 l2, l = l1 ++ l2 ∧ a.fitsB l1 ∧ b.fitsB l2
theorem Sh.fitsB_length : ∀ {s : Sh} {l : List V}, s.fitsB l → l.length = s.width
  | .bool, _, ⟨_, h⟩ => by subst h; rfl
  | .int _, _, ⟨_, h, _⟩ => by subst h; rfl
  | .str, _, ⟨_, h⟩ => by subst h; rfl
  | .sl _, _, ⟨_, h, _⟩ => by subst h; rfl
  | .unit, _, h => by have : _ = [] := h; subst this; rfl
  | .cat a b, _, ⟨l1, l2, h, h1, h2⟩ => by subst h; rw [List.length_append, Sh.fitsB_length h1, Sh.fitsB_length h2]; rfl

def shapeOfB (P : Program) : Nat → TypeId → Option Sh
  | 0, _ => none
  | n + 1, t =>
    match P.underlying t with
    | some .bool => some .bool
    | some (.int k) => some (.int k)
    | some .string => some .str
    | some (.slice e) => match shapeOfB P n e with | some s => if s.width = P.cellsOf e ∧ 0 < s.width ∧ 1 ≤ P.bytesOf e then some (.sl s) else none | none => none
    | some (.struct fs) => match shFields P (shapeOfB P n) 0 fs.toList with | some s => if s.width = P.cellsOf t then some s else none | none => none
    | _ => none

theorem weightsAll_mem {H : Type} {P : Program} {e : TypeId} {n : Nat} : ∀ {l : List (DataW H)} {d : DataW H}, d ∈ l → n ∈ d.weights P e → n ∈ DataW.weightsAll P e l
  | [], _, h, _ => by simp at h
  | x :: l, d, h, hn => by
    simp only [DataW.weightsAll, List.mem_append]
    rcases List.mem_cons.1 h with rfl | h
    · exact .inl hn
    · exact .inr (weightsAll_mem h hn)

section
variable {H : Type} {enc : TypeId × Value → H} {P : Program} {w : World} {base : Nat} {spare : Nat → Bool} {held : Bool}

theorem fields_readB {g : TypeId → Option Sh} {cs : List Value} {fu : Nat} (hg : ∀ t s fuel cs x, g t = some s → DataW.trod enc P w base spare held fuel t cs = some x → (∀ n ∈ x.1.weights P t, n ≤ reachBytes) → ∃ l, s.fitsB l ∧ LRel (entryRen w) l cs) :
    ∀ (fs : List Field) (o : Nat) (s : Sh) (xs : List (DataW H × List MemPlace)), shFields P g o fs = some s → xs.length = fs.length →
      (∀ (i : Nat) (f : Field), fs[i]? = some f → DataW.trod enc P w base spare held fu f.type ((cs.drop f.offset).take (P.cellsOf f.type)) = xs[i]?) → (∀ n ∈ DataW.weightsEach P (fs.map (·.type)) (xs.map (·.1)), n ≤ reachBytes) → ∃ l, s.fitsB l ∧ LRel (entryRen w) l ((cs.drop o).take s.width)
  | [], o, s, xs, hs, _, _, _ => by
    simp [shFields] at hs
    subst hs
    exact ⟨[], rfl, by simpa [Sh.width] using LRel.nil _⟩
  | f :: fs, o, s, xs, hs, hl, hx, hb => by
    unfold shFields at hs
    split at hs
    case isFalse => cases hs
    rename_i ho
    split at hs
    case h_2 => cases hs
    rename_i s1 s2 h1 h2
    split at hs
    case isFalse => cases hs
    rename_i hw
    obtain rfl := Option.some.inj hs
    cases xs with
    | nil => simp at hl
    | cons x xs =>
      have hx0 := hx 0 f rfl
      obtain ⟨l1, f1, r1⟩ := hg _ _ _ _ _ h1 hx0 (fun n hn => hb n (by simp only [List.map_cons, DataW.weightsEach, List.mem_append]; exact .inl hn))
      obtain ⟨l2, f2, r2⟩ := fields_readB hg fs _ s2 xs h2 (by simpa using hl) (fun i f' hf => hx (i + 1) f' (by simpa using hf)) (fun n hn => hb n (by simp only [List.map_cons, DataW.weightsEach, List.mem_append]; exact .inr hn))
      refine ⟨l1 ++ l2, ⟨l1, l2, rfl, f1, f2⟩, ?_⟩
      have := r1.append r2
      rw [ho, ← hw] at this
      have e : ((cs.drop o).take s1.width) ++ ((cs.drop (o + s1.width)).take s2.width) = (cs.drop o).take (s1.width + s2.width) := by
        rw [List.take_add, List.drop_drop]
      rw [e] at this
      exact this

theorem readsB : ∀ (n : Nat) (t : TypeId) (s : Sh) (fuel : Nat) (cs : List Value) (x : DataW H × List MemPlace), shapeOfB P n t = some s → DataW.trod enc P w base spare held fuel t cs = some x → (∀ n ∈ x.1.weights P t, n ≤ reachBytes) → ∃ l, s.fitsB l ∧ LRel (entryRen w) l cs
  | 0, _, _, _, _, _, hs, _, _ => by simp [shapeOfB] at hs
  | n + 1, t, s, fuel, cs, x, hs, h, hB => by
    unfold shapeOfB at hs
    split at hs
    · rename_i hu
      obtain rfl := Option.some.inj hs
      obtain ⟨b, rfl, _⟩ := DataW.trod_bool hu h
      exact ⟨[.bool b], ⟨b, rfl⟩, .cons (.bool b) (.nil _)⟩
    · rename_i k hu
      obtain rfl := Option.some.inj hs
      obtain ⟨m, rfl, _, hw⟩ := DataW.trod_int hu h
      exact ⟨[.int k m], ⟨m, rfl, hw⟩, .cons (.int k m) (.nil _)⟩
    · rename_i hu
      obtain rfl := Option.some.inj hs
      obtain ⟨b, rfl, _⟩ := DataW.trod_string hu h
      exact ⟨[.string b], ⟨b, rfl⟩, .cons (.string b) (.nil _)⟩
    · rename_i e hu
      split at hs
      case h_2 => cases hs
      rename_i s1 hs1
      split at hs
      case isFalse => cases hs
      rename_i hw
      obtain rfl := Option.some.inj hs
      rcases DataW.trod_slice hu h with ⟨rfl, _⟩ | ⟨a, len, cap, elems, rest, m, _, rfl, hxx, _, hlc, _, hel, hget, _⟩
      · exact ⟨[.imm 0 []], ⟨[], rfl, by decide, by simp⟩, .cons (.immZ none 0 (by simp)) (.nil _)⟩
      · rcases Nat.eq_zero_or_pos len with h0 | hpos
        · subst h0
          exact ⟨[.imm 0 []], ⟨[], rfl, by decide, by simp⟩, .cons (.immZ (some a) cap (by simp)) (.nil _)⟩
        · have each : ∀ i, i < len → ∃ l : List V, s1.fitsB l ∧ ∃ ci : List Value, LRel (entryRen w) l ci ∧ ∀ j, j < s1.width → w.cell? ((a.add (i * s1.width)).add j) = ci[j]? ∧ j < ci.length := fun i hi => by
            have h1 := hget i hi
            have h2 : ∃ y, elems[i]? = some y := ⟨_, List.getElem?_eq_getElem (by omega)⟩
            obtain ⟨y, hy⟩ := h2
            rw [hy, Option.bind_eq_some_iff] at h1
            obtain ⟨ci, hc1, hc2⟩ := h1
            obtain ⟨l, f1, r1⟩ := readsB n e s1 m ci y hs1 hc2 (fun n hn => hB n (by
              rw [hxx]
              simp only [DataW.weights, hu]
              exact List.mem_cons_of_mem _ (List.mem_append_left _ (weightsAll_mem (List.mem_map.2 ⟨y, List.mem_of_getElem? hy, rfl⟩) hn))))
            rw [← hw.1] at hc1
            obtain ⟨g1, g2⟩ := cells_get hc1
            exact ⟨l, f1, ci, r1, fun j hj => ⟨g2 j hj, by omega⟩⟩
          obtain ⟨es, hes1, hes2⟩ := pick_all len each
          have hmem : ∀ e ∈ es, s1.fitsB e := fun e he => by
            obtain ⟨i, hi⟩ := List.getElem?_of_mem he
            exact (hes2 i e hi).1
          have hlen : ∀ e ∈ es, e.length = s1.width := fun e he => Sh.fitsB_length (hmem e he)
          obtain ⟨b, off, sp⟩ := a
          have c0 : ∃ v, w.cell? ⟨b, off, sp⟩ = some v := by
            obtain ⟨_, ci, _, hc⟩ := (hes2 0 es[0] (List.getElem?_eq_getElem (by omega)))
            obtain ⟨q1, q2⟩ := hc 0 hw.2.1
            rw [Nat.zero_mul] at q1
            simp only [Addr.add, if_true] at q1
            exact ⟨_, q1.trans (List.getElem?_eq_getElem q2)⟩
          obtain ⟨v0, hv0⟩ := c0
          have hb : ∃ arr et fz, w.heap[b]? = some (.cells arr et fz) ∧ sp = none := by
            unfold World.cell? at hv0
            split at hv0
            · rename_i c et fz hq
              refine ⟨c, et, fz, hq, ?_⟩
              cases sp with
              | none => rfl
              | some _ => simp at hv0
            · cases hv0
          obtain ⟨arr, et, fz, hb, rfl⟩ := hb
          have hcell : ∀ m, w.cell? (Addr.add ⟨b, off, none⟩ m) = arr[off + m]? := fun m => by
            rw [Addr.add_mid]
            simp [World.cell?, hb]
          have hat : ∀ i j, j < s1.width → w.cell? ((Addr.add ⟨b, off, none⟩ (i * s1.width)).add j) = arr[off + (i * s1.width + j)]? := fun i j _ => by
            rw [Addr.add_mid, Addr.add_mid]
            simp [World.cell?, hb, Nat.add_assoc]
          have hsz : es.length < 2 ^ 47 := by
            have h0 := hB ((elems.length + rest.length) * P.bytesOf e) (by rw [hxx]; simp [DataW.weights, hu])
            have h1 := Nat.le_trans (Nat.le_mul_of_pos_right _ hw.2.2) h0
            have h2 := reachBytes_lt
            omega
          refine ⟨[.imm es.length es.flatten], ⟨es, rfl, hsz, hmem⟩, .cons ?_ (.nil _)⟩
          rw [hes1]
          refine .imm off len cap (entry_frz hb) hlc ?_ fun k v v' h1 h2 => ?_
          · rw [flatten_len hlen, hes1]
            obtain ⟨_, ci, _, hc⟩ := (hes2 (len - 1) es[len - 1] (List.getElem?_eq_getElem (by omega)))
            obtain ⟨q1, q2⟩ := hc (s1.width - 1) (by omega)
            rw [hat _ _ (by omega), List.getElem?_eq_getElem q2] at q1
            have q3 := (Array.getElem?_eq_some_iff.1 q1).1
            have : (len - 1) * s1.width + s1.width = len * s1.width := by
              rw [← Nat.succ_mul]; congr 1; omega
            omega
          · obtain ⟨e1, g1, g2⟩ := flatten_get hw.2.1 hlen h1
            obtain ⟨_, ci, hr, hc⟩ := hes2 _ e1 g1
            have hj : k % s1.width < s1.width := Nat.mod_lt _ hw.2.1
            obtain ⟨q1, q2⟩ := hc _ hj
            rw [hat _ _ hj, show k / s1.width * s1.width + k % s1.width = k by rw [Nat.mul_comm]; exact Nat.div_add_mod k s1.width, h2] at q1
            exact hr.2 _ _ _ g2 q1.symm
    · rename_i fs hu
      split at hs
      case h_2 => cases hs
      rename_i s1 hs1
      split at hs
      case isFalse => cases hs
      rename_i hw
      obtain rfl := Option.some.inj hs
      obtain ⟨xs, m, _, hxx, hcl, hxl, hx⟩ := DataW.trod_struct hu h
      obtain ⟨l, f1, r1⟩ := fields_readB (fu := m) (fun t s fuel cs x h1 h2 h3 => readsB n t s fuel cs x h1 h2 h3) fs.toList 0 s1 xs hs1 (by simpa using hxl) (fun i f hf => hx i f (by simpa using hf)) (fun n hn => hB n (by rw [hxx]; simp only [DataW.weights, hu]; exact hn))
      rw [List.drop_zero, hw, ← hcl, List.take_length] at r1
      exact ⟨l, f1, r1⟩
    · cases hs

/-- A slice that came in: its elements, and that they are not too many. -/
theorem arg_sliceB {n : Nat} {t e : TypeId} {s : Sh} {a : Option Addr} {len cap : Nat} {d : DataW H} {ps : List MemPlace} (hu : P.underlying t = some (.slice e)) (hs : shapeOfB P n e = some s) (hw : s.width = P.cellsOf e ∧ 0 < s.width ∧ 1 ≤ P.bytesOf e) (hB : ∀ n ∈ d.weights P t, n ≤ reachBytes)
    (h : DataW.Trod enc P w base spare held t (.slice a len cap) d ps) :
    ∃ es : List (List V), (∀ x ∈ es, s.fitsB x) ∧ VRel (entryRen w) (.imm es.length es.flatten) (.slice a len cap) ∧ es.length < 2 ^ 47 := by
  obtain ⟨fuel, hf⟩ := h
  obtain ⟨l, ⟨es, rfl, hn, hes⟩, hr⟩ := readsB (n + 1) t (.sl s) fuel _ _ (by simp only [shapeOfB, hu, hs, if_pos hw]) hf hB
  exact ⟨es, hes, hr.2 0 _ _ rfl rfl, hn⟩
end
end Go.Proofs.YtfcjehlhoebmnaaGreatDoor.Ab

namespace Go.Proofs.YtfcjehlhoebmnaaGreatDoor.Ab
open Go Go.RowKit
set_option linter.unusedVariables false
variable {P : Program} {t : TypeId} {T : SlT}
/-- A new slice with the contents of what is copied into it, and room behind them. -/
theorem own_clone2 {tx : TypeId} (hT : slT P t = some T) {h : AHeap} {src : V} {n c : Nat} {cs : List V} {k k' : IntKind} (hs : aLenOf src = some n) (hf : ∀ h', Keep h h' none_ → aFirst T.sz n src h' = some cs) (hone : cs.all (·.one) = true) (hlen : cs.length = n * T.sz)
    (hnc : n ≤ c) (h1 : T.bs * c ≤ 140737488355328) (h2 : c ≤ 140737488355328) :
    ∃ h1 h2, aMake P t (.int k (n : Int)) (.int k' (c : Int)) h = some (.sl h.n 0 n c, h1) ∧ aCopy P t (.sl h.n 0 n c) src h1 = some (.int .i64 n, h2) ∧ Own h2 T.e T.sz (.sl h.n 0 n c) cs ∧ Keep h h1 none_ ∧ Keep h h2 none_ := by
  obtain ⟨he, hz, hsz, hbs, hzs, _⟩ := slT_eq hT
  have hml : (made T.zs c).length = c * T.sz := by rw [length_made, hzs]
  have hle := Nat.mul_le_mul_right T.sz hnc
  have hk1 : Keep h (h.push (.cells (made T.zs c) T.e none)) none_ := Keep.push _ _ _
  obtain ⟨h2', hc, rfl⟩ := copy_new (P := P) (t := t) (T := T) (tx := t) (i := h.n) (cap := c) (c := made T.zs c) (src := src) (h := h.push (.cells (made T.zs c) T.e none)) hT get_push_new hs (hf _ hk1) hone (by omega)
  refine ⟨_, _, make_go hT hnc h1 h2, hc, .inr ⟨h.n, n, c, _, none, rfl, ?_, get_set_same, hlen, ?_, .inl ⟨by unfold unk; omega, ?_, hnc⟩⟩, hk1, hk1.setNew (Nat.le_refl _) _⟩
  · rw [set_n, push_n]; omega
  · unfold lay
    rw [List.take_zero, List.nil_append, List.take_append_of_le_length (by omega), List.take_of_length_le (by omega)]
  · rw [length_lay _ _ _ (by omega), hml]; exact Nat.le_refl _
end Go.Proofs.YtfcjehlhoebmnaaGreatDoor.Ab

namespace Go.Proofs.YtfcjehlhoebmnaaGreatDoor.Ab
open Go Go.RowKit
set_option linter.unusedVariables false

/-! ### A scope in which the run jumps back to one label -/
def scopeRounds (P : Program) (l : Nat) (rest : Code) (Q : Exit → Act → World → Prop) : Nat → Act → World → Prop
  | 0, _, _ => False
  | m + 1, a, w => rest.wp P (Exit.jump l (scopeRounds P l rest Q m) Q) a w

theorem wp_scope_rounds {P : Program} {c rest : Code} {l : Nat} {Q : Exit → Act → World → Prop} {a : Act} {w : World} (hf : findLabel c l = some rest) (m : Nat)
    (first : c.wp P (Exit.jump l (scopeRounds P l rest Q m) Q) a w) : (Code.scope c).wp P Q a w := by
  intro b k cs
  have hg : gotoIn l (.inScope c :: k) = some (.code rest :: .inScope c :: k) := by simp [gotoIn, hf]
  have key : ∀ m a w, scopeRounds P l rest Q m a w → ∃ e a' w', Q e a' w' ∧ Arrives P (lone (b.at a (.code rest :: .inScope c :: k)) cs w) b k cs e a' w' := by
    intro m
    induction m with
    | zero => intro a w h; exact h.elim
    | succ m ih =>
      intro a w hJ
      obtain ⟨e, a₁, w₁, hq, harr⟩ := hJ b (.inScope c :: k) cs
      cases e with
      | normal => exact ⟨.normal, a₁, w₁, hq, Steps.trans harr (.one step_inScope)⟩
      | exit id => exact ⟨.exit id, a₁, w₁, hq, fun k' hk => harr k' (by simp [exitTo, hk])⟩
      | goto l' =>
        obtain ⟨rfl, hJ'⟩ := hq
        obtain ⟨e₂, a₂, w₂, hq₂, harr₂⟩ := ih a₁ w₁ hJ'
        exact ⟨e₂, a₂, w₂, hq₂, .of_steps (harr _ hg) harr₂⟩
      | ret => exact ⟨_, a₁, w₁, hq, harr⟩
      | panic ch => exact ⟨_, a₁, w₁, hq, harr⟩
      | outgrown => exact ⟨_, a₁, w₁, hq, harr⟩
  obtain ⟨e, a₁, w₁, hq, harr⟩ := first b (.inScope c :: k) cs
  cases e with
  | normal => exact ⟨.normal, a₁, w₁, hq, .head step_scope (Steps.trans harr (.one step_inScope))⟩
  | exit id => exact ⟨.exit id, a₁, w₁, hq, fun k' hk => .head step_scope (harr k' (by simp [exitTo, hk]))⟩
  | goto l' =>
    obtain ⟨rfl, hJ'⟩ := hq
    obtain ⟨e₂, a₂, w₂, hq₂, harr₂⟩ := key m a₁ w₁ hJ'
    exact ⟨e₂, a₂, w₂, hq₂, .of_steps (.head step_scope (harr _ hg)) harr₂⟩
  | ret => exact ⟨_, a₁, w₁, hq, .of_steps (.one step_scope) harr⟩
  | panic ch => exact ⟨_, a₁, w₁, hq, .of_steps (.one step_scope) harr⟩
  | outgrown => exact ⟨_, a₁, w₁, hq, .of_steps (.one step_scope) harr⟩

def jumpA (l : Nat) (J : AFrame → AHeap → Prop) (Q : AExit → AFrame → AHeap → Prop) : AExit → AFrame → AHeap → Prop
  | .goto l', f, h => l' = l ∧ J f h
  | e, f, h => Q e f h
section
variable {l : Nat} {J : AFrame → AHeap → Prop} {Q : AExit → AFrame → AHeap → Prop} {f : AFrame} {h : AHeap}
theorem jumpA_normal : jumpA l J Q .normal f h = Q .normal f h := nr rfl
theorem jumpA_exit {j : Nat} : jumpA l J Q (.exit j) f h = Q (.exit j) f h := nr rfl
theorem jumpA_ret : jumpA l J Q .ret f h = Q .ret f h := nr rfl
theorem jumpA_panic : jumpA l J Q .panic f h = Q .panic f h := nr rfl
theorem jumpA_goto {j : Nat} : jumpA l J Q (.goto j) f h = (j = l ∧ J f h) := nr rfl
end
theorem SWp.scopeG {P : Program} {n l : Nat} {c b : Code} {α : Type} (hl : findLabel c l = some (.seq .skip b)) {Q : AExit → AFrame → AHeap → Prop} {f : AFrame} {h : AHeap} (J : α → AFrame → AHeap → Prop) (μ : α → Nat)
    (hμ : ∀ x f h, J x f h → μ x < 1000000000000000000000)
    (pass : ∀ x f h, J x f h → SWp P n b (jumpA l (fun f' h' => @hidI ⟨∃ y, J y f' h' ∧ μ y < μ x⟩) Q) f h)
    (first : (∀ x f h, J x f h → SWp P n b (jumpA l (fun f' h' => ∃ y, J y f' h') Q) f h) → SWp P n c (jumpA l (fun f' h' => ∃ y, J y f' h') Q) f h) : SWp P n (.scope c) Q f h := by
  have pass' : ∀ x f h, J x f h → SWp P n b (jumpA l (fun f' h' => ∃ y, J y f' h') Q) f h := fun x f h hJ => (pass x f h hJ).mono fun e f' h' hq => by
    cases e with
    | goto l' => exact ⟨hq.1, let ⟨y, hy, _⟩ := hq.2; ⟨y, hy⟩⟩
    | _ => exact hq
  intro ρ B w0 a w hw hf
  have key : ∀ m x f h, J x f h → μ x < m → ∀ ρ1 : Ren, ρ.le ρ1 → ∀ a w, WRel ρ1 B w0 h w → FRel ρ1 n f a → scopeRounds P l (.seq .skip b) (CPost n B w0 ρ Q) m a w := by
    intro m
    induction m with
    | zero => intro x f h _ hm; omega
    | succ m ih =>
      intro x f h hI hm ρ1 hle a w hw hf
      refine wp_mono ((SWp.seq (.skip (pass x f h hI))) ρ1 B w0 a w hw hf) fun e a' w' ⟨ρ', x', f', h', hx, hw', hf', hl', hQ⟩ => ?_
      cases x' <;> cases e <;> simp only [XR] at hx
      · exact ⟨ρ', .normal, f', h', trivial, hw', hf', hle.trans hl', hQ⟩
      · exact ⟨ρ', .exit _, f', h', hx, hw', hf', hle.trans hl', hQ⟩
      · obtain ⟨rfl, y, hy, hlt⟩ := hQ
        exact ⟨hx.symm, ih y f' h' hy (by omega) ρ' (hle.trans hl') a' w' hw' hf'⟩
      · exact ⟨ρ', .ret, f', h', trivial, hw', hf', hle.trans hl', hQ⟩
      · exact ⟨ρ', .panic, f', h', hx, hw', hf', hle.trans hl', hQ⟩
  refine wp_scope_rounds hl 1000000000000000000000 (wp_mono (first pass' ρ B w0 a w hw hf) fun e a' w' ⟨ρ', x, f', h', hx, hw', hf', hl', hQ⟩ => ?_)
  cases x <;> cases e <;> simp only [XR] at hx
  · exact ⟨ρ', .normal, f', h', trivial, hw', hf', hl', hQ⟩
  · exact ⟨ρ', .exit _, f', h', hx, hw', hf', hl', hQ⟩
  · obtain ⟨rfl, y, hy⟩ := hQ
    exact ⟨hx.symm, key _ y f' h' hy (hμ y f' h' hy) ρ' hl' a' w' hw' hf'⟩
  · exact ⟨ρ', .ret, f', h', trivial, hw', hf', hl', hQ⟩
  · exact ⟨ρ', .panic, f', h', hx, hw', hf', hl', hQ⟩
/-- An operation that is not run. -/
theorem gI_skip {P : Program} {ol l : List Oper} {es : List Nat} {k : Nat} {K : Kt} {f : AFrame} {h : AHeap} {o : Oper} (he : es.contains k = false) (hg : wantedA ol o.guard f = some false) (hk : @gI P ol es (k + 1) l K (f.put o.dst (.tuple [])) h) : @gI P ol es k (o :: l) K f h := by
  unfold gI lexG
  rw [if_neg (by simp only [he]; simp), hg]
  exact hk
end Go.Proofs.YtfcjehlhoebmnaaGreatDoor.Ab

namespace Go.Proofs.YtfcjehlhoebmnaaGreatDoor.Ab
open Go Go.RowKit
set_option linter.unusedVariables false

/-! ### What came in, where its bulk is bounded -/
mutual
def V.mass : V → Nat
  | .string s => s.size + 1
  | .imm _ cs => massL cs + 1
  | _ => 1
def massL : List V → Nat
  | [] => 0
  | v :: r => v.mass + massL r
end
theorem mass_pos (v : V) : 1 ≤ v.mass := by cases v <;> simp [V.mass]
theorem massL_append (l m : List V) : massL (l ++ m) = massL l + massL m := by
  induction l with
  | nil => simp [massL]
  | cons v l ih => simp only [List.cons_append, massL, ih]; omega
theorem massL_len (l : List V) : l.length ≤ massL l := by
  induction l with
  | nil => simp
  | cons v l ih => have := mass_pos v; simp only [List.length_cons, massL]; omega
theorem mass_len : ∀ {es : List (List V)}, (∀ e ∈ es, 0 < e.length) → es.length ≤ massL es.flatten
  | [], _ => by simp
  | e :: es, h => by
    have := mass_len (es := es) fun x hx => h x (by simp [hx])
    have h1 := h e (by simp)
    have h2 := massL_len e
    simp only [List.flatten_cons, massL_append, List.length_cons]
    omega
def sumB {α : Type} (b : α → Nat) : List α → Nat
  | [] => 0
  | x :: r => b x + sumB b r
theorem sumB_mem {α : Type} {bu : α → Nat} : ∀ {l : List α} {x : α}, x ∈ l → bu x ≤ sumB bu l
  | [], _, h => by simp at h
  | y :: l, x, h => by
    simp only [sumB]
    rcases List.mem_cons.1 h with rfl | h
    · omega
    · have := sumB_mem (bu := bu) h; omega
theorem mass_flatten {α : Type} {bu : α → Nat} : ∀ {es : List (List V)} {ds : List α}, es.length = ds.length → (∀ (i : Nat) (e : List V), es[i]? = some e → ∃ d, ds[i]? = some d ∧ massL e ≤ bu d) → massL es.flatten ≤ sumB bu ds
  | [], _, _, _ => by simp [massL]
  | e :: es, [], h, _ => by simp at h
  | e :: es, d :: ds, h, hx => by
    have ih := mass_flatten (bu := bu) (es := es) (ds := ds) (by simpa using h) fun i e' he => hx (i + 1) e' (by simpa using he)
    obtain ⟨d', hd, hm⟩ := hx 0 e rfl
    simp at hd
    subst hd
    simp only [List.flatten_cons, massL_append, sumB]
    omega
structure IsBulk {H : Type} (b : DataW H → Nat) : Prop where
  lit : ∀ l, 1 ≤ b (.lit l)
  str : ∀ bs : List UInt8, bs.length + 1 ≤ b (.lit (.string bs))
  nil : 1 ≤ b .nil
  slice : ∀ es sp, sumB b es + 1 ≤ b (.slice es sp)
  agg : ∀ ps, sumB b ps + 1 ≤ b (.agg ps)

section
variable {H : Type} {bu : DataW H → Nat} (hbu : IsBulk bu)
include hbu
variable {enc : TypeId × Value → H} {P : Program} {w : World} {base : Nat} {spare : Nat → Bool} {held : Bool}

omit hbu in
theorem fields_readM {g : TypeId → Option Sh} {cs : List Value} {fu : Nat} (hg : ∀ t s fuel cs x, g t = some s → DataW.trod enc P w base spare held fuel t cs = some x → bu x.1 < 2 ^ 47 → ∃ l, s.fitsB l ∧ LRel (entryRen w) l cs ∧ massL l ≤ bu x.1) :
    ∀ (fs : List Field) (o : Nat) (s : Sh) (xs : List (DataW H × List MemPlace)), shFields P g o fs = some s → xs.length = fs.length →
      (∀ (i : Nat) (f : Field), fs[i]? = some f → DataW.trod enc P w base spare held fu f.type ((cs.drop f.offset).take (P.cellsOf f.type)) = xs[i]?) → sumB bu (xs.map (·.1)) < 2 ^ 47 → ∃ l, s.fitsB l ∧ LRel (entryRen w) l ((cs.drop o).take s.width) ∧ massL l ≤ sumB bu (xs.map (·.1))
  | [], o, s, xs, hs, _, _, _ => by
    simp [shFields] at hs
    subst hs
    exact ⟨[], rfl, by simpa [Sh.width] using LRel.nil _, Nat.zero_le _⟩
  | f :: fs, o, s, xs, hs, hl, hx, hb => by
    unfold shFields at hs
    split at hs
    case isFalse => cases hs
    rename_i ho
    split at hs
    case h_2 => cases hs
    rename_i s1 s2 h1 h2
    split at hs
    case isFalse => cases hs
    rename_i hw
    obtain rfl := Option.some.inj hs
    cases xs with
    | nil => simp at hl
    | cons x xs =>
      have hx0 := hx 0 f rfl
      have hb' : bu x.1 + sumB bu (xs.map (·.1)) < 2 ^ 47 := hb
      obtain ⟨l1, f1, r1, m1⟩ := hg _ _ _ _ _ h1 hx0 (by omega)
      obtain ⟨l2, f2, r2, m2⟩ := fields_readM hg fs _ s2 xs h2 (by simpa using hl) (fun i f' hf => hx (i + 1) f' (by simpa using hf)) (by omega)
      refine ⟨l1 ++ l2, ⟨l1, l2, rfl, f1, f2⟩, ?_, by rw [massL_append]; show _ ≤ bu x.1 + sumB bu (xs.map (·.1)); omega⟩
      have := r1.append r2
      rw [ho, ← hw] at this
      have e : ((cs.drop o).take s1.width) ++ ((cs.drop (o + s1.width)).take s2.width) = (cs.drop o).take (s1.width + s2.width) := by
        rw [List.take_add, List.drop_drop]
      rw [e] at this
      exact this

theorem readsM : ∀ (n : Nat) (t : TypeId) (s : Sh) (fuel : Nat) (cs : List Value) (x : DataW H × List MemPlace), shapeOfB P n t = some s → DataW.trod enc P w base spare held fuel t cs = some x → bu x.1 < 2 ^ 47 → ∃ l, s.fitsB l ∧ LRel (entryRen w) l cs ∧ massL l ≤ bu x.1
  | 0, _, _, _, _, _, hs, _, _ => by simp [shapeOfB] at hs
  | n + 1, t, s, fuel, cs, x, hs, h, hB => by
    unfold shapeOfB at hs
    split at hs
    · rename_i hu
      obtain rfl := Option.some.inj hs
      obtain ⟨b, rfl, rfl⟩ := DataW.trod_bool hu h
      exact ⟨[.bool b], ⟨b, rfl⟩, .cons (.bool b) (.nil _), hbu.lit _⟩
    · rename_i k hu
      obtain rfl := Option.some.inj hs
      obtain ⟨m, rfl, rfl, hw⟩ := DataW.trod_int hu h
      exact ⟨[.int k m], ⟨m, rfl, hw⟩, .cons (.int k m) (.nil _), hbu.lit _⟩
    · rename_i hu
      obtain rfl := Option.some.inj hs
      obtain ⟨b, rfl, rfl, _⟩ := DataW.trod_string hu h
      refine ⟨[.string b], ⟨b, rfl⟩, .cons (.string b) (.nil _), ?_⟩
      have := hbu.str b.data.toList
      rw [Array.length_toList] at this
      exact this
    · rename_i e hu
      split at hs
      case h_2 => cases hs
      rename_i s1 hs1
      split at hs
      case isFalse => cases hs
      rename_i hw
      obtain rfl := Option.some.inj hs
      rcases DataW.trod_slice hu h with ⟨rfl, rfl⟩ | ⟨a, len, cap, elems, rest, m, _, rfl, hxx, _, hlc, _, hel, hget, _⟩
      · exact ⟨[.imm 0 []], ⟨[], rfl, by decide, by simp⟩, .cons (.immZ none 0 (by simp)) (.nil _), hbu.nil⟩
      · rcases Nat.eq_zero_or_pos len with h0 | hpos
        · subst h0
          exact ⟨[.imm 0 []], ⟨[], rfl, by decide, by simp⟩, .cons (.immZ (some a) cap (by simp)) (.nil _), by have := hbu.slice (elems.map (·.1)) (rest.map (·.1)); rw [hxx]; show 1 ≤ bu (.slice (elems.map (·.1)) (rest.map (·.1))); omega⟩
        · have each : ∀ i, i < len → ∃ l : List V, (s1.fitsB l ∧ ∃ y, elems[i]? = some y ∧ massL l ≤ bu y.1) ∧ ∃ ci : List Value, LRel (entryRen w) l ci ∧ ∀ j, j < s1.width → w.cell? ((a.add (i * s1.width)).add j) = ci[j]? ∧ j < ci.length := fun i hi => by
            have h1 := hget i hi
            have h2 : ∃ y, elems[i]? = some y := ⟨_, List.getElem?_eq_getElem (by omega)⟩
            obtain ⟨y, hy⟩ := h2
            rw [hy, Option.bind_eq_some_iff] at h1
            obtain ⟨ci, hc1, hc2⟩ := h1
            have hlt : bu y.1 < 2 ^ 47 := by
              have a1 := hbu.slice (elems.map (·.1)) (rest.map (·.1))
              have a2 := sumB_mem (bu := bu) (List.mem_map.2 ⟨y, List.mem_of_getElem? hy, rfl⟩ : y.1 ∈ elems.map (·.1))
              rw [hxx] at hB
              have hB' : bu (.slice (elems.map (·.1)) (rest.map (·.1))) < 2 ^ 47 := hB
              omega
            obtain ⟨l, f1, r1, m1⟩ := readsM n e s1 m ci y hs1 hc2 hlt
            rw [← hw.1] at hc1
            obtain ⟨g1, g2⟩ := cells_get hc1
            exact ⟨l, ⟨f1, y, hy, m1⟩, ci, r1, fun j hj => ⟨g2 j hj, by omega⟩⟩
          obtain ⟨es, hes1, hes2⟩ := pick_all len each
          have hmem : ∀ e ∈ es, s1.fitsB e := fun e he => by
            obtain ⟨i, hi⟩ := List.getElem?_of_mem he
            exact (hes2 i e hi).1.1
          have hlen : ∀ e ∈ es, e.length = s1.width := fun e he => Sh.fitsB_length (hmem e he)
          obtain ⟨b, off, sp⟩ := a
          have c0 : ∃ v, w.cell? ⟨b, off, sp⟩ = some v := by
            obtain ⟨_, ci, _, hc⟩ := (hes2 0 es[0] (List.getElem?_eq_getElem (by omega)))
            obtain ⟨q1, q2⟩ := hc 0 hw.2.1
            rw [Nat.zero_mul] at q1
            simp only [Addr.add, if_true] at q1
            exact ⟨_, q1.trans (List.getElem?_eq_getElem q2)⟩
          obtain ⟨v0, hv0⟩ := c0
          have hb : ∃ arr et fz, w.heap[b]? = some (.cells arr et fz) ∧ sp = none := by
            unfold World.cell? at hv0
            split at hv0
            · rename_i c et fz hq
              refine ⟨c, et, fz, hq, ?_⟩
              cases sp with
              | none => rfl
              | some _ => simp at hv0
            · cases hv0
          obtain ⟨arr, et, fz, hb, rfl⟩ := hb
          have hcell : ∀ m, w.cell? (Addr.add ⟨b, off, none⟩ m) = arr[off + m]? := fun m => by
            rw [Addr.add_mid]
            simp [World.cell?, hb]
          have hat : ∀ i j, j < s1.width → w.cell? ((Addr.add ⟨b, off, none⟩ (i * s1.width)).add j) = arr[off + (i * s1.width + j)]? := fun i j _ => by
            rw [Addr.add_mid, Addr.add_mid]
            simp [World.cell?, hb, Nat.add_assoc]
          have hsum : massL es.flatten ≤ sumB bu (elems.map (·.1)) := mass_flatten (by rw [List.length_map]; omega) fun i e he => by
            obtain ⟨_, y, hy, hm⟩ := (hes2 i e he).1
            exact ⟨y.1, by rw [List.getElem?_map, hy]; rfl, hm⟩
          have hbs := hbu.slice (elems.map (·.1)) (rest.map (·.1))
          have hB' : bu (.slice (elems.map (·.1)) (rest.map (·.1))) < 2 ^ 47 := by rw [hxx] at hB; exact hB
          have hsz : es.length < 2 ^ 47 := by
            have a1 := mass_len (es := es) fun e he => by rw [hlen e he]; exact hw.2.1
            omega
          refine ⟨[.imm es.length es.flatten], ⟨es, rfl, hsz, hmem⟩, .cons ?_ (.nil _), by rw [hxx]; show massL es.flatten + 1 + 0 ≤ bu (.slice (elems.map (·.1)) (rest.map (·.1))); omega⟩
          rw [hes1]
          refine .imm off len cap (entry_frz hb) hlc ?_ fun k v v' h1 h2 => ?_
          · rw [flatten_len hlen, hes1]
            obtain ⟨_, ci, _, hc⟩ := (hes2 (len - 1) es[len - 1] (List.getElem?_eq_getElem (by omega)))
            obtain ⟨q1, q2⟩ := hc (s1.width - 1) (by omega)
            rw [hat _ _ (by omega), List.getElem?_eq_getElem q2] at q1
            have q3 := (Array.getElem?_eq_some_iff.1 q1).1
            have : (len - 1) * s1.width + s1.width = len * s1.width := by
              rw [← Nat.succ_mul]; congr 1; omega
            omega
          · obtain ⟨e1, g1, g2⟩ := flatten_get hw.2.1 hlen h1
            obtain ⟨_, ci, hr, hc⟩ := hes2 _ e1 g1
            have hj : k % s1.width < s1.width := Nat.mod_lt _ hw.2.1
            obtain ⟨q1, q2⟩ := hc _ hj
            rw [hat _ _ hj, show k / s1.width * s1.width + k % s1.width = k by rw [Nat.mul_comm]; exact Nat.div_add_mod k s1.width, h2] at q1
            exact hr.2 _ _ _ g2 q1.symm
    · rename_i fs hu
      split at hs
      case h_2 => cases hs
      rename_i s1 hs1
      split at hs
      case isFalse => cases hs
      rename_i hw
      obtain rfl := Option.some.inj hs
      obtain ⟨xs, m, _, hxx, hcl, hxl, hx⟩ := DataW.trod_struct hu h
      have hba := hbu.agg (xs.map (·.1))
      have hB' : bu (.agg (xs.map (·.1))) < 2 ^ 47 := by rw [hxx] at hB; exact hB
      obtain ⟨l, f1, r1, m1⟩ := fields_readM (fu := m) (fun t s fuel cs x h1 h2 h3 => readsM n t s fuel cs x h1 h2 h3) fs.toList 0 s1 xs hs1 (by simpa using hxl) (fun i f hf => hx i f (by simpa using hf)) (by omega)
      rw [List.drop_zero, hw, ← hcl, List.take_length] at r1
      exact ⟨l, f1, r1, by rw [hxx]; show _ ≤ bu (.agg (xs.map (·.1))); omega⟩
    · cases hs

/-- A slice that came in: its elements, and that what they hold is no more than its bulk. -/
theorem arg_sliceM {n : Nat} {t e : TypeId} {s : Sh} {a : Option Addr} {len cap : Nat} {d : DataW H} {ps : List MemPlace} (hu : P.underlying t = some (.slice e)) (hs : shapeOfB P n e = some s) (hw : s.width = P.cellsOf e ∧ 0 < s.width ∧ 1 ≤ P.bytesOf e) (hB : bu d < 2 ^ 47)
    (h : DataW.Trod enc P w base spare held t (.slice a len cap) d ps) :
    ∃ es : List (List V), (∀ x ∈ es, s.fitsB x) ∧ VRel (entryRen w) (.imm es.length es.flatten) (.slice a len cap) ∧ massL es.flatten + 1 ≤ bu d := by
  obtain ⟨fuel, hf⟩ := h
  obtain ⟨l, ⟨es, rfl, hn, hes⟩, hr, hm⟩ := readsM hbu (n + 1) t (.sl s) fuel _ _ (by simp only [shapeOfB, hu, hs, if_pos hw]) hf hB
  exact ⟨es, hes, hr.2 0 _ _ rfl rfl, hm⟩
end
end Go.Proofs.YtfcjehlhoebmnaaGreatDoor.Ab

namespace Go.Proofs.YtfcjehlhoebmnaaGreatDoor.Ab
open Go Go.RowKit
set_option linter.unusedVariables false
section
variable {H : Type} {enc : TypeId × Value → H} {P : Program} {w : World} {base : Nat} {spare : Nat → Bool} {held : Bool}
/-- A struct that came in: its cells. -/
theorem arg_aggB {n : Nat} {t : TypeId} {s : Sh} {xs : Array Value} {d : DataW H} {ps : List MemPlace} (hs : shapeOfB P n t = some s) (hB : ∀ n ∈ d.weights P t, n ≤ reachBytes) (h : DataW.Trod enc P w base spare held t (.agg xs) d ps) :
    ∃ l : List V, s.fitsB l ∧ VRel (entryRen w) (.agg l) (.agg xs) := by
  obtain ⟨fuel, hf⟩ := h
  obtain ⟨l, h1, h2⟩ := readsB n t s fuel _ _ hs hf hB
  exact ⟨l, h1, h2.arr'.agg⟩
theorem arg_aggM {bu : DataW H → Nat} (hbu : IsBulk bu) {n : Nat} {t : TypeId} {s : Sh} {xs : Array Value} {d : DataW H} {ps : List MemPlace} (hs : shapeOfB P n t = some s) (hB : bu d < 2 ^ 47) (h : DataW.Trod enc P w base spare held t (.agg xs) d ps) :
    ∃ l : List V, s.fitsB l ∧ VRel (entryRen w) (.agg l) (.agg xs) ∧ massL l ≤ bu d := by
  obtain ⟨fuel, hf⟩ := h
  obtain ⟨l, h1, h2, h3⟩ := readsM hbu n t s fuel _ _ hs hf hB
  exact ⟨l, h1, h2.arr'.agg, h3⟩
end

/-- An accumulator, gone on with by a callee. -/
theorem Acc.step {h0 h h' : AHeap} {e : TypeId} {sz : Nat} {s r : V} {cs cs' : List V} (a : Acc h0 h e sz s cs) (o : Own h' e sz r cs') (k : Keep h h' (isId s)) (d : NewOr h s r) : Acc h0 h' e sz r cs' :=
  ⟨o, a.keep.trans k fun j hj hi => by have := a.new j hi; omega, fun j hj => by
    rcases d with d | d
    · exact a.new j (d ▸ hj)
    · exact Nat.le_trans a.keep.n (d j hj)⟩
theorem Acc.on {h0 h h' : AHeap} {e : TypeId} {sz : Nat} {s : V} {cs : List V} (a : Acc h0 h e sz s cs) (k : Keep h h' none_) : Acc h0 h' e sz s cs :=
  ⟨a.own.keepN k, a.keep.trans' k, a.new⟩
theorem Acc.mk' {h h' : AHeap} {e : TypeId} {sz : Nat} {s : V} {cs : List V} (o : Own h' e sz s cs) (k : Keep h h' none_) (d : ∀ j, idOf s = some j → h.n ≤ j) : Acc h h' e sz s cs := ⟨o, k, d⟩
theorem Acc.conv {h0 h : AHeap} {e : TypeId} {sz : Nat} {s : V} {cs cs' : List V} (a : Acc h0 h e sz s cs) (hc : cs = cs') : Acc h0 h e sz s cs' := hc ▸ a
/-- What an accumulator's callee gives back is a value. -/
theorem Pure.acc {P : Program} {fid : FuncId} {args : List V} {h : AHeap} {e : TypeId} {sz n : Nat} {cs : List V} (hclo : CloL cs) (hn : cs.length = n * sz) (hsz : 0 < sz)
    (hc : SCalls P fid args h fun r h' => Acc h h' e sz r cs) : Pure P fid args h (.imm n cs) :=
  Pure.of (Clo.imm hclo) (hc.mono fun r h' a => a.cast hn hsz)
/-- The frame seen otherwise behind a piece of code. -/
theorem SWp.castPostH {P : Program} {n : Nat} {c : Code} {Q : AExit → AFrame → AHeap → Prop} {f : AFrame} {h : AHeap} (hs : SWp P n c (fun x f h => @hidI ⟨∃ f2 h2, CastF f h f2 h2 ∧ Q x f2 h2⟩) f h) : SWp P n c Q f h :=
  SWp.castPost (hs.mono fun e f h hq => hq)

section
variable {P : Program} {f : AFrame} {h : AHeap}
theorem resultA_tmp {t : Tmp} : resultA P f h (.tmp t) = some (f t) := rfl
theorem resultA_cell {a : Tmp} {t : TypeId} : resultA P f h (.cell a t) = aLoad P t (f a) h := rfl
def res2 (x y : Option V) : Option V := match x, y with | some a, some b => some (.tuple [a, b]) | _, _ => none
def res3 (x y z : Option V) : Option V := match x, y, z with | some a, some b, some c => some (.tuple [a, b, c]) | _, _, _ => none
theorem res2_some {a b : V} : res2 (some a) (some b) = some (.tuple [a, b]) := rfl
theorem res3_some {a b c : V} : res3 (some a) (some b) (some c) = some (.tuple [a, b, c]) := rfl
theorem resultsC_1 {r : ResultVar} : resultsA P [r] f h = resultA P f h r := rfl
theorem resultsC_2 {r s : ResultVar} : resultsA P [r, s] f h = res2 (resultA P f h r) (resultA P f h s) := by
  cases hr : resultA P f h r <;> cases hs : resultA P f h s <;> simp [resultsA, res2, hr, hs]
theorem resultsC_3 {r s t : ResultVar} : resultsA P [r, s, t] f h = res3 (resultA P f h r) (resultA P f h s) (resultA P f h t) := by
  cases hr : resultA P f h r <;> cases hs : resultA P f h s <;> cases ht : resultA P f h t <;> simp [resultsA, res3, hr, hs, ht]
end
end Go.Proofs.YtfcjehlhoebmnaaGreatDoor.Ab

namespace Go.Proofs.YtfcjehlhoebmnaaGreatDoor.Ab
open Go Go.RowKit
set_option linter.unusedVariables false
/-! ### Rows of plain values -/
def i64V (l : List Int) : List V := l.map (V.int .i64)
def boolsV (l : List Bool) : List V := l.map V.bool
theorem i64V_length (l : List Int) : (i64V l).length = l.length := by simp [i64V]
theorem boolsV_length (l : List Bool) : (boolsV l).length = l.length := by simp [boolsV]
theorem i64V_clo (l : List Int) : CloL (i64V l) := CloL.map fun _ _ => Clo.int _ _
theorem boolsV_clo (l : List Bool) : CloL (boolsV l) := CloL.map fun _ _ => Clo.bool _
theorem i64V_one (l : List Int) : (i64V l).all (·.one) = true := by
  rw [List.all_eq_true]; intro x hx
  obtain ⟨n, _, rfl⟩ := List.mem_map.1 hx
  rfl
theorem boolsV_one (l : List Bool) : (boolsV l).all (·.one) = true := by
  rw [List.all_eq_true]; intro x hx
  obtain ⟨n, _, rfl⟩ := List.mem_map.1 hx
  rfl
theorem i64V_append (a b : List Int) : i64V (a ++ b) = i64V a ++ i64V b := by simp [i64V]
theorem i64V_get {l : List Int} {k : Nat} (hk : k < l.length) : (i64V l)[k]'(by rw [i64V_length]; exact hk) = .int .i64 l[k] := by simp [i64V]
theorem i64V_set (l : List Int) (k : Nat) (x : Int) : (i64V l).set k (.int .i64 x) = i64V (l.set k x) := by simp [i64V, List.map_set]
theorem boolsV_get {l : List Bool} {k : Nat} (hk : k < l.length) : (boolsV l)[k]'(by rw [boolsV_length]; exact hk) = .bool l[k] := by simp [boolsV]
theorem boolsV_set (l : List Bool) (k : Nat) (x : Bool) : (boolsV l).set k (.bool x) = boolsV (l.set k x) := by simp [boolsV, List.map_set]
theorem row_ix {P : Program} {α : Type} (f : α → V) {l : List α} {k : Nat} (hk : k < l.length) {t : TypeId} {kk : IntKind} (hs : slSz P t = some 1) :
    aIndexAddr P t (.imm l.length (l.map f)) (.int kk (k : Int)) = some (.at (f l[k] :: (l.drop (k + 1)).map f)) := by
  rw [index_imm hs (by omega) (by omega) (by simp), Int.toNat_natCast, Nat.mul_one, ← List.map_drop, List.drop_eq_getElem_cons hk]
  rfl
theorem i64V_ix' {P : Program} {l : List Int} {k : Nat} (hk : k < l.length) {t : TypeId} {kk : IntKind} (hs : slSz P t = some 1) :
    aIndexAddr P t (.imm l.length (i64V l)) (.int kk (k : Int)) = some (.at (.int .i64 l[k] :: i64V (l.drop (k + 1)))) := row_ix _ hk hs
theorem boolsV_ix {P : Program} {l : List Bool} {k : Nat} (hk : k < l.length) {t : TypeId} {kk : IntKind} (hs : slSz P t = some 1) :
    aIndexAddr P t (.imm l.length (boolsV l)) (.int kk (k : Int)) = some (.at (.bool l[k] :: boolsV (l.drop (k + 1)))) := row_ix _ hk hs
theorem inc64 {i n : Nat} (h : i < n) (hn : n ≤ 2 ^ 62) : IntKind.i64.wrap ((i : Int) + 1) = ((i + 1 : Nat) : Int) := by rw [Go.IntWalk.i64_in _ (by omega)]; rfl
theorem nat_i64 {n : Nat} (h : n < 2 ^ 63) : IntKind.i64.wrap (n : Int) = (n : Int) := Go.IntWalk.i64_in _ (by omega)
theorem nat_u64 {n : Nat} (h : n < 2 ^ 64) : IntKind.u64.wrap (n : Int) = (n : Int) := by rw [IntKind.wrap_u64]; omega

/-! ### What the frame hands in -/
theorem ints_of {k : IntKind} : ∀ {es : List (List V)}, (∀ x ∈ es, Sh.fitsB (.int k) x) → ∃ l : List Int, es = (l.map fun n => [V.int k n]) ∧ ∀ n ∈ l, (Lit.int k n).wf = true
  | [], _ => ⟨[], rfl, by simp⟩
  | e :: es, h => by
    obtain ⟨l, rfl, hl⟩ := ints_of (es := es) fun x hx => h x (by simp [hx])
    obtain ⟨n, rfl, hw⟩ := h e (by simp)
    exact ⟨n :: l, rfl, fun m hm => by
      rcases List.mem_cons.1 hm with rfl | hm
      · exact hw
      · exact hl m hm⟩
theorem bools_of : ∀ {es : List (List V)}, (∀ x ∈ es, Sh.fitsB .bool x) → ∃ l : List Bool, es = l.map fun n => [V.bool n]
  | [], _ => ⟨[], rfl⟩
  | e :: es, h => by
    obtain ⟨l, rfl⟩ := bools_of (es := es) fun x hx => h x (by simp [hx])
    obtain ⟨n, rfl⟩ := h e (by simp)
    exact ⟨n :: l, rfl⟩
theorem flat_one {α : Type} (f : α → V) (l : List α) : (l.map fun n => [f n]).flatten = l.map f := by
  induction l with
  | nil => rfl
  | cons n l ih => simp [ih]
theorem wf_i64 {a : Int} (h : (Lit.int .i64 a).wf = true) : -2 ^ 63 ≤ a ∧ a < 2 ^ 63 := by
  simp only [Lit.wf, Bool.and_eq_true, decide_eq_true_eq] at h
  have h1 : IntKind.i64.min = -2 ^ 63 := rfl
  have h2 : IntKind.i64.max = 2 ^ 63 - 1 := rfl
  omega
theorem wf_u64 {a : Int} (h : (Lit.int .u64 a).wf = true) : ∃ n : Nat, a = n ∧ n < 2 ^ 64 := by
  simp only [Lit.wf, Bool.and_eq_true, decide_eq_true_eq] at h
  have h1 : IntKind.u64.min = 0 := rfl
  have h2 : IntKind.u64.max = 18446744073709551615 := rfl
  exact ⟨a.toNat, by omega, by omega⟩
theorem wf_u8 {a : Int} (h : (Lit.int .u8 a).wf = true) : ∃ n : Nat, a = n ∧ n < 256 := by
  simp only [Lit.wf, Bool.and_eq_true, decide_eq_true_eq] at h
  have h1 : IntKind.u8.min = 0 := rfl
  have h2 : IntKind.u8.max = 255 := rfl
  exact ⟨a.toNat, by omega, by omega⟩
theorem wf_u16 {a : Int} (h : (Lit.int .u16 a).wf = true) : ∃ n : Nat, a = n ∧ n < 65536 := by
  simp only [Lit.wf, Bool.and_eq_true, decide_eq_true_eq] at h
  have h1 : IntKind.u16.min = 0 := rfl
  have h2 : IntKind.u16.max = 65535 := rfl
  exact ⟨a.toNat, by omega, by omega⟩
theorem wf_u32 {a : Int} (h : (Lit.int .u32 a).wf = true) : ∃ n : Nat, a = n ∧ n < 4294967296 := by
  simp only [Lit.wf, Bool.and_eq_true, decide_eq_true_eq] at h
  have h1 : IntKind.u32.min = 0 := rfl
  have h2 : IntKind.u32.max = 4294967295 := rfl
  exact ⟨a.toNat, by omega, by omega⟩
theorem wf_i16 {a : Int} (h : (Lit.int .i16 a).wf = true) : -32768 ≤ a ∧ a < 32768 := by
  simp only [Lit.wf, Bool.and_eq_true, decide_eq_true_eq] at h
  have h1 : IntKind.i16.min = -32768 := rfl
  have h2 : IntKind.i16.max = 32767 := rfl
  omega
theorem wf_i32 {a : Int} (h : (Lit.int .i32 a).wf = true) : -2147483648 ≤ a ∧ a ≤ 2147483647 := by
  simp only [Lit.wf, Bool.and_eq_true, decide_eq_true_eq] at h
  exact h
theorem mass_row {α : Type} (f : α → V) (hf : ∀ x, (f x).mass = 1) (l : List α) : massL (l.map f) = l.length := by
  induction l with
  | nil => rfl
  | cons n l ih => simp only [List.map_cons, massL, hf, List.length_cons, ih]; omega

/-! ### nil as a row of nothing -/
theorem Cast.nil0 (h : AHeap) : Cast .snil h (.imm 0 []) h := fun ρ B w0 w r' hw hv => by
  cases hv
  exact ⟨ρ, Ren.le.refl ρ, hw, .immZ none 0 (by simp)⟩
theorem Pure.args {P : Program} {fid : FuncId} {args args2 : List V} {h : AHeap} {v : V} (hc : CastL args h args2 h) (hp : Pure P fid args2 h v) : Pure P fid args h v := SCalls.args hc hp
theorem CastL.skip {v : V} {l l2 : List V} {h : AHeap} (b : CastL l h l2 h) : CastL (v :: l) h (v :: l2) h := CastL.cons (Cast.refl v h) b
theorem CastL.last {v v2 : V} {h : AHeap} (a : Cast v h v2 h) : CastL [v] h [v2] h := CastL.cons a (CastL.refl [] h)
theorem Own.fresh' {h : AHeap} {e : TypeId} {sz : Nat} (c : List V) (n : Nat) (hc : c.length = n * sz) (hu : n < unk) : Own (h.push (.cells c e none)) e sz (.sl h.n 0 n n) c := by
  have ho := Own.fresh (h := h) (e := e) c n n hc (Nat.le_refl _) hu
  rwa [← hc, List.take_length] at ho
theorem row_at {P : Program} {α : Type} (f : α → V) {l : List α} {n : Nat} (hn : l.length = n) {k : Nat} {x : α} (hx : l[k]? = some x) {t : TypeId} {kk : IntKind} (hs : slSz P t = some 1) :
    ∃ r, aIndexAddr P t (.imm n (l.map f)) (.int kk (k : Int)) = some (.at (f x :: r)) := by
  subst hn
  obtain ⟨hk, rfl⟩ := List.getElem?_eq_some_iff.1 hx
  exact ⟨_, row_ix f hk hs⟩
theorem i64V_at {P : Program} {l : List Int} {n : Nat} (hn : l.length = n) {k : Nat} {x : Int} (hx : l[k]? = some x) {t : TypeId} {kk : IntKind} (hs : slSz P t = some 1) :
    ∃ r, aIndexAddr P t (.imm n (i64V l)) (.int kk (k : Int)) = some (.at (.int .i64 x :: r)) := row_at _ hn hx hs
end Go.Proofs.YtfcjehlhoebmnaaGreatDoor.Ab

namespace Go.Proofs.YtfcjehlhoebmnaaGreatDoor.Ab
open Go Go.RowKit
set_option linter.unusedVariables false

/-! ### A statement whose order is open, with effects that other operations may come ahead of or behind -/
/-- What an idle operation reads of the call's own memory. -/
def ridV : V → Option Nat
  | .ptr i _ => some i
  | .sl i _ _ _ => some i
  | .map i => some i
  | _ => none
def ridOp (ev : Operand → V) : Op → Option Nat
  | .load _ a => ridV (ev a)
  | .lookup _ m _ _ => ridV (ev m)
  | .convert _ _ x => ridV (ev x)
  | .call ⟨.builtin .len, args, _⟩ => (args.toList.map ev).head?.bind ridV
  | _ => none
def idleS : Op → Bool
  | .entry _ => false
  | .call ⟨.builtin .len, args, ts⟩ => args.size == 1 && ts.size == 1
  | o => idleOp o
def Wf (h : AHeap) : Prop := ∀ j, h.n ≤ j → h.get j = .dead
theorem WRel.wf {ρ : Ren} {B : Nat} {w0 w : World} {h : AHeap} (R : WRel ρ B w0 h w) : Wf h := fun j hj => by
  have hd := R.heap.dom j hj
  have ho := R.heap.obj j
  cases hg : h.get j with
  | dead => rfl
  | cells c e ex => rw [hg] at ho; obtain ⟨b, cp, arr, hr, _⟩ := ho; rw [hd] at hr; cases hr
  | map es c => rw [hg] at ho; obtain ⟨b, cp, arr, hr, _⟩ := ho; rw [hd] at hr; cases hr
  | iter m s l st => rw [hg] at ho; obtain ⟨b, cp, bm, cm, hr, _⟩ := ho; rw [hd] at hr; cases hr
  | pin k vs => rw [hg] at ho; obtain ⟨b, cp, arr, hr, _⟩ := ho; rw [hd] at hr; cases hr

section
variable {P : Program} {h h' : AHeap} {M : Nat → Prop}
theorem Keep.live (hw : Wf h) (hk : Keep h h' M) {i : Nat} (hm : ¬ M i) (hd : h.get i ≠ .dead) : h'.get i = h.get i := by
  rcases Nat.lt_or_ge i h.n with hlt | hge
  · exact hk.get i hlt hm
  · exact absurd (hw i hge) hd
theorem eval_keep (hk : Keep h h' M) (f : AFrame) (x : Operand) : f.eval h' x = f.eval h x := by
  cases x <;> simp [AFrame.eval, hk.glob]
theorem aPlace_keep (hw : Wf h) (hk : Keep h h' M) {x : V} (hm : ∀ i, ridV x = some i → ¬ M i) {cs : List V} (hp : aPlace h x = some cs) : aPlace h' x = some cs := by
  cases x <;> simp [aPlace] at hp ⊢
  case ptr i o =>
    have hd : h.get i ≠ .dead := fun hh => by rw [hh] at hp; simp at hp
    rw [hk.live hw (hm i rfl) hd]; exact hp
  case «at» cs' => exact hp
theorem aLoad_keep (hw : Wf h) (hk : Keep h h' M) {t : TypeId} {x : V} (hm : ∀ i, ridV x = some i → ¬ M i) {v : V} (hl : aLoad P t x h = some v) : aLoad P t x h' = some v := by
  rw [aLoad_eq] at hl ⊢
  cases hp : aPlace h x with
  | none => rw [hp] at hl; unfold loadGo at hl; split at hl <;> simp_all
  | some cs => rw [hp] at hl; rw [aPlace_keep hw hk hm hp]; exact hl
theorem aLookup_congr {t : TypeId} {m k : V} {ok : Bool} (e : ∀ i, ridV m = some i → h'.get i = h.get i) : aLookup P t m k ok h' = aLookup P t m k ok h := by
  unfold aLookup
  cases mapT P t with
  | none => rfl
  | some q =>
    obtain ⟨kt, et, d⟩ := q
    simp only
    split
    · rfl
    · rw [e _ rfl]
    · rfl
theorem aConv_congr {s d : TypeId} {x : V} (e : ∀ i, ridV x = some i → h'.get i = h.get i) : aConv P s d x h' = aConv P s d x h := by
  unfold aConv
  cases (flatV x).bind fun a => pureRun P (convert s d a) with
  | some v => rfl
  | none =>
    simp only
    split
    · rfl
    · rw [e _ rfl]
    · rfl
    · rfl
theorem aLen_congr {t : TypeId} {x : V} (e : ∀ i, ridV x = some i → h'.get i = h.get i) : aLen P t x h' = aLen P t x h := by
  unfold aLen
  split
  all_goals first | rfl | rw [e _ rfl]
theorem aLookup_dead {t : TypeId} {m k : V} {ok : Bool} (hd : ∀ i, ridV m = some i → h.get i = .dead) {v : V} (hl : aLookup P t m k ok h = some v) : aLookup P t m k ok h' = some v := by
  unfold aLookup at hl ⊢
  cases hq : mapT P t with
  | none => rw [hq] at hl; cases hl
  | some q =>
    rw [hq] at hl
    obtain ⟨kt, et, d⟩ := q
    simp only at hl ⊢
    split at hl
    · exact hl
    · rw [hd _ rfl] at hl; cases hl
    · cases hl
theorem aConv_dead {s d : TypeId} {x : V} (hd : ∀ i, ridV x = some i → h.get i = .dead) {v : V} (hl : aConv P s d x h = some v) : aConv P s d x h' = some v := by
  unfold aConv at hl ⊢
  cases hq : (flatV x).bind fun a => pureRun P (convert s d a) with
  | some u => rw [hq] at hl; exact hl
  | none =>
    rw [hq] at hl
    simp only at hl ⊢
    split at hl
    · exact hl
    · split at hl
      · rw [hd _ rfl] at hl; cases hl
      · cases hl
    · exact hl
    · cases hl
theorem aLen_dead {t : TypeId} {x : V} (hd : ∀ i, ridV x = some i → h.get i = .dead) {v : V} (hl : aLen P t x h = some v) : aLen P t x h' = some v := by
  unfold aLen at hl ⊢
  split at hl
  all_goals first | exact hl | (rw [hd _ rfl] at hl; cases hl) | skip
  all_goals (cases hl; done)
theorem keepOr (hw : Wf h) (hk : Keep h h' M) {x : V} (hm : ∀ i, ridV x = some i → ¬ M i) : (∀ i, ridV x = some i → h'.get i = h.get i) ∨ (∀ i, ridV x = some i → h.get i = .dead) := by
  cases hx : ridV x with
  | none => left; intro i hi; cases hi
  | some j =>
    by_cases hd : h.get j = .dead
    · right; intro i hi; simp at hi; subst hi; exact hd
    · left; intro i hi; simp at hi; subst hi; exact hk.live hw (hm j hx) hd
theorem idle_call {c : Call} (h : idleS (.call c) = true) : c.callee = .builtin .len ∨ c.callee = .builtin .min ∨ c.callee = .builtin .max := by
  obtain ⟨callee, args, ts⟩ := c
  cases callee with
  | builtin b => cases b <;> simp [idleS, idleOp] at h ⊢
  | _ => simp [idleS, idleOp] at h
theorem idle_keep (hw : Wf h) (hk : Keep h h' M) {o : Oper} {ev : Operand → V} (hi : idleS o.op = true) (hm : ∀ i, ridOp ev o.op = some i → ¬ M i) {v : V} (he : opEval P o ev h = some (.val v h)) : opEval P o ev h' = some (.val v h') := by
  have jst : ∀ {x y : Option V}, justV x h = some (.val v h) → (∀ u, x = some u → y = some u) → justV y h' = some (.val v h') := fun {x y} hx hy => by
    obtain ⟨e1, _⟩ := justV_val hx
    rw [hy _ e1]; rfl
  obtain ⟨dst, op, type, pos, after, guard⟩ := o
  have hi0 := hi
  cases op <;> simp [idleS, idleOp] at hi <;> simp only [opEval] at he ⊢
  case move x => simp at he; rw [he]
  case assign x => simp at he; rw [he]
  case pick c a b => split at he <;> simp at he ⊢; exact he
  case nilCheck x => split at he <;> simp at he ⊢ <;> exact he
  case makeInterface t x => split at he <;> simp at he ⊢; exact he
  case makeFunc fn xs ys => cases fn <;> simp at he ⊢; exact he
  case extract t k =>
    split at he
    · exact jst he fun _ h => h
    · cases he
  case load t a => exact jst he fun u hu => aLoad_keep hw hk hm hu
  case lookup t m k ok =>
    refine jst he fun u hu => ?_
    rcases keepOr hw hk hm with e | e
    · rw [aLookup_congr e]; exact hu
    · exact aLookup_dead e hu
  case convert s d x =>
    cases hc : aConv P s d (ev x) h with
    | none =>
      rw [hc] at he
      cases hq : aConvM P s d (ev x) h with
      | none => rw [hq] at he; cases he
      | some p =>
        obtain ⟨u, h2⟩ := p
        rw [hq] at he
        have h3 : h2 = h := by
          have : some (Step.val u h2) = some (Step.val v h) := he
          simp only [Option.some.injEq, Step.val.injEq] at this
          exact this.2
        exact absurd h3 (aConvM_ne hq)
    | some u =>
      rw [hc] at he
      have hu : aConv P s d (ev x) h' = some u := by
        rcases keepOr hw hk hm with e | e
        · rw [aConv_congr e]; exact hc
        · exact aConv_dead e hc
      rw [hu]
      have : some (Step.val u h) = some (Step.val v h) := he
      simp only [Option.some.injEq, Step.val.injEq] at this
      rw [this.1]
  case call c =>
    have hb := idle_call hi0
    have other : ∀ b, (b = .min ∨ b = .max) → c.callee = .builtin b → aCall P c type ev h' = some (.val v h') := fun b hbb hc => by
      have ha : ∀ hh : AHeap, aBuiltin P b c.argTypes.toList type (constsOf c.args) (c.args.toList.map ev) hh = (match flatL (c.args.toList.map ev) with
          | some as => match pureRun P (builtin b c.argTypes.toList.toArray type (constsOf c.args) as.toArray) with
            | some (.value v) => some (absF v, hh)
            | _ => none
          | none => none) := fun hh => by
        rcases hbb with rfl | rfl <;> rfl
      have hcall : ∀ hh : AHeap, aCall P c type ev hh = (match aBuiltin P b c.argTypes.toList type (constsOf c.args) (c.args.toList.map ev) hh with | some (v, h') => some (.val v h') | none => none) := fun hh => by
        unfold aCall
        rw [hc]
        rcases hbb with rfl | rfl <;> rfl
      rw [hcall, ha] at he ⊢
      cases hf : flatL (c.args.toList.map ev) with
      | none => rw [hf] at he; cases he
      | some as =>
        rw [hf] at he
        simp only at he ⊢
        split at he
        · rename_i v' h2 hq
          split at hq
          · simp at hq he
            obtain ⟨rfl, rfl⟩ := hq
            rw [he.1]
          · cases hq
        · cases he
    rcases hb with hb | hb | hb
    · obtain ⟨callee, args, ats⟩ := c
      simp only at hb
      subst hb
      have hs : (args.size == 1 && ats.size == 1) = true := hi0
      simp at hs
      obtain ⟨x, rfl⟩ := Array.size_eq_one_iff.1 hs.1
      obtain ⟨t, rfl⟩ := Array.size_eq_one_iff.1 hs.2
      have hcall : ∀ hh : AHeap, aCall P ⟨.builtin .len, #[x], #[t]⟩ type ev hh = (match aLen P t (ev x) hh with | some v => some (.val v hh) | none => none) := fun hh => by
        show (match (match aLen P t (ev x) hh with | some v => some (v, hh) | none => none) with | some (v, h') => some (Step.val v h') | none => none) = _
        cases aLen P t (ev x) hh <;> rfl
      rw [hcall] at he ⊢
      have hm' : ∀ i, ridV (ev x) = some i → ¬ M i := fun i hx => hm i (by simp [ridOp, hx])
      cases hu : aLen P t (ev x) h with
      | none => rw [hu] at he; cases he
      | some u =>
        rw [hu] at he
        simp at he
        subst he
        have hn : aLen P t (ev x) h' = some u := by
          rcases keepOr hw hk hm' with e | e
          · rw [aLen_congr e]; exact hu
          · exact aLen_dead e hu
        rw [hn]
    · exact other _ (.inl rfl) hb
    · exact other _ (.inr rfl) hb
  all_goals exact jst he fun _ h => h
end
end Go.Proofs.YtfcjehlhoebmnaaGreatDoor.Ab

namespace Go.Proofs.YtfcjehlhoebmnaaGreatDoor.Ab
open Go Go.RowKit
set_option linter.unusedVariables false

def stab (P : Program) (ops : Array Oper) (M : Nat → Prop) (hs : AHeap) (o : Oper) (f : AFrame) (v : V) : Prop := ∀ h', Keep hs h' M → YieldA P ops.toList h' o v f
def orderedB (ops : Array Oper) (es : List Nat) (listed : Array Bool) (i : Nat) : Bool := es.all fun e => listed.getD e true || depB ops ops.size e i
def aloneB (ops : Array Oper) (k : Nat) : Bool := (List.range ops.size).all fun i => i == k || depB ops ops.size k i || depB ops ops.size i k

/-- Whatever order is taken; some effects may come ahead of, or behind, idle operations. -/
def anyS (P : Program) (ops : Array Oper) (es : List Nat) (M : Nat → Prop) (hs : AHeap) (K : AFrame → AHeap → Prop) (X : AHeap → Prop) : Nat → Array Bool → AFrame → AHeap → Prop
  | 0, listed, f, h => Region.ready .any ops listed = [] ∧ K f h
  | n + 1, listed, f, h => (Region.ready .any ops listed = [] → K f h) ∧
    ∀ i ∈ Region.ready .any ops listed, ∀ o, ops[i]? = some o →
      if es.contains i then (match wantedA ops.toList o.guard f with
        | some true => stepA P o (fun f' h' => (aloneB ops i = true ∨ Keep hs h' M) ∧ anyS P ops es M hs K X n (listed.setIfInBounds i true) f' h') (fun _ h => X h) f h
        | some false => anyS P ops es M hs K X n (listed.setIfInBounds i true) (f.put o.dst (.tuple [])) h
        | none => False)
      else ∃ v, ((Keep hs h M ∧ stab P ops M hs o f v) ∨ (orderedB ops es listed i = true ∧ YieldA P ops.toList h o v f)) ∧ anyS P ops es M hs K X n (listed.setIfInBounds i true) (f.put o.dst v) h

theorem stepA_weak {P : Program} {o : Oper} {K K' E E' : AFrame → AHeap → Prop} (hk : ∀ f h, K f h → K' f h) {f : AFrame} {h : AHeap} (he : ∀ f h, E f h → E' f h) (hs : stepA P o K E f h) : stepA P o K' E' f h := by
  unfold stepA at *
  split at hs
  · exact hk _ _ hs
  · exact hs.mono (fun _ _ h => hk _ _ h) fun _ h => he _ _ h
  · exact fun v h' hm => hk _ _ (hs v h' hm)
  · exact he _ _ hs
  · exact hs.mono (fun _ _ h => hk _ _ h)
  · exact hs.elim

section
variable {P : Program} {ops : Array Oper} {es : List Nat} {M : Nat → Prop} {hs : AHeap} {K E : AFrame → AHeap → Prop} {X : AHeap → Prop}
theorem anyS_G (hX : ∀ f h, X h → E f h) : ∀ (n : Nat) (listed : Array Bool) (f : AFrame) (h : AHeap), anyS P ops es M hs K X n listed f h → anyG P ops es K E n listed f h
  | 0, _, _, _, hq => hq
  | n + 1, listed, f, h, hq => by
    refine ⟨hq.1, fun i hi o ho => ?_⟩
    have h1 := hq.2 i hi o ho
    by_cases he : es.contains i = true
    · rw [if_pos he] at h1 ⊢
      cases hw : wantedA ops.toList o.guard f with
      | none => rw [hw] at h1; exact h1
      | some b =>
        rw [hw] at h1
        cases b with
        | true => exact stepA_weak (fun f' h' hh => anyS_G hX n _ f' h' hh.2) (fun f h hh => hX f h hh) h1
        | false => exact anyS_G hX n _ _ _ h1
    · rw [if_neg he] at h1 ⊢
      obtain ⟨v, hv, hr⟩ := h1
      refine ⟨v, ?_, anyS_G hX n _ _ _ hr⟩
      rcases hv with ⟨hk, hst⟩ | ⟨_, hy⟩
      · exact hst h hk
      · exact hy

theorem stepA_put {o : Oper} {dst : Option Tmp} {v : V} {f : AFrame} {h : AHeap} {K K' : AFrame → AHeap → Prop} (hl : ∀ d, dst = some d → d ∉ o.looksAt ops) (hc : ∀ d, dst = some d → o.dst ≠ some d)
    (hk : ∀ r h', K ((f.put o.dst r).put dst v) h' → K' (f.put o.dst r) h') (hs : stepA P o K (fun _ h => X h) (f.put dst v) h) : stepA P o K' (fun _ h => X h) f h := by
  unfold stepA at *
  rw [opEval_put o f dst v hl] at hs
  split at hs
  · exact hk _ _ (by rw [AFrame.put_comm f _ _ fun d hd hx => hc d hx hd]; exact hs)
  · exact hs.mono (fun r h' hh => hk r h' (by rw [AFrame.put_comm f _ _ fun d hd hx => hc d hx hd]; exact hh)) fun _ h => h
  · exact fun r h' hm => hk r h' (by rw [AFrame.put_comm f _ _ fun d hd hx => hc d hx hd]; exact hs r h' hm)
  · exact hs
  · exact hs.mono (fun r h' hh => hk r h' (by rw [AFrame.put_comm f _ _ fun d hd hx => hc d hx hd]; exact hh))
  · exact hs

theorem dep_ready {listed : Array Bool} (hd : Down ops listed) {i j : Nat} (hj : j ∈ Region.ready .any ops listed) (h : depB ops ops.size j i = true) : listed.getD i false = true := by
  obtain ⟨_, o, ho, hall⟩ := mem_ready.1 hj
  exact dep_listed hd ops.size j i (fun o' ho' => by rw [ho] at ho'; obtain rfl : o = o' := by simpa using ho'
                                                     exact hall) h
theorem ready_not {listed : Array Bool} {i : Nat} (hi : i ∈ Region.ready .any ops listed) : listed.getD i false = false := by
  have h0 := (mem_ready.1 hi).1
  rcases Nat.lt_or_ge i listed.size with h' | h'
  · simp [h'] at h0 ⊢; exact h0
  · simp [Array.getElem?_eq_none h']

theorem anyS_first {i : Nat} {oi : Oper} {v : V} (hi : ops[i]? = some oi) (hie : es.contains i = false) :
    ∀ (fuel : Nat) (listed : Array Bool) (f : AFrame) (h : AHeap),
      (∀ j oj, ops[j]? = some oj → j ≠ i → listed.getD j true = false → (∀ e ∈ oj.after, Region.binds .any e = true → e.on ≠ i) → oi.apart ops oj = true) →
      i ∈ Region.ready .any ops listed → Down ops listed → ((Keep hs h M ∧ stab P ops M hs oi f v) ∨ (orderedB ops es listed i = true ∧ YieldA P ops.toList h oi v f)) →
      anyS P ops es M hs K X fuel (listed.setIfInBounds i true) (f.put oi.dst v) h → anyS P ops es M hs K X (fuel + 1) listed f h := by
  intro fuel
  induction fuel with
  | zero =>
    intro listed f h _ hr hdn hy H
    refine ⟨fun h => (by rw [h] at hr; cases hr), fun j hj o ho => ?_⟩
    by_cases hji : j = i
    · subst hji
      rw [hi] at ho
      obtain rfl : oi = o := by simpa using ho
      rw [hie]
      exact ⟨v, hy, H⟩
    · have := ready_mono hj hji
      rw [H.1] at this
      cases this
  | succ fuel ih =>
    intro listed f h hfree hr hdn hy H
    refine ⟨fun h => (by rw [h] at hr; cases hr), fun j hj oj hoj => ?_⟩
    by_cases hji : j = i
    · subst hji
      rw [hi] at hoj
      obtain rfl : oi = oj := by simpa using hoj
      rw [hie]
      exact ⟨v, hy, H⟩
    · have Hj := H.2 j (ready_mono hj hji) oj hoj
      obtain ⟨hjun, oj', hoj', hall⟩ := mem_ready.1 hj
      rw [hoj] at hoj'
      obtain rfl : oj = oj' := by simpa using hoj'
      have hnot : ∀ e ∈ oj.after, Region.binds .any e = true → e.on ≠ i := fun e he hb heq => by
        have h1 := hall e he hb
        have h0 := ready_not hr
        rw [heq, h0] at h1
        cases h1
      obtain ⟨a1, a2, a3⟩ := Oper.apart_spec (hfree j oj hoj hji hjun hnot)
      have hfree' : ∀ k ok, ops[k]? = some ok → k ≠ i → (listed.setIfInBounds j true).getD k true = false →
          (∀ e ∈ ok.after, Region.binds .any e = true → e.on ≠ i) → oi.apart ops ok = true := fun k ok hk hki hun hno => by
        refine hfree k ok hk hki ?_ hno
        by_cases hjk : j = k
        · subst hjk; exact hjun
        · rw [getD_set_ne true hjk] at hun; exact hun
      have hri := ready_mono hr (Ne.symm hji)
      have hdn' := hdn.add hj
      have hput : ∀ (h' : AHeap) (r : V), Keep hs h' M → stab P ops M hs oi f v → anyS P ops es M hs K X fuel ((listed.setIfInBounds i true).setIfInBounds j true) ((f.put oj.dst r).put oi.dst v) h' → anyS P ops es M hs K X (fuel + 1) (listed.setIfInBounds j true) (f.put oj.dst r) h' := fun h' r hk hst hh =>
        ih (listed.setIfInBounds j true) (f.put oj.dst r) h' hfree' hri hdn' (.inl ⟨hk, fun h2 k2 => (hst h2 k2).put oj.dst r a3⟩) (by rw [Array.setIfInBounds_comm _ _ hji]; exact hh)
      by_cases hje : es.contains j = true
      · rw [if_pos hje] at Hj ⊢
        have hst : Keep hs h M ∧ stab P ops M hs oi f v := by
          rcases hy with hy | ⟨ho, _⟩
          · exact hy
          · exfalso
            have h1 := (List.all_eq_true.1 ho) j (by simpa using hje)
            rw [hjun, Bool.false_or] at h1
            have := dep_ready hdn hj h1
            rw [ready_not hr] at this
            cases this
        rw [wantedA_put oj f oi.dst v a1] at Hj
        cases hw : wantedA ops.toList oj.guard f with
        | none => rw [hw] at Hj; exact Hj
        | some b =>
          rw [hw] at Hj
          cases b with
          | true =>
            refine stepA_put a1 a2 (fun r h' hh => ?_) Hj
            have hk : Keep hs h' M := by
              rcases hh.1 with hal | hk
              · exfalso
                have h1 := (List.all_eq_true.1 hal) i (by
                  have := (Array.getElem?_eq_some_iff.1 hi).1
                  simpa using this)
                simp only [Bool.or_eq_true, beq_iff_eq] at h1
                rcases h1 with (h1 | h1) | h1
                · exact hji h1.symm
                · have := dep_ready hdn hj h1
                  rw [ready_not hr] at this
                  cases this
                · have := dep_ready hdn hr h1
                  rw [ready_not hj] at this
                  cases this
              · exact hk
            exact ⟨.inr hk, hput h' r hk hst.2 hh.2⟩
          | false =>
            refine hput h (.tuple []) hst.1 hst.2 ?_
            rw [← AFrame.put_comm f v (.tuple []) a2]
            exact Hj
      · rw [if_neg hje] at Hj ⊢
        obtain ⟨u, hyj, hrest⟩ := Hj
        refine ⟨u, ?_, ?_⟩
        · rcases hyj with ⟨hk, hst⟩ | ⟨ho, hyy⟩
          · exact .inl ⟨hk, fun h2 k2 => (hst h2 k2).unput oi.dst v a1⟩
          · refine .inr ⟨?_, hyy.unput oi.dst v a1⟩
            refine List.all_eq_true.2 fun e he => ?_
            have h1 := (List.all_eq_true.1 ho) e he
            have hei : i ≠ e := fun hh => by
              subst hh
              have : es.contains i = true := by simpa using he
              rw [hie] at this; cases this
            rwa [getD_set_ne true hei] at h1
        · have hy' : ((Keep hs h M ∧ stab P ops M hs oi (f.put oj.dst u) v) ∨ (orderedB ops es (listed.setIfInBounds j true) i = true ∧ YieldA P ops.toList h oi v (f.put oj.dst u))) := by
            rcases hy with ⟨hk, hst⟩ | ⟨ho, hyy⟩
            · exact .inl ⟨hk, fun h2 k2 => (hst h2 k2).put oj.dst u a3⟩
            · refine .inr ⟨List.all_eq_true.2 fun e he => ?_, hyy.put oj.dst u a3⟩
              have h1 := (List.all_eq_true.1 ho) e he
              simp only [Bool.or_eq_true] at h1 ⊢
              rcases h1 with h1 | h1
              · exact .inl (listed_grow h1)
              · exact .inr h1
          refine ih (listed.setIfInBounds j true) (f.put oj.dst u) h hfree' hri hdn' hy' ?_
          rw [Array.setIfInBounds_comm _ _ hji, ← AFrame.put_comm f v u a2]
          exact hrest
end
end Go.Proofs.YtfcjehlhoebmnaaGreatDoor.Ab

namespace Go.Proofs.YtfcjehlhoebmnaaGreatDoor.Ab
open Go Go.RowKit
set_option linter.unusedVariables false

/-- Operations that look at no memory. -/
def freeS : Op → Bool
  | .move _ | .assign _ | .pick .. | .build .. | .nilCheck _ | .binOp .. | .unOp .. | .makeInterface .. | .makeFunc .. | .slice .. | .fieldAddr .. | .field .. | .indexAddr .. | .index .. | .typeAssert .. | .extract .. => true
  | _ => false
section
variable {P : Program} {h h' : AHeap}
theorem free_idle {o : Op} (h : freeS o = true) : idleS o = true := by cases o <;> simp [freeS] at h <;> rfl
theorem free_keep {o : Oper} {ev : Operand → V} (hi : freeS o.op = true) {v : V} (he : opEval P o ev h = some (.val v h)) : opEval P o ev h' = some (.val v h') := by
  have jst : ∀ {x : Option V}, justV x h = some (.val v h) → justV x h' = some (.val v h') := fun {x} hx => by
    obtain ⟨e1, _⟩ := justV_val hx
    rw [e1]; rfl
  obtain ⟨dst, op, type, pos, after, guard⟩ := o
  cases op <;> simp [freeS] at hi <;> simp only [opEval] at he ⊢
  case move x => simp at he; rw [he]
  case assign x => simp at he; rw [he]
  case pick c a b => split at he <;> simp at he ⊢; exact he
  case nilCheck x => split at he <;> simp at he ⊢ <;> exact he
  case makeInterface t x => split at he <;> simp at he ⊢; exact he
  case makeFunc fn xs ys => cases fn <;> simp at he ⊢; exact he
  case extract t k =>
    split at he
    · exact jst he
    · cases he
  all_goals exact jst he
theorem call_keep {o : Oper} {ev : Operand → V} {g : FuncId} {args : List V} (he : opEval P o ev h = some (.call g args)) : opEval P o ev h' = some (.call g args) := by
  obtain ⟨dst, op, type, pos, after, guard⟩ := o
  have jv : ∀ {x : Option V}, justV x h ≠ some (.call g args) := fun {x} hx => by obtain ⟨v, hv⟩ := justV_cases hx; cases hv
  have ja : ∀ {x : Option (V × AHeap)}, andH x ≠ some (.call g args) := fun {x} hx => by unfold andH at hx; split at hx <;> simp at hx
  have jh : ∀ {x : Option AHeap}, justH x ≠ some (.call g args) := fun {x} hx => by unfold justH at hx; split at hx <;> simp at hx
  cases op <;> simp only [opEval] at he ⊢
  case call c =>
    obtain ⟨callee, cargs, ts⟩ := c
    unfold aCall at he ⊢
    cases callee with
    | value f =>
      simp only at he ⊢
      split at he
      case h_2 => simp at he
      case h_3 => cases he
      split at he
      · rename_i hc; rw [if_pos hc]; exact he
      · exfalso
        split at he <;> simp at he
    | builtin b =>
      exfalso
      cases b
      case panic => simp only at he; split at he <;> simp at he
      all_goals
        simp only at he
        split at he <;> simp at he
    | invoke r m => exact he
  case next it s =>
    cases s
    · simp only at he; split at he <;> simp at he
    · cases he
  case makeFunc fn xs ys => cases fn <;> simp at he
  all_goals first
    | exact absurd he jv
    | exact absurd he ja
    | exact absurd he jh
    | (simp at he; done)
    | (split at he <;> first | (simp at he; done) | exact absurd he jv | exact absurd he ja)
    | (cases he; done)
end

/-- A plan: which operation comes next; after which the order forks. -/
inductive Sch where
  | done
  | stop
  | q (k : Nat) (s : Sch)
  | c (k : Nat) (s : Sch)
  | a (k : Nat) (s : Sch)
  | e (k : Nat) (s alt : Sch)
def Sch.keys : Sch → List Nat
  | .e k _ alt => k :: alt.keys
  | _ => []
/-- p: no effect yet; kf: what was there at the beginning is there. top: not an alternative. -/
def Sch.ok (ops : Array Oper) (es : List Nat) : Sch → Nat → Bool → Bool → Bool → Array Bool → Bool
  | .done, n, top, p, kf, listed => top && n == 0 && (Region.ready .any ops listed).isEmpty
  | .stop, _, top, _, _, _ => !top
  | .q k s, n, top, p, kf, listed => match n, ops[k]? with
    | n + 1, some o => top && !es.contains k && (Region.ready .any ops listed).contains k && Region.free .any ops listed k && idleS o.op && ((p && kf) || (kf && freeS o.op) || orderedB ops es listed k) && s.ok ops es n true p kf (listed.setIfInBounds k true)
    | _, _ => false
  | .c k s, n, top, p, kf, listed => match n, ops[k]? with
    | n + 1, some o => top && !es.contains k && (Region.ready .any ops listed).contains k && Region.free .any ops listed k && ((p && kf) || orderedB ops es listed k) && s.ok ops es n true p kf (listed.setIfInBounds k true)
    | _, _ => false
  | .a k s, n, top, p, kf, listed => match n with
    | n + 1 => top && es.contains k && Region.ready .any ops listed == [k] && aloneB ops k && s.ok ops es n true false false (listed.setIfInBounds k true)
    | 0 => false
  | .e k s alt, n, top, p, kf, listed => match n with
    | n + 1 => (!top || ((Region.ready .any ops listed).contains k && (Region.ready .any ops listed).all fun i => (k :: alt.keys).contains i)) && es.contains k && s.ok ops es n true false true (listed.setIfInBounds k true) && alt.ok ops es (n + 1) false p kf listed
    | 0 => false

section
variable {P : Program} {ops : Array Oper} {es : List Nat} {M : Nat → Prop} {hs : AHeap} {K : AFrame → AHeap → Prop} {X : AHeap → Prop}
/-- What is to be shown along a plan. -/
def evS (P : Program) (ol : List Oper) (M : Nat → Prop) (hs : AHeap) (K : AFrame → AHeap → Prop) (X : AHeap → Prop) : Sch → Bool → AFrame → AHeap → Prop
  | .done, _, f, h => K f h
  | .stop, _, _, _ => True
  | .q k s, p, f, h => match ol[k]? with
    | some o => (match wantedA ol o.guard f with
      | some true => ∃ v, (opEval P o (f.eval h) h = some (.val v h) ∧ (p = true → ∀ i, ridOp (f.eval h) o.op = some i → ¬ M i)) ∧ evS P ol M hs K X s p (f.put o.dst v) h
      | some false => evS P ol M hs K X s p (f.put o.dst (.tuple [])) h
      | none => False)
    | none => False
  | .c k s, p, f, h => match ol[k]? with
    | some o => (match wantedA ol o.guard f with
      | some true => ∃ g args v, opEval P o (f.eval h) h = some (.call g args) ∧ (∀ h', Keep hs h' M ∨ h' = h → Pure P g args h' v) ∧ evS P ol M hs K X s p (f.put o.dst v) h
      | some false => evS P ol M hs K X s p (f.put o.dst (.tuple [])) h
      | none => False)
    | none => False
  | .a k s, p, f, h => match ol[k]? with
    | some o => (match wantedA ol o.guard f with
      | some true => stepA P o (fun f' h' => evS P ol M hs K X s false f' h') (fun _ h => X h) f h
      | some false => evS P ol M hs K X s false (f.put o.dst (.tuple [])) h
      | none => False)
    | none => False
  | .e k s alt, p, f, h => (match ol[k]? with
    | some o => (match wantedA ol o.guard f with
      | some true => stepA P o (fun f' h' => Keep hs h' M ∧ evS P ol M hs K X s false f' h') (fun _ h => X h) f h
      | some false => Keep hs h M ∧ evS P ol M hs K X s false (f.put o.dst (.tuple [])) h
      | none => False)
    | none => False) ∧ evS P ol M hs K X alt p f h

def Clause (P : Program) (ops : Array Oper) (es : List Nat) (M : Nat → Prop) (hs : AHeap) (K : AFrame → AHeap → Prop) (X : AHeap → Prop) (n : Nat) (listed : Array Bool) (f : AFrame) (h : AHeap) (i : Nat) : Prop :=
  ∀ o, ops[i]? = some o → (match wantedA ops.toList o.guard f with
        | some true => stepA P o (fun f' h' => (aloneB ops i = true ∨ Keep hs h' M) ∧ anyS P ops es M hs K X n (listed.setIfInBounds i true) f' h') (fun _ h => X h) f h
        | some false => anyS P ops es M hs K X n (listed.setIfInBounds i true) (f.put o.dst (.tuple [])) h
        | none => False)

theorem contains_mem {l : List Nat} {k : Nat} (h : l.contains k = true) : k ∈ l := by simpa using h

theorem eval_fun {h' : AHeap} (hk : Keep hs h' M) (f : AFrame) : f.eval h' = f.eval hs := funext fun x => eval_keep hk f x

theorem evS_any (hwf : Wf hs) : ∀ (s : Sch) (n : Nat) (p kf : Bool) (listed : Array Bool) (f : AFrame) (h : AHeap), (p = true → h = hs) → (kf = true → Keep hs h M) → Down ops listed → evS P ops.toList M hs K X s p f h →
    (s.ok ops es n true p kf listed = true → anyS P ops es M hs K X n listed f h) ∧
    (∀ m, n = m + 1 → s.ok ops es n false p kf listed = true → ∀ i ∈ s.keys, i ∈ Region.ready .any ops listed → es.contains i = true ∧ Clause P ops es M hs K X m listed f h i) := by
  intro s
  induction s with
  | done =>
    intro n p kf listed f h hp hkf hdn he
    refine ⟨fun hok => ?_, fun m hm hok => by simp [Sch.ok] at hok⟩
    simp only [Sch.ok, Bool.true_and, Bool.and_eq_true, beq_iff_eq, List.isEmpty_iff] at hok
    obtain ⟨rfl, hr⟩ := hok
    exact ⟨hr, he⟩
  | stop =>
    intro n p kf listed f h hp hkf hdn he
    exact ⟨fun hok => by simp [Sch.ok] at hok, fun m hm hok i hi => by simp [Sch.keys] at hi⟩
  | q k s ih =>
    intro n p kf listed f h hp hkf hdn he
    refine ⟨fun hok => ?_, fun m hm hok i hi => by simp [Sch.keys] at hi⟩
    cases n with
    | zero => simp [Sch.ok] at hok
    | succ n =>
      cases ho : ops[k]? with
      | none => simp [Sch.ok, ho] at hok
      | some o =>
        simp only [Sch.ok, ho, Bool.true_and, Bool.and_eq_true, Bool.not_eq_true'] at hok
        obtain ⟨⟨⟨⟨⟨hke, hr⟩, hfr⟩, hid⟩, hph⟩, hs2⟩ := hok
        have hr' := contains_mem hr
        have hol : ops.toList[k]? = some o := by simpa using ho
        simp only [evS, hol] at he
        have fin : ∀ v, YieldA P ops.toList h o v f → (wantedA ops.toList o.guard f = some false ∨ (p = true → ∀ i, ridOp (f.eval h) o.op = some i → ¬ M i) ∧ opEval P o (f.eval h) h = some (.val v h)) → evS P ops.toList M hs K X s p (f.put o.dst v) h → anyS P ops es M hs K X (n + 1) listed f h := fun v hy hm hrest => by
          refine anyS_first ho hke n listed f h (Region.free_spec ho hfr) hr' hdn ?_ ((ih n p kf _ _ h hp hkf (hdn.add hr') hrest).1 hs2)
          simp only [Bool.or_eq_true, Bool.and_eq_true] at hph
          rcases hph with (⟨hpt, hk1⟩ | ⟨hk1, hfs⟩) | hord
          · refine .inl ⟨hkf hk1, fun h' hk' => ?_⟩
            have hh := hp hpt
            subst hh
            rcases hm with hm | ⟨hm, hev⟩
            · rcases hy with ⟨hy1, _⟩ | hy
              · rw [hm] at hy1; cases hy1
              · exact .inr hy
            · rcases hy with ⟨hy1, _⟩ | hy
              · exact .inl ⟨hy1, .inl (by rw [eval_fun hk']; exact idle_keep hwf hk' hid (hm hpt) hev)⟩
              · exact .inr hy
          · refine .inl ⟨hkf hk1, fun h' hk' => ?_⟩
            rcases hm with hm | ⟨hm, hev⟩
            · rcases hy with ⟨hy1, _⟩ | hy
              · rw [hm] at hy1; cases hy1
              · exact .inr hy
            · rcases hy with ⟨hy1, _⟩ | hy
              · exact .inl ⟨hy1, .inl (by rw [eval_fun hk', ← eval_fun (hkf hk1)]; exact free_keep hfs hev)⟩
              · exact .inr hy
          · exact .inr ⟨hord, hy⟩
        cases hw : wantedA ops.toList o.guard f with
        | none => rw [hw] at he; exact he.elim
        | some b =>
          rw [hw] at he
          cases b with
          | true =>
            obtain ⟨v, ⟨hev, hm⟩, hrest⟩ := he
            exact fin v (.inl ⟨hw, .inl hev⟩) (.inr ⟨hm, hev⟩) hrest
          | false => exact fin (.tuple []) (.inr ⟨hw, rfl⟩) (.inl hw) he
  | c k s ih =>
    intro n p kf listed f h hp hkf hdn he
    refine ⟨fun hok => ?_, fun m hm hok i hi => by simp [Sch.keys] at hi⟩
    cases n with
    | zero => simp [Sch.ok] at hok
    | succ n =>
      cases ho : ops[k]? with
      | none => simp [Sch.ok, ho] at hok
      | some o =>
        simp only [Sch.ok, ho, Bool.true_and, Bool.and_eq_true, Bool.not_eq_true'] at hok
        obtain ⟨⟨⟨⟨hke, hr⟩, hfr⟩, hph⟩, hs2⟩ := hok
        have hr' := contains_mem hr
        have hol : ops.toList[k]? = some o := by simpa using ho
        simp only [evS, hol] at he
        simp only [Bool.or_eq_true, Bool.and_eq_true] at hph
        cases hw : wantedA ops.toList o.guard f with
        | none => rw [hw] at he; exact he.elim
        | some b =>
          rw [hw] at he
          cases b with
          | true =>
            obtain ⟨g, args, v, hev, hpu, hrest⟩ := he
            refine anyS_first (v := v) ho hke n listed f h (Region.free_spec ho hfr) hr' hdn ?_ ((ih n p kf _ _ h hp hkf (hdn.add hr') hrest).1 hs2)
            rcases hph with ⟨hpt, hk1⟩ | hord
            · refine .inl ⟨hkf hk1, fun h' hk' => .inl ⟨hw, .inr ⟨g, args, ?_, hpu h' (.inl hk')⟩⟩⟩
              have hh := hp hpt
              subst hh
              rw [eval_fun hk']
              exact call_keep hev
            · exact .inr ⟨hord, .inl ⟨hw, .inr ⟨g, args, hev, hpu h (.inr rfl)⟩⟩⟩
          | false =>
            refine anyS_first (v := .tuple []) ho hke n listed f h (Region.free_spec ho hfr) hr' hdn ?_ ((ih n p kf _ _ h hp hkf (hdn.add hr') he).1 hs2)
            rcases hph with ⟨hpt, hk1⟩ | hord
            · exact .inl ⟨hkf hk1, fun h' hk' => .inr ⟨hw, rfl⟩⟩
            · exact .inr ⟨hord, .inr ⟨hw, rfl⟩⟩
  | a k s ih =>
    intro n p kf listed f h hp hkf hdn he
    refine ⟨fun hok => ?_, fun m hm hok i hi => by simp [Sch.keys] at hi⟩
    cases n with
    | zero => simp [Sch.ok] at hok
    | succ n =>
      simp only [Sch.ok, Bool.true_and, Bool.and_eq_true, beq_iff_eq] at hok
      obtain ⟨⟨⟨hke, hr⟩, hal⟩, hs2⟩ := hok
      have hr' : k ∈ Region.ready .any ops listed := by rw [hr]; simp
      refine ⟨fun h0 => (by rw [h0] at hr; cases hr), fun i hi o ho => ?_⟩
      rw [hr] at hi
      simp at hi
      subst hi
      rw [if_pos hke]
      have hol : ops.toList[i]? = some o := by simpa using ho
      simp only [evS, hol] at he
      cases hw : wantedA ops.toList o.guard f with
      | none => rw [hw] at he; exact he.elim
      | some b =>
        rw [hw] at he
        cases b with
        | true => exact stepA_weak (fun f' h' hh => ⟨.inl hal, (ih n false false _ _ h' (by simp) (by simp) (hdn.add hr') hh).1 hs2⟩) (fun _ _ h => h) he
        | false => exact (ih n false false _ _ h (by simp) (by simp) (hdn.add hr') he).1 hs2
  | e k s alt ih1 ih2 =>
    intro n p kf listed f h hp hkf hdn he
    have main : ∀ (m : Nat) (top : Bool), n = m + 1 → (Sch.e k s alt).ok ops es n top p kf listed = true → ∀ i ∈ (Sch.e k s alt).keys, i ∈ Region.ready .any ops listed → es.contains i = true ∧ Clause P ops es M hs K X m listed f h i := by
      intro m top hn hok i hi hir
      subst hn
      simp only [Sch.ok, Bool.and_eq_true] at hok
      obtain ⟨⟨⟨_, hke⟩, hs2⟩, halt⟩ := hok
      simp only [evS] at he
      simp only [Sch.keys, List.mem_cons] at hi
      by_cases hik : i = k
      · subst hik
        refine ⟨hke, fun o ho => ?_⟩
        have hol : ops.toList[i]? = some o := by simpa using ho
        have h1 := he.1
        rw [hol] at h1
        simp only at h1
        cases hw : wantedA ops.toList o.guard f with
        | none => rw [hw] at h1; exact h1.elim
        | some b =>
          rw [hw] at h1
          cases b with
          | true => exact stepA_weak (fun f' h' hh => ⟨.inr hh.1, (ih1 m false true _ _ h' (by simp) (fun _ => hh.1) (hdn.add hir) hh.2).1 hs2⟩) (fun _ _ h => h) h1
          | false => exact (ih1 m false true _ _ h (by simp) (fun _ => h1.1) (hdn.add hir) h1.2).1 hs2
      · rcases hi with hi | hi
        · exact absurd hi hik
        · exact (ih2 (m + 1) p kf listed f h hp hkf hdn he.2).2 m rfl halt i hi hir
    refine ⟨fun hok => ?_, fun m hm hok => main m false hm hok⟩
    cases n with
    | zero => simp [Sch.ok] at hok
    | succ m =>
      have hcov : (Region.ready .any ops listed).all (fun i => (k :: alt.keys).contains i) = true ∧ (Region.ready .any ops listed).contains k = true := by
        simp only [Sch.ok, Bool.and_eq_true, Bool.not_true, Bool.false_or] at hok
        exact ⟨hok.1.1.1.2, hok.1.1.1.1⟩
      have hin : ∀ i ∈ Region.ready .any ops listed, i ∈ (Sch.e k s alt).keys := fun i hi => by
        have := (List.all_eq_true.1 hcov.1) i hi
        exact contains_mem this
      refine ⟨fun h0 => ?_, fun i hi o ho => ?_⟩
      · have := contains_mem hcov.2
        rw [h0] at this
        cases this
      · obtain ⟨h1, h2⟩ := main m true rfl hok i (hin i hi) hi
        rw [if_pos h1]
        exact h2 o ho
end
end Go.Proofs.YtfcjehlhoebmnaaGreatDoor.Ab

namespace Go.Proofs.YtfcjehlhoebmnaaGreatDoor.Ab
open Go Go.RowKit
set_option linter.unusedVariables false

def mOk (M : Nat → Prop) (r : Option Nat) : Prop := ∀ i, r = some i → ¬ M i
theorem mOk_none {p : Prop} {r : Option Nat} : (p → mOk none_ r) = True := eq_true fun _ _ _ h => h
theorem mOk_none' {r : Option Nat} : mOk none_ r = True := eq_true fun _ _ h => h
theorem mOk_false {M : Nat → Prop} {r : Option Nat} : (false = true → mOk M r) = True := eq_true fun h => by cases h
theorem idleS_op {o : Op} (h : idleS o = true) : idleOp o = true := by
  cases o
  case entry => simp [idleS] at h
  case call c =>
    obtain ⟨callee, args, ts⟩ := c
    cases callee with
    | builtin b => cases b <;> simp [idleS, idleOp] at h ⊢
    | _ => simp [idleS, idleOp] at h
  all_goals exact h
/-- Along a plan, step by step. -/
def siI (P : Program) (ol : List Oper) (M : Nat → Prop) (hs : AHeap) (K : Kt) : Sch → Bool → AFrame → AHeap → Prop
  | .done, _, f, h => @goI K f h
  | .stop, _, _, _ => True
  | .q k s, p, f, h => match ol[k]? with
    | some o => (p = true → mOk M (ridOp (f.eval h) o.op)) ∧ @qI P ol [o] ⟨h⟩ (.fn (fun f' _ => siI P ol M hs K s p f' h) (fun _ _ => False)) f
    | none => False
  | .c k s, p, f, h => match ol[k]? with
    | some o => (match wantedA ol o.guard f with
      | some true => ∃ g args v, opEval P o (f.eval h) h = some (.call g args) ∧ (∀ h', Keep hs h' M ∨ h' = h → Pure P g args h' v) ∧ siI P ol M hs K s p (f.put o.dst v) h
      | some false => siI P ol M hs K s p (f.put o.dst (.tuple [])) h
      | none => False)
    | none => False
  | .a k s, p, f, h => match ol[k]? with
    | some o => @opsI P ol [o] (.fn (fun f' h' => siI P ol M hs K s false f' h') (fun _ h' => ∀ f, Kt.exc K f h')) f h
    | none => False
  | .e k s alt, p, f, h => (match ol[k]? with
    | some o => @opsI P ol [o] (.fn (fun f' h' => Keep hs h' M ∧ siI P ol M hs K s false f' h') (fun _ h' => ∀ f, Kt.exc K f h')) f h
    | none => False) ∧ siI P ol M hs K alt p f h

section
variable {P : Program} {ol : List Oper} {M : Nat → Prop} {hs h : AHeap} {K : Kt} {f : AFrame} {k : Nat} {s alt : Sch} {p : Bool} {o : Oper}
def sqI (P : Program) (ol : List Oper) (M : Nat → Prop) (hs : AHeap) (K : Kt) (s : Sch) (p : Bool) (f : AFrame) (h : AHeap) : Option Oper → Prop
  | some o => (p = true → mOk M (ridOp (f.eval h) o.op)) ∧ @qI P ol [o] ⟨h⟩ (.fn (fun f' _ => siI P ol M hs K s p f' h) (fun _ _ => False)) f
  | none => False
def saI (P : Program) (ol : List Oper) (M : Nat → Prop) (hs : AHeap) (K : Kt) (s : Sch) (f : AFrame) (h : AHeap) : Option Oper → Prop
  | some o => @opsI P ol [o] (.fn (fun f' h' => siI P ol M hs K s false f' h') (fun _ h' => ∀ f, Kt.exc K f h')) f h
  | none => False
def seI (P : Program) (ol : List Oper) (M : Nat → Prop) (hs : AHeap) (K : Kt) (s : Sch) (f : AFrame) (h : AHeap) : Option Oper → Prop
  | some o => @opsI P ol [o] (.fn (fun f' h' => Keep hs h' M ∧ siI P ol M hs K s false f' h') (fun _ h' => ∀ f, Kt.exc K f h')) f h
  | none => False
theorem siI_done : siI P ol M hs K .done p f h = @goI K f h := nr rfl
theorem siI_stop : siI P ol M hs K .stop p f h = True := nr rfl
theorem siI_q : siI P ol M hs K (.q k s) p f h = sqI P ol M hs K s p f h ol[k]? := by
  unfold siI sqI; cases ol[k]? <;> rfl
theorem siI_a : siI P ol M hs K (.a k s) p f h = saI P ol M hs K s f h ol[k]? := by
  unfold siI saI; cases ol[k]? <;> rfl
theorem siI_e : siI P ol M hs K (.e k s alt) p f h = (seI P ol M hs K s f h ol[k]? ∧ siI P ol M hs K alt p f h) := by
  conv => lhs; unfold siI
  unfold seI; cases ol[k]? <;> rfl
theorem sqI_some : sqI P ol M hs K s p f h (some o) = ((p = true → mOk M (ridOp (f.eval h) o.op)) ∧ @qI P ol [o] ⟨h⟩ (.fn (fun f' _ => siI P ol M hs K s p f' h) (fun _ _ => False)) f) := nr rfl
theorem saI_some : saI P ol M hs K s f h (some o) = @opsI P ol [o] (.fn (fun f' h' => siI P ol M hs K s false f' h') (fun _ h' => ∀ f, Kt.exc K f h')) f h := nr rfl
theorem seI_some : seI P ol M hs K s f h (some o) = @opsI P ol [o] (.fn (fun f' h' => Keep hs h' M ∧ siI P ol M hs K s false f' h') (fun _ h' => ∀ f, Kt.exc K f h')) f h := nr rfl
theorem Kt_fn {A E : AFrame → AHeap → Prop} {f : AFrame} {h : AHeap} : Kt.go (.fn A E) f h = A f h := nr rfl
theorem Kt_fnE {A E : AFrame → AHeap → Prop} {f : AFrame} {h : AHeap} : Kt.exc (.fn A E) f h = E f h := nr rfl
/-- A pure call. -/
theorem siI_c {fid : FuncId} {args : List V} {v : V} (ho : ol[k]? = some o) (hg : wantedA ol o.guard f = some true) (hc : opEval P o (f.eval h) h = some (.call fid args)) (hp : ∀ h', Keep hs h' M ∨ h' = h → Pure P fid args h' v)
    (hk : siI P ol M hs K s p (f.put o.dst v) h) : siI P ol M hs K (.c k s) p f h := by
  unfold siI
  rw [ho]
  simp only
  rw [hg]
  exact ⟨_, _, _, hc, hp, hk⟩
theorem siI_cskip (ho : ol[k]? = some o) (hg : wantedA ol o.guard f = some false) (hk : siI P ol M hs K s p (f.put o.dst (.tuple [])) h) : siI P ol M hs K (.c k s) p f h := by
  unfold siI
  rw [ho]
  simp only
  rw [hg]
  exact hk
theorem keepT0 {M : Nat → Prop} {h : AHeap} : Keep h h M = True := eq_true (Keep.refl _ _)
theorem keepT1 {M : Nat → Prop} {h : AHeap} {a : AObj} : Keep h (h.push a) M = True := eq_true (Keep.push _ _ _)
theorem keepT2 {M : Nat → Prop} {h : AHeap} {a b : AObj} : Keep h ((h.push a).push b) M = True := eq_true ((Keep.push _ _ _).then_push _)
theorem keepT3 {M : Nat → Prop} {h : AHeap} {a b c : AObj} : Keep h (((h.push a).push b).push c) M = True := eq_true (((Keep.push _ _ _).then_push _).then_push _)
theorem keepT4 {M : Nat → Prop} {h : AHeap} {a b c d : AObj} : Keep h ((((h.push a).push b).push c).push d) M = True := eq_true ((((Keep.push _ _ _).then_push _).then_push _).then_push _)
end

theorem siI_evS {P : Program} {ops : Array Oper} {es : List Nat} {M : Nat → Prop} {hs : AHeap} {K : Kt} : ∀ (s : Sch) (n : Nat) (top p kf : Bool) (listed : Array Bool) (f : AFrame) (h : AHeap),
    s.ok ops es n top p kf listed = true → siI P ops.toList M hs K s p f h → evS P ops.toList M hs K.go (fun h => ∀ f, Kt.exc K f h) s p f h := by
  intro s
  induction s with
  | done => intro n top p kf listed f h _ he; exact he
  | stop => intro n top p kf listed f h _ he; trivial
  | q k s ih =>
    intro n top p kf listed f h hok he
    cases n with
    | zero => simp [Sch.ok] at hok
    | succ n =>
      cases ho : ops[k]? with
      | none => simp [Sch.ok, ho] at hok
      | some o =>
        simp only [Sch.ok, ho, Bool.and_eq_true] at hok
        have hid := hok.1.1.2
        have hs2 := hok.2
        have hol : ops.toList[k]? = some o := by simpa using ho
        simp only [siI, hol] at he
        simp only [evS, hol]
        obtain ⟨hm, hq⟩ := he
        unfold qI quietA at hq
        cases hw : wantedA ops.toList o.guard f with
        | none => rw [hw] at hq; exact hq.elim
        | some b =>
          rw [hw] at hq
          cases b with
          | true =>
            obtain ⟨v, hst, hr⟩ := hq
            have hv : opEval P o (f.eval h) h = some (.val v h) := by
              rcases hst with hst | ⟨g, args, hst, _⟩
              · exact hst
              · obtain ⟨u, hu⟩ := idle_val (idleS_op hid) hst
                cases hu
            exact ⟨v, ⟨hv, hm⟩, ih n true p kf _ _ h hs2 hr⟩
          | false => exact ih n true p kf _ _ h hs2 hq
  | c k s ih =>
    intro n top p kf listed f h hok he
    cases n with
    | zero => simp [Sch.ok] at hok
    | succ n =>
      cases ho : ops[k]? with
      | none => simp [Sch.ok, ho] at hok
      | some o =>
        simp only [Sch.ok, ho, Bool.and_eq_true] at hok
        have hs2 := hok.2
        have hol : ops.toList[k]? = some o := by simpa using ho
        simp only [siI, hol] at he
        simp only [evS, hol]
        cases hw : wantedA ops.toList o.guard f with
        | none => rw [hw] at he; exact he
        | some b =>
          rw [hw] at he
          cases b with
          | true =>
            obtain ⟨g, args, v, h1, h2, h3⟩ := he
            exact ⟨g, args, v, h1, h2, ih n true p kf _ _ h hs2 h3⟩
          | false => exact ih n true p kf _ _ h hs2 he
  | a k s ih =>
    intro n top p kf listed f h hok he
    cases n with
    | zero => simp [Sch.ok] at hok
    | succ n =>
      simp only [Sch.ok, Bool.and_eq_true] at hok
      have hs2 := hok.2
      simp only [siI] at he
      simp only [evS]
      cases hol : ops.toList[k]? with
      | none => rw [hol] at he; exact he
      | some o =>
        rw [hol] at he
        simp only at he ⊢
        unfold opsI opsA at he
        cases hw : wantedA ops.toList o.guard f with
        | none => rw [hw] at he; exact he
        | some b =>
          rw [hw] at he
          cases b with
          | true => exact stepA_weak (fun f' h' hh => ih n true false false _ f' h' hs2 hh) (fun _ _ hh => hh) he
          | false => exact ih n true false false _ _ h hs2 he
  | e k s alt ih1 ih2 =>
    intro n top p kf listed f h hok he
    cases n with
    | zero => simp [Sch.ok] at hok
    | succ n =>
      simp only [Sch.ok, Bool.and_eq_true] at hok
      obtain ⟨⟨⟨_, _⟩, hs2⟩, halt⟩ := hok
      simp only [siI] at he
      simp only [evS]
      refine ⟨?_, ih2 (n + 1) false p kf _ f h halt he.2⟩
      have h1 := he.1
      cases hol : ops.toList[k]? with
      | none => rw [hol] at h1; exact h1
      | some o =>
        rw [hol] at h1
        simp only at h1 ⊢
        unfold opsI opsA at h1
        cases hw : wantedA ops.toList o.guard f with
        | none => rw [hw] at h1; exact h1
        | some b =>
          rw [hw] at h1
          cases b with
          | true => exact stepA_weak (fun f' h' hh => ⟨hh.1, ih1 n true false true _ f' h' hs2 hh.2⟩) (fun _ _ hh => hh) h1
          | false => exact ⟨h1.1, ih1 n true false true _ _ h hs2 h1.2⟩

/-- A statement whose order is open, by a plan. -/
theorem SWp.drawnS {P : Program} {n id : Nat} {ops : Array Oper} (M : Nat → Prop) (es : List Nat) (s : Sch) (hm : P.follows .mixedOrders = true) (hB : s.ok ops es ops.size true true true (Array.replicate ops.size false) = true) (hok : ops.toList.all (fun o => dstOk n o.dst) = true) {Q : Qt} {f : AFrame} {h : AHeap}
    (hq : siI P ops.toList M h (.out Q) s true f h) : SWp P n (.region id ops true) Q.go f h := by
  intro ρ B w0 a w hw hf
  refine wpIn_wide.1 (wpIn_region_any (n := 0) hm (anyG_sound (ρ0 := ρ) (es := es) hok _ _ f h ρ a _ (Ren.le.refl ρ) hw.drew hf ?_))
  have := (evS_any (es := es) hw.wf s _ true true _ f h (fun _ => rfl) (fun _ => Keep.refl _ _) (fun k o ho hk => by simp [Array.getElem?_replicate] at hk; split at hk <;> simp_all) (siI_evS s _ true true true _ f h hB hq)).1 hB
  exact anyS_G (fun f h hx => hx f) _ _ _ _ this
end Go.Proofs.YtfcjehlhoebmnaaGreatDoor.Ab

namespace Go.Proofs.YtfcjehlhoebmnaaGreatDoor.Ab
open Go Go.RowKit
set_option linter.unusedVariables false

/-! ### Structs of plain fields, equal or not -/
def kindsOf (P : Program) : Nat → List Field → Option (List Nat)
  | _, [] => some []
  | o, f :: fs => if f.name ≠ "_" ∧ f.offset = o then
      match P.underlying f.type, kindsOf P (o + 1) fs with
      | some (.int _), some l => some (0 :: l)
      | some .bool, some l => some (1 :: l)
      | some .string, some l => some (2 :: l)
      | _, _ => none
    else none
def structK (P : Program) (t : TypeId) : Option (List Nat) := match P.underlying t with
  | some (.struct fs) => if P.stoodInHeld t = false ∧ P.eqGuardType P.depth t = false then kindsOf P 0 fs.toList else none
  | _ => none
def eqK : List Nat → List V → List V → Option Bool
  | [], [], [] => some true
  | 0 :: ks, .int k a :: r, .int k' b :: s => if k = k' then (eqK ks r s).map fun x => (a == b) && x else none
  | 1 :: ks, .bool a :: r, .bool b :: s => (eqK ks r s).map fun x => (a == b) && x
  | 2 :: ks, .string a :: r, .string b :: s => (eqK ks r s).map fun x => (a.toList == b.toList) && x
  | _, _, _ => none

section
variable {P : Program}
theorem pr_pure {α : Type} {a : α} : pureRun P (pure a : Sem α) = some a := rfl
theorem pr_program : pureRun P program = some P := rfl
theorem pr_underlying {t : TypeId} {d : TypeDesc} (h : P.underlying t = some d) : pureRun P (underlying t) = some d := pureRun_underlying h
theorem pr_part {t : TypeId} {d : TypeDesc} {cs : Array Value} {o : Nat} {v : Value} (hu : P.underlying t = some d) (hd : d.isRow = false) (hv : cs[o]? = some v) : pureRun P (part t cs o) = some v := by
  have ha : pureRun P (isAgg t) = some false := by
    unfold isAgg
    rw [pureRun_bind, pr_underlying hu]
    cases d <;> simp_all [TypeDesc.isRow, pr_pure]
  unfold part
  rw [pureRun_bind, ha]
  simp [hv, pr_pure]
theorem pr_equal_int {d : Nat} {t : TypeId} {k k' : IntKind} {a b : Int} (h : P.underlying t = some (.int k')) : pureRun P (Op.equalIn (d + 1) t (.int k a) (.int k b)) = some (a == b) := by
  unfold Op.equalIn
  rw [pureRun_bind, pr_underlying h]
  simp [pr_pure]
theorem pr_equal_bool {d : Nat} {t : TypeId} {a b : Bool} (h : P.underlying t = some .bool) : pureRun P (Op.equalIn (d + 1) t (.bool a) (.bool b)) = some (a == b) := by
  unfold Op.equalIn
  rw [pureRun_bind, pr_underlying h]
  simp [pr_pure]
theorem pr_equal_str {d : Nat} {t : TypeId} {a b : ByteArray} (h : P.underlying t = some .string) : pureRun P (Op.equalIn (d + 1) t (.string a) (.string b)) = some (a.toList == b.toList) := by
  unfold Op.equalIn
  rw [pureRun_bind, pr_underlying h]
  simp [pr_pure, beq_toListBytes]
theorem drop_cons {α : Type} {l : List α} {o : Nat} {a : α} {r : List α} (h : l.drop o = a :: r) : l[o]? = some a ∧ l.drop (o + 1) = r := by
  have h1 : (l.drop o)[0]? = some a := by rw [h]; rfl
  rw [List.getElem?_drop] at h1
  refine ⟨by simpa using h1, ?_⟩
  rw [← List.drop_drop, h]; rfl
theorem eqF_run {d : Nat} {X Y : Array Value} : ∀ (fs : List Field) (o : Nat) (ks : List Nat) (xs ys : List V) (vx vy : List Value) (b : Bool), kindsOf P o fs = some ks → eqK ks xs ys = some b → flatL xs = some vx → flatL ys = some vy →
    X.toList.drop o = vx → Y.toList.drop o = vy → pureRun P (Op.eqFields (d + 1) X Y fs) = some b
  | [], o, ks, xs, ys, vx, vy, b, hk, he, hx, hy, hX, hY => by
    simp [kindsOf] at hk
    subst hk
    cases xs <;> cases ys <;> simp [eqK] at he
    subst he
    rfl
  | f :: fs, o, ks, xs, ys, vx, vy, b, hk, he, hx, hy, hX, hY => by
    unfold kindsOf at hk
    split at hk
    case isFalse => cases hk
    rename_i hn
    have go : ∀ (a' b' : Value) (r1 r2 : List V) (w1 w2 : List Value) (q x : Bool) (ks' : List Nat) (dd : TypeDesc), P.underlying f.type = some dd → dd.isRow = false → X.toList.drop o = a' :: w1 → Y.toList.drop o = b' :: w2 → kindsOf P (o + 1) fs = some ks' → eqK ks' r1 r2 = some x → flatL r1 = some w1 → flatL r2 = some w2 →
        pureRun P (Op.equalIn (d + 1) f.type a' b') = some q → pureRun P (Op.eqFields (d + 1) X Y (f :: fs)) = some (q && x) := fun a' b' r1 r2 w1 w2 q x ks' dd hu hd h1 h2 h3 h4 h5 h6 h7 => by
      obtain ⟨g1, g2⟩ := drop_cons h1
      obtain ⟨g3, g4⟩ := drop_cons h2
      have ih := eqF_run (d := d) fs (o + 1) ks' r1 r2 w1 w2 x h3 h4 h5 h6 g2 g4
      unfold Op.eqFields
      rw [if_pos hn.1, pureRun_bind, hn.2, pr_part hu hd (by rw [← Array.getElem?_toList]; exact g1)]
      simp only [Option.bind_some]
      rw [pureRun_bind, pr_part hu hd (by rw [← Array.getElem?_toList]; exact g3)]
      simp only [Option.bind_some]
      rw [pureRun_bind, h7]
      simp only [Option.bind_some]
      cases q
      · rfl
      · simpa using ih
    cases hks : kindsOf P (o + 1) fs with
    | none => rw [hks] at hk; split at hk <;> simp_all
    | some ks' =>
      rw [hks] at hk
      cases hu : P.underlying f.type with
      | none => rw [hu] at hk; cases hk
      | some dd =>
        rw [hu] at hk
        cases dd <;> simp only at hk <;> try (cases hk; done)
        case int kk =>
          obtain rfl := Option.some.inj hk
          cases xs with
          | nil => simp [eqK] at he
          | cons xv r1 =>
            cases ys with
            | nil => cases xv <;> simp [eqK] at he
            | cons yv r2 =>
              cases xv <;> cases yv <;> first | (simp [eqK] at he; done) | skip
              rename_i k1 a k2 c
              have he' : (if k1 = k2 then (eqK ks' r1 r2).map (fun x => (a == c) && x) else none) = some b := he
              split at he'
              case isFalse => cases he'
              rename_i hkk
              subst hkk
              obtain ⟨x, hx2, rfl⟩ := Option.map_eq_some_iff.1 he'
              simp only [flatL, flatV] at hx hy
              cases h5 : flatL r1 with
              | none => rw [h5] at hx; cases hx
              | some w1 =>
                cases h6 : flatL r2 with
                | none => rw [h6] at hy; cases hy
                | some w2 =>
                  rw [h5] at hx; rw [h6] at hy
                  obtain rfl := Option.some.inj hx
                  obtain rfl := Option.some.inj hy
                  exact go _ _ r1 r2 w1 w2 _ x ks' _ hu rfl hX hY hks hx2 h5 h6 (pr_equal_int hu)
        case bool =>
          obtain rfl := Option.some.inj hk
          cases xs with
          | nil => simp [eqK] at he
          | cons xv r1 =>
            cases ys with
            | nil => cases xv <;> simp [eqK] at he
            | cons yv r2 =>
              cases xv <;> cases yv <;> first | (simp [eqK] at he; done) | skip
              rename_i a c
              obtain ⟨x, hx2, rfl⟩ := Option.map_eq_some_iff.1 he
              simp only [flatL, flatV] at hx hy
              cases h5 : flatL r1 with
              | none => rw [h5] at hx; cases hx
              | some w1 =>
                cases h6 : flatL r2 with
                | none => rw [h6] at hy; cases hy
                | some w2 =>
                  rw [h5] at hx; rw [h6] at hy
                  obtain rfl := Option.some.inj hx
                  obtain rfl := Option.some.inj hy
                  exact go _ _ r1 r2 w1 w2 _ x ks' _ hu rfl hX hY hks hx2 h5 h6 (pr_equal_bool hu)
        case string =>
          obtain rfl := Option.some.inj hk
          cases xs with
          | nil => simp [eqK] at he
          | cons xv r1 =>
            cases ys with
            | nil => cases xv <;> simp [eqK] at he
            | cons yv r2 =>
              cases xv <;> cases yv <;> first | (simp [eqK] at he; done) | skip
              rename_i a c
              obtain ⟨x, hx2, rfl⟩ := Option.map_eq_some_iff.1 he
              simp only [flatL, flatV] at hx hy
              cases h5 : flatL r1 with
              | none => rw [h5] at hx; cases hx
              | some w1 =>
                cases h6 : flatL r2 with
                | none => rw [h6] at hy; cases hy
                | some w2 =>
                  rw [h5] at hx; rw [h6] at hy
                  obtain rfl := Option.some.inj hx
                  obtain rfl := Option.some.inj hy
                  exact go _ _ r1 r2 w1 w2 _ x ks' _ hu rfl hX hY hks hx2 h5 h6 (pr_equal_str hu)
theorem eqK_flat : ∀ {ks : List Nat} {xs ys : List V} {b : Bool}, eqK ks xs ys = some b → ∃ vx vy, flatL xs = some vx ∧ flatL ys = some vy
  | [], xs, ys, b, h => by
    cases xs <;> cases ys <;> simp [eqK] at h
    exact ⟨[], [], rfl, rfl⟩
  | k :: ks, [], ys, b, h => by unfold eqK at h; split at h <;> simp_all
  | k :: ks, x :: xs, [], b, h => by unfold eqK at h; split at h <;> simp_all
  | k :: ks, x :: xs, y :: ys, b, h => by
    have fin : ∀ {a c : Value} {q : Option Bool}, flatV x = some a → flatV y = some c → eqK ks xs ys ≠ none → ∃ vx vy, flatL (x :: xs) = some vx ∧ flatL (y :: ys) = some vy := fun {a c q} h1 h2 h3 => by
      cases hq : eqK ks xs ys with
      | none => exact absurd hq h3
      | some b' =>
        obtain ⟨vx, vy, e1, e2⟩ := eqK_flat hq
        exact ⟨a :: vx, c :: vy, by simp [flatL, h1, e1], by simp [flatL, h2, e2]⟩
    unfold eqK at h
    split at h
    · simp_all
    · rename_i hks hxs hys
      simp only [List.cons.injEq] at hks hxs hys
      obtain ⟨rfl, rfl⟩ := hks
      obtain ⟨rfl, rfl⟩ := hxs
      obtain ⟨rfl, rfl⟩ := hys
      split at h
      · exact fin (q := none) rfl rfl (by intro hh; rw [hh] at h; cases h)
      · cases h
    · rename_i hks hxs hys
      simp only [List.cons.injEq] at hks hxs hys
      obtain ⟨rfl, rfl⟩ := hks
      obtain ⟨rfl, rfl⟩ := hxs
      obtain ⟨rfl, rfl⟩ := hys
      exact fin (q := none) rfl rfl (by intro hh; rw [hh] at h; cases h)
    · rename_i hks hxs hys
      simp only [List.cons.injEq] at hks hxs hys
      obtain ⟨rfl, rfl⟩ := hks
      obtain ⟨rfl, rfl⟩ := hxs
      obtain ⟨rfl, rfl⟩ := hys
      exact fin (q := none) rfl rfl (by intro hh; rw [hh] at h; cases h)
    · cases h

theorem pr_equal_agg {t : TypeId} {ks : List Nat} {xs ys : List V} {vx vy : List Value} {b : Bool} (hk : structK P t = some ks) (he : eqK ks xs ys = some b) (hx : flatL xs = some vx) (hy : flatL ys = some vy) :
    pureRun P (Op.equal t (.agg vx.toArray) (.agg vy.toArray)) = some b ∧ P.eqGuardType P.depth t = false := by
  unfold structK at hk
  split at hk
  case h_2 => cases hk
  rename_i fs hu
  split at hk
  case isFalse => cases hk
  rename_i hst
  refine ⟨?_, hst.2⟩
  show pureRun P (Op.equalIn (9999 + 1) t _ _) = some b
  have hF : ∀ fs : List Field, pureRun P (forIn fs ((none, ()) : Option Bool × Unit) fun f r => if f.name ≠ "_" then do
      let a ← part f.type vx.toArray f.offset
      let c ← part f.type vy.toArray f.offset
      let q ← Op.equalIn 9999 f.type a c
      if (!q) = true then pure (ForInStep.done (some false, ())) else pure (ForInStep.yield (none, ()))
      else pure (ForInStep.yield (none, ()))) = (pureRun P (Op.eqFields 9999 vx.toArray vy.toArray fs)).map fun r => if r then (none, ()) else (some false, ()) := fun fs => by
    induction fs with
    | nil => rfl
    | cons f fs ih =>
      rw [List.forIn_cons]
      unfold Op.eqFields
      by_cases hn : f.name ≠ "_"
      · rw [if_pos hn, if_pos hn]
        simp only [pureRun_bind, Option.bind_assoc]
        cases pureRun P (part f.type vx.toArray f.offset) with
        | none => rfl
        | some a =>
          simp only [Option.bind_some]
          cases pureRun P (part f.type vy.toArray f.offset) with
          | none => rfl
          | some c =>
            simp only [Option.bind_some]
            cases pureRun P (Op.equalIn 9999 f.type a c) with
            | none => rfl
            | some q =>
              cases q
              · rfl
              · simpa [pr_pure] using ih
      · rw [if_neg hn, if_neg hn]
        simp only [pureRun_bind, pr_pure, Option.bind_some]
        exact ih
  have hrun := eqF_run (P := P) (d := 9998) (X := vx.toArray) (Y := vy.toArray) fs.toList 0 ks xs ys vx vy b hk he hx hy (by simp) (by simp)
  unfold Op.equalIn
  simp only [pureRun_bind, pr_underlying hu, Option.bind_some, pr_program, hst.1, Bool.false_eq_true, if_false]
  rw [← Array.forIn_toList]
  have h2 := hF fs.toList
  rw [hrun] at h2
  first
    | (simp only [pureRun_bind] at *; rw [h2]; cases b <;> rfl)
    | (erw [h2]; cases b <;> rfl)
theorem aBin_sk_eql {t : TypeId} {ks : List Nat} {xs ys : List V} {b : Bool} {xo yo : Operand} (hk : structK P t = some ks) (he : eqK ks xs ys = some b) : aBin P .eql t xo yo (.agg xs) (.agg ys) = some (.bool b) := by
  obtain ⟨vx, vy, hx, hy⟩ := eqK_flat he
  obtain ⟨h1, h2⟩ := pr_equal_agg hk he hx hy
  unfold aBin
  simp only [plainV, hx, hy, Option.map_some]
  have hg : pureRun P (eqGuard .eql t xo yo (.agg vx.toArray) (.agg vy.toArray)) = some () := by
    simp [eqGuard, pureRun_bind, pr_program, h2, pr_pure]
  rw [pureRun_bind, hg]
  simp only [Option.bind_some, binOp, pureRun_bind, h1, pr_pure, Option.map_some]
  rfl
theorem aBin_sk_neq {t : TypeId} {ks : List Nat} {xs ys : List V} {b : Bool} {xo yo : Operand} (hk : structK P t = some ks) (he : eqK ks xs ys = some b) : aBin P .neq t xo yo (.agg xs) (.agg ys) = some (.bool (!b)) := by
  obtain ⟨vx, vy, hx, hy⟩ := eqK_flat he
  obtain ⟨h1, h2⟩ := pr_equal_agg hk he hx hy
  unfold aBin
  simp only [plainV, hx, hy, Option.map_some]
  have hg : pureRun P (eqGuard .neq t xo yo (.agg vx.toArray) (.agg vy.toArray)) = some () := by
    simp [eqGuard, pureRun_bind, pr_program, h2, pr_pure]
  rw [pureRun_bind, hg]
  simp only [Option.bind_some, binOp, pureRun_bind, h1, pr_pure, Option.map_some]
  rfl
end
end Go.Proofs.YtfcjehlhoebmnaaGreatDoor.Ab

namespace Go.Proofs.YtfcjehlhoebmnaaGreatDoor.Ab
open Go Go.RowKit
set_option linter.unusedVariables false

theorem append_ownM {P : Program} {t tx : TypeId} {T : SlT} (hT : slT P t = some T) (hpos : 0 < T.sz)
    {h : AHeap} {s x : V} {cs : List V} (ho : Own h T.e T.sz s cs) {n : Nat} {news : List V} (hsrc : aSrc P T.sz tx x h = some (n, news)) (hn : news.length = n * T.sz)
    (hm : ∀ m, m * T.sz = cs.length + news.length → m * T.bs ≤ lim ∧ m ≤ lim) :
    ∃ v h', aAppend P t tx s x h = some (v, h') ∧ Own h' T.e T.sz v (cs ++ news) ∧ Keep h h' (isId s) ∧ NewOr h s v := by
  obtain ⟨he, hz, hsz, hbs, hzs, _⟩ := slT_eq hT
  unfold aAppend
  simp only [he, hz, hsz, hbs, hzs, if_true, hsrc]
  have start : ∀ s : V, (s = .snil ∨ s = .z0) → cs = [] → ∃ v h', (if n = 0 then some (s, h) else if n * T.bs ≤ lim ∧ n ≤ lim then some (.sl h.n 0 n unk, h.push (.cells news T.e (some T.sz))) else none) = some (v, h') ∧ Own h' T.e T.sz v (cs ++ news) ∧ Keep h h' (isId s) ∧ NewOr h s v := fun s hs hcs => by
    subst hcs
    by_cases h0 : n = 0
    · subst h0
      have : news = [] := List.eq_nil_of_length_eq_zero (by simpa using hn)
      subst this
      exact ⟨s, h, by simp, .inl ⟨hs, rfl⟩, Keep.refl _ _, .inl rfl⟩
    · obtain ⟨c1, c2⟩ := hm n (by simp [hn])
      exact ⟨.sl h.n 0 n unk, h.push (.cells news T.e (some T.sz)), by simp [h0, c1, c2], Own.grown (by simp [AHeap.push]) (by simp [AHeap.push]) (by simpa using hn), Keep.push _ _ _, .inr fun k hk => by simp [idOf] at hk; omega⟩
  rcases ho with ⟨rfl | rfl, hcs⟩ | ⟨i, len, cap, c, ex, rfl, hi, hg, hlen, htake, hcap⟩
  · exact start _ (.inl rfl) hcs
  · exact start _ (.inr rfl) hcs
  · by_cases h0 : n = 0
    · subst h0
      have : news = [] := List.eq_nil_of_length_eq_zero (by simpa using hn)
      subst this
      exact ⟨.sl i 0 len cap, h, by simp, by rw [List.append_nil]; exact .inr ⟨i, len, cap, c, ex, rfl, hi, hg, hlen, htake, hcap⟩, Keep.refl _ _, .inl rfl⟩
    · obtain ⟨c1, c2⟩ := hm (len + n) (by rw [Nat.add_mul, hlen, hn])
      have hcl : len * T.sz ≤ c.length := by
        have := congrArg List.length htake
        rw [List.length_take, hlen] at this
        omega
      simp only [h0, c1, c2, and_self, if_true, if_false, hg]
      rcases hcap with ⟨hcu, hclen, hle⟩ | ⟨rfl, rfl⟩
      · simp only [hcu, if_true]
        by_cases hroom : len + n ≤ cap
        · have hfit : 0 + (len + n) * T.sz ≤ c.length := by rw [Nat.zero_add]; exact Nat.le_trans (Nat.mul_le_mul_right _ hroom) hclen
          have hll : (lay c (len * T.sz) news).length = c.length := length_lay _ _ _ (by rw [hn, ← Nat.add_mul]; omega)
          simp only [hroom, if_true, hfit]
          refine ⟨_, _, rfl, .inr ⟨i, len + n, cap, lay c (0 + len * T.sz) news, ex, rfl, hi, by simp [AHeap.set], by simp [hlen, hn, Nat.add_mul], ?_, .inl ⟨hcu, ?_, hroom⟩⟩, ⟨Nat.le_refl _, fun j hj hne => ?_, rfl⟩, .inl rfl⟩
          · simp only [Nat.zero_add, lay, htake, Nat.add_mul, ← hn]
            have : (cs ++ news).length = len * T.sz + news.length := by simp [hlen]
            rw [← this]
            exact List.take_left
          · rw [Nat.zero_add, hll]; exact hclen
          · simp only [AHeap.set]
            rw [if_neg (by intro hji; subst hji; simp [isId, idOf] at hne)]
        · simp only [hroom, if_false]
          have hread : 0 + len * T.sz ≤ c.length := by omega
          simp only [hread, if_true, List.drop_zero, htake]
          exact ⟨_, _, rfl, Own.grown (by simp [AHeap.push]) (by simp [AHeap.push]) (by simp [hlen, hn, Nat.add_mul]), Keep.push _ _ _, .inr fun k hk => by simp [idOf] at hk; omega⟩
      · simp only [Nat.lt_irrefl, if_false, true_and, hcl, and_self, if_true]
        refine ⟨_, _, rfl, Own.grown (by simp [AHeap.push, AHeap.set]) (by simp [AHeap.push, AHeap.set, htake]) (by simp [hlen, hn, Nat.add_mul]), ⟨by simp [AHeap.push, AHeap.set], fun j hj hne => ?_, rfl⟩, .inr fun k hk => by simp [idOf] at hk; omega⟩
        have h1 : j ≠ i := by intro hji; subst hji; simp [isId, idOf] at hne
        have h2 : j ≠ h.n := by omega
        simp [AHeap.push, AHeap.set, h1, h2]

theorem append_elemM {P : Program} {t : TypeId} {T : SlT} (hT : slT P t = some T) (hpos : 0 < T.sz)
    {h : AHeap} {s : V} {cs xs : List V} (ho : Own h T.e T.sz s cs) (hl : xs.length = T.sz) (hone : xs.all (·.one) = true)
    (hm : ∀ m, m * T.sz = cs.length + T.sz → m * T.bs ≤ lim ∧ m ≤ lim) :
    ∃ v h', aAppend P t t s (.sl h.n 0 1 1) (h.push (.cells xs T.e none)) = some (v, h') ∧ Own h' T.e T.sz v (cs ++ xs) ∧ Keep h h' (isId s) ∧ NewOr h s v := by
  obtain ⟨he, hz, hsz, hbs, hzs, hu⟩ := slT_eq hT
  have hk := Keep.push h (.cells xs T.e none) none_
  have hsrc : aSrc P T.sz t (.sl h.n 0 1 1) (h.push (.cells xs T.e none)) = some (1, xs) := by
    simp only [aSrc, hu, AHeap.push, if_true, Nat.one_mul, Nat.zero_add, List.drop_zero]
    rw [List.take_of_length_le (by omega), if_pos ⟨by omega, hone⟩]
  obtain ⟨v, h', ha, ho', hk', hid⟩ := append_ownM (tx := t) hT hpos (ho.keepN hk) hsrc (by omega) (by rw [hl]; exact hm)
  refine ⟨v, h', ha, ho', (hk.up).trans' hk', hid.imp id fun hh k hk2 => ?_⟩
  have := hh k hk2
  simp [AHeap.push] at this
  omega


theorem Acc.appM {P : Program} {t tx : TypeId} {T : SlT} (hT : slT P t = some T) {h0 h : AHeap} {s x : V} {cs news : List V} (a : Acc h0 h T.e T.sz s cs) (hpos : 0 < T.sz) {n : Nat} (hsrc : aSrc P T.sz tx x h = some (n, news)) (hn : news.length = n * T.sz)
    (hm : ∀ m, m * T.sz = cs.length + news.length → m * T.bs ≤ lim ∧ m ≤ lim) :
    ∃ v h', aAppend P t tx s x h = some (v, h') ∧ Acc h0 h' T.e T.sz v (cs ++ news) := by
  obtain ⟨v, h', ha, ho', hk', hid⟩ := append_ownM hT hpos a.own hsrc hn hm
  exact ⟨v, h', ha, a.step ho' hk' hid⟩
theorem Acc.elemM {P : Program} {t : TypeId} {T : SlT} (hT : slT P t = some T) {h0 h : AHeap} {s : V} {cs xs : List V} (a : Acc h0 h T.e T.sz s cs) (hpos : 0 < T.sz) (hl : xs.length = T.sz) (hone : xs.all (·.one) = true)
    (hm : ∀ m, m * T.sz = cs.length + T.sz → m * T.bs ≤ lim ∧ m ≤ lim) :
    ∃ v h', aAppend P t t s (.sl h.n 0 1 1) (h.push (.cells xs T.e none)) = some (v, h') ∧ Acc h0 h' T.e T.sz v (cs ++ xs) := by
  obtain ⟨v, h', ha, ho', hk', hid⟩ := append_elemM hT hpos a.own hl hone hm
  exact ⟨v, h', ha, a.step ho' hk' hid⟩

/-! ### Rows of structs -/
section
variable {P : Program} {α : Type} {enc : α → List V} {sz : Nat}
theorem rows_len (he : ∀ x, (enc x).length = sz) : ∀ l : List α, (l.flatMap enc).length = l.length * sz
  | [] => by simp
  | x :: l => by rw [List.flatMap_cons, List.length_append, he, rows_len he l, List.length_cons, Nat.add_mul]; omega
theorem rows_one (he : ∀ x, (enc x).all (·.one) = true) : ∀ l : List α, (l.flatMap enc).all (·.one) = true
  | [] => rfl
  | x :: l => by rw [List.flatMap_cons, List.all_append, he, rows_one he l]; rfl
theorem rows_drop (he : ∀ x, (enc x).length = sz) : ∀ (l : List α) (k : Nat), (l.flatMap enc).drop (k * sz) = (l.drop k).flatMap enc
  | l, 0 => by simp
  | [], k + 1 => by simp
  | x :: l, k + 1 => by
    rw [List.flatMap_cons, Nat.add_mul, Nat.one_mul, Nat.add_comm, ← List.drop_drop, List.drop_left' (he x), rows_drop he l k, List.drop_succ_cons]
theorem rows_take (he : ∀ x, (enc x).length = sz) : ∀ (l : List α) (k : Nat), (l.flatMap enc).take (k * sz) = (l.take k).flatMap enc
  | l, 0 => by simp
  | [], k + 1 => by simp
  | x :: l, k + 1 => by
    rw [List.flatMap_cons, Nat.add_mul, Nat.one_mul, List.take_append, he, Nat.add_sub_cancel, rows_take he l k, List.take_succ_cons, List.flatMap_cons, List.take_of_length_le (by rw [he]; omega)]
theorem rows_ix (he : ∀ x, (enc x).length = sz) {l : List α} {k : Nat} (hk : k < l.length) {t : TypeId} {kk : IntKind} (hs : slSz P t = some sz) :
    aIndexAddr P t (.imm l.length (l.flatMap enc)) (.int kk (k : Int)) = some (.at (enc l[k] ++ (l.drop (k + 1)).flatMap enc)) := by
  rw [index_imm hs (by omega) (by omega) (rows_len he l), Int.toNat_natCast, rows_drop he, List.drop_eq_getElem_cons hk, List.flatMap_cons]
theorem rows_at (he : ∀ x, (enc x).length = sz) {l : List α} {n : Nat} (hn : l.length = n) {k : Nat} {x : α} (hx : l[k]? = some x) {t : TypeId} {kk : IntKind} (hs : slSz P t = some sz) :
    ∃ r, aIndexAddr P t (.imm n (l.flatMap enc)) (.int kk (k : Int)) = some (.at (enc x ++ r)) := by
  subst hn
  obtain ⟨hk, rfl⟩ := List.getElem?_eq_some_iff.1 hx
  exact ⟨_, rows_ix he hk hs⟩
theorem load_row {e r : List V} (he : e.length = sz) : loadGo (some (some sz)) (some (e ++ r)) = some (.agg e) := by
  rw [loadGo_row, if_pos (by rw [List.length_append]; omega), List.take_left' he]
theorem field_row {e r : List V} {off : Nat} (he : off ≤ e.length) : fieldGo (some off) (.at (e ++ r)) = some (.at (e.drop off ++ r)) := by
  rw [fieldGo_at, if_pos (by rw [List.length_append]; omega), List.drop_append_of_le_length he]
theorem rows_clo (he : ∀ x, CloL (enc x)) (l : List α) : CloL (l.flatMap enc) := CloL.flatMap fun x _ => he x
end
/-- What stands behind a statement, told once for all its ways. -/
theorem SWp.cut {P : Program} {n : Nat} {c : Code} {f : AFrame} {h : AHeap} (R : AFrame → AHeap → Prop) {Q : Qt} (hs : SWp P n c (Qt.go (.fn fun x f h => @hidI ⟨x = .normal ∧ R f h⟩)) f h) (hk : ∀ f h, R f h → @endI .normal Q f h) : SWp P n c (Qt.go Q) f h :=
  hs.mono fun e f h hq => by
    have hq' : e = .normal ∧ R f h := hq
    obtain ⟨rfl, hr⟩ := hq'
    exact hk f h hr
theorem cast_own2 {h : AHeap} {ea eb : TypeId} {sa sb n m : Nat} {a b : V} {ca cb : List V} (oa : Own h ea sa a ca) (ob : Own h eb sb b cb) (hne : ∀ k, idOf a = some k → idOf b ≠ some k) (hn : ca.length = n * sa) (hm : cb.length = m * sb) (ha : 0 < sa) (hb : 0 < sb) :
    ∃ h2, CastL [a, b] h [.imm n ca, .imm m cb] h2 ∧ Keep h h2 (fun k => isId a k ∨ isId b k) := by
  obtain ⟨h1, c1, k1⟩ := Cast.own oa hn ha
  have ob1 := ob.keep k1 fun k hk hi => hne k hi hk
  obtain ⟨h2, c2, k2⟩ := Cast.own ob1 hm hb
  exact ⟨h2, CastL.cons c1 (CastL.cons c2 (CastL.refl [] _)), (k1.mono fun _ h => .inl h).trans (k2.mono fun _ h => .inr h) fun _ _ h => h⟩
theorem Acc.cast2 {h0 h : AHeap} {ea eb : TypeId} {sa sb n m : Nat} {a b : V} {ca cb : List V} (oa : Acc h0 h ea sa a ca) (ob : Acc h0 h eb sb b cb) (hne : ∀ k, idOf a = some k → idOf b ≠ some k) (hn : ca.length = n * sa) (hm : cb.length = m * sb) (ha : 0 < sa) (hb : 0 < sb) :
    ∃ h2, CastL [a, b] h [.imm n ca, .imm m cb] h2 ∧ Keep h0 h2 none_ := by
  obtain ⟨h2, c, k⟩ := cast_own2 oa.own ob.own hne hn hm ha hb
  exact ⟨h2, c, oa.keep.trans k fun j hj hi => by
    rcases hi with hi | hi
    · have := oa.new j hi; omega
    · have := ob.new j hi; omega⟩
end Go.Proofs.YtfcjehlhoebmnaaGreatDoor.Ab

namespace Go.Proofs.YtfcjehlhoebmnaaGreatDoor.Ab
open Go
section
variable {H : Type} {enc : TypeId × Value → H} {P : Program} {w : World} {base : Nat} {spare : Nat → Bool} {held : Bool}
/-- A slice that came in: how many bytes its elements are. -/
theorem arg_sliceW {t e : TypeId} {a : Option Addr} {len cap : Nat} {d : DataW H} {ps : List MemPlace} {es : List (List V)} {k : Nat} (hu : P.underlying t = some (.slice e)) (hk : P.bytesOf e = k) (hB : ∀ n ∈ d.weights P t, n ≤ reachBytes)
    (h : DataW.Trod enc P w base spare held t (.slice a len cap) d ps) (hv : VRel (entryRen w) (.imm es.length es.flatten) (.slice a len cap)) : es.length * k ≤ 2 ^ 47 := by
  obtain ⟨fuel, hf⟩ := h
  have hl : es.length = len := by
    generalize es.length = n at hv
    generalize es.flatten = c at hv
    cases hv <;> rfl
  rcases DataW.trod_slice hu hf with ⟨hcs, _⟩ | ⟨a2, len2, cap2, elems, rest, m, _, hcs, hxx, _, _, _, hel, _, _⟩
  · cases hcs
    rw [hl]
    omega
  · cases hcs
    simp only [Prod.mk.injEq] at hxx
    have h0' := hB ((elems.length + rest.length) * P.bytesOf e) (by rw [hxx.1]; simp [DataW.weights, hu])
    have h2 := reachBytes_lt
    have h3 : len * k ≤ (elems.length + rest.length) * k := Nat.mul_le_mul_right _ (by omega)
    rw [hk] at h0'
    rw [hl]
    omega
end
end Go.Proofs.YtfcjehlhoebmnaaGreatDoor.Ab

namespace Go.Proofs.YtfcjehlhoebmnaaGreatDoor.Ab
open Go
/-- A statement whose order is open, by a plan that reads nothing ahead but what stands still. -/
theorem SWp.drawnT {P : Program} {n id : Nat} {ops : Array Oper} (M : Nat → Prop) (es : List Nat) (s : Sch) (hm : P.follows .mixedOrders = true) (hB : s.ok ops es ops.size true false true (Array.replicate ops.size false) = true) (hok : ops.toList.all (fun o => dstOk n o.dst) = true) {Q : Qt} {f : AFrame} {h : AHeap}
    (hq : siI P ops.toList M h (.out Q) s false f h) : SWp P n (.region id ops true) Q.go f h := by
  intro ρ B w0 a w hw hf
  refine wpIn_wide.1 (wpIn_region_any (n := 0) hm (anyG_sound (ρ0 := ρ) (es := es) hok _ _ f h ρ a _ (Ren.le.refl ρ) hw.drew hf ?_))
  have := (evS_any (es := es) hw.wf s _ false true _ f h (fun hp => by cases hp) (fun _ => Keep.refl _ _) (fun k o ho hk => by simp [Array.getElem?_replicate] at hk; split at hk <;> simp_all) (siI_evS s _ true false true _ f h hB hq)).1 hB
  exact anyS_G (fun f h hx => hx f) _ _ _ _ this
end Go.Proofs.YtfcjehlhoebmnaaGreatDoor.Ab

namespace Go.Proofs.YtfcjehlhoebmnaaGreatDoor.Ab
open Go

/-! ### A library's sort, told over the world, as a contract -/
section
variable {ρ : Ren} {B : Nat} {w0 : World} {h : AHeap} {w : World}
/-- New blocks that nobody names. -/
theorem WRel.grow (R : WRel ρ B w0 h w) (os : Array Obj) : WRel ρ B w0 h (Sort.grow w os) := by
  have hold : ∀ k, k < w.heap.size → (Sort.grow w os).heap[k]? = w.heap[k]? := fun k hk => by
    show (w.heap ++ os)[k]? = _
    rw [Array.getElem?_append, if_pos hk]
  have hsz : w.heap.size ≤ (Sort.grow w os).heap.size := by
    show w.heap.size ≤ (w.heap ++ os).size
    rw [Array.size_append]; omega
  refine ⟨⟨R.heap.dom, R.heap.inj, fun i => ?_, fun b arr hf => ?_, R.heap.glob, Nat.le_trans R.heap.base hsz⟩, R.below.trans ⟨rfl, rfl, rfl, hsz, fun k hk => hold k (Nat.lt_of_lt_of_le hk R.heap.base), Nat.le_refl _⟩⟩
  · by_cases hd : h.get i = .dead
    · rw [hd]; trivial
    · refine (R.heap.obj i).keep (Ren.le.refl ρ) fun b c1 hr => ⟨hold b ?_, fun h => h⟩
      obtain ⟨b', cp', hr', hlt, _⟩ := R.heap.live hd
      rw [hr'] at hr
      cases hr
      exact hlt
  · obtain ⟨e, fz, hw⟩ := R.heap.frz b arr hf
    exact ⟨e, fz, (hold b (Array.getElem?_eq_some_iff.1 hw).1).trans hw⟩
theorem WRel.ahead (R : WRel ρ B w0 h w) : ∀ n : Nat, WRel ρ B w0 h (Sort.ahead w n)
  | 0 => R
  | n + 1 => by rw [← Sort.ahead_drew]; exact (R.ahead n).drew
/-- An own row of integers holds others. -/
theorem WRel.putInts (R : WRel ρ B w0 h w) {k : IntKind} {i b cp n : Nat} {c : List V} {e : TypeId} {ex : Option Nat} (hg : h.get i = .cells c e ex) (hi : ρ.ren i = some (b, cp)) (hn : n ≤ c.length) (d : Array Int) (hd : d.size = n) :
    WRel ρ B w0 (h.set i (.cells (d.toList.map (.int k) ++ c.drop n) e ex)) (Sort.putRow (Value.int k) w b 0 d) := by
  have ho := R.heap.obj i
  rw [hg] at ho
  obtain ⟨b', cp', arr, hr, hf, hB, hw, hlen, hrel, hx⟩ := ho
  rw [hi] at hr
  cases hr
  have hlt := (Array.getElem?_eq_some_iff.1 hw).1
  have hheap : ∀ j, (Sort.putRow (Value.int k) w b 0 d).heap[j]? = if b = j then (w.heap[j]?).map (Sort.onCells (Sort.putCells (Value.int k) 0 d)) else w.heap[j]? := fun j => by
    show (w.heap.modify b _)[j]? = _
    rw [Array.getElem?_modify]
  refine R.setO hi (by rw [hg]; simp) (fun j hj => by rw [hheap, if_neg (Ne.symm hj)]) (by rw [Sort.size_putRow]; exact Nat.le_refl _) ⟨rfl, rfl, rfl, by rw [Sort.size_putRow]; exact Nat.le_refl _, fun j hj => by rw [hheap, if_neg (by omega)], Nat.le_refl _⟩ ?_
  have hl : (d.toList.map (V.int k) ++ c.drop n).length = c.length := by simp; omega
  refine ⟨b, cp, Sort.putCells (Value.int k) 0 d arr, hi, hf, hB, by rw [hheap, if_pos rfl, hw]; rfl, by rw [hl]; simpa [Sort.putCells] using hlen, ?_, by rw [hl]; simpa [Sort.putCells] using hx⟩
  rw [hl]
  refine ⟨by simp [Sort.putCells]; omega, fun j v v' h1 h2 => ?_⟩
  rw [List.getElem?_take] at h2
  split at h2
  case isFalse => cases h2
  rename_i hj
  rw [Array.getElem?_toList] at h2
  unfold Sort.putCells at h2
  rw [Array.getElem?_mapIdx, Option.map_eq_some_iff] at h2
  obtain ⟨x, hx1, hx2⟩ := h2
  by_cases hjn : j < n
  · rw [if_pos ⟨Nat.zero_le _, by omega⟩] at hx2
    subst hx2
    rw [List.getElem?_append_left (by simp; omega), List.getElem?_map, Array.getElem?_toList, Array.getElem?_eq_getElem (by omega)] at h1
    simp only [Option.map_some, Option.some.injEq] at h1
    subst h1
    rw [Nat.sub_zero, getElem!_pos d j (by omega)]
    exact .int k _
  · rw [if_neg (by omega)] at hx2
    subst hx2
    rw [List.getElem?_append_right (by simp; omega), List.getElem?_drop] at h1
    simp only [List.length_map, Array.length_toList] at h1
    rw [hd, show n + (j - n) = j by omega] at h1
    refine hrel.2 j v x h1 ?_
    rw [List.getElem?_take, if_pos hj, Array.getElem?_toList]
    exact hx1
/-- What an own row holds, told as the sort wants it. -/
theorem WRel.holds (R : WRel ρ B w0 h w) {k : IntKind} {i b cp : Nat} {c : List V} {e : TypeId} {ex : Option Nat} (hg : h.get i = .cells c e ex) (hi : ρ.ren i = some (b, cp)) {l : List Int} (hc : c.take l.length = l.map (.int k)) :
    Sort.Holds (Value.int k) w b 0 l.toArray ∧ b < w.heap.size := by
  have ho := R.heap.obj i
  rw [hg] at ho
  obtain ⟨b', cp', arr, hr, hf, hB, hw, hlen, hrel, hx⟩ := ho
  rw [hi] at hr
  cases hr
  refine ⟨fun j hj => ?_, (Array.getElem?_eq_some_iff.1 hw).1⟩
  simp only [List.size_toArray] at hj
  have hcl : l.length ≤ c.length := by
    have := congrArg List.length hc
    rw [List.length_take, List.length_map] at this
    omega
  have h1 : c[j]? = some (.int k l[j]) := by
    have : (c.take l.length)[j]? = some (.int k l[j]) := by rw [hc, List.getElem?_map, List.getElem?_eq_getElem hj]; rfl
    rwa [List.getElem?_take, if_pos hj] at this
  obtain ⟨v', h2, h3⟩ := hrel.get h1
  cases h3
  rw [List.getElem?_take] at h2
  split at h2
  case isFalse => cases h2
  rw [Array.getElem?_toList] at h2
  have e1 : l.toArray[j]! = l[j] := by rw [getElem!_pos _ j (by simpa using hj)]; simp
  rw [e1]
  exact ⟨by simp [World.cell?, hw, h2], by simp [World.frozen?, hw]⟩
end
/-- A sort of an own slice of integers: hcall is the library's contract at this program. -/
theorem sort_ints {P : Program} {f : FuncId} {k : IntKind} {lt : Int → Int → Bool} {h : AHeap} {i n cap : Nat} {c : List V} {e : TypeId} {ex : Option Nat} {l : List Int} (hg : h.get i = .cells c e ex) (hn : l.length = n) (hc : c.take n = l.map (.int k))
    (hcall : ∀ (b cp : Nat) (w : World), Sort.Holds (Value.int k) w b 0 l.toArray → b < w.heap.size → Calls P f #[.slice (some ⟨b, 0, none⟩) n cp] w fun x w' =>
      x = .returned (.tuple #[]) ∧ ∃ d' m os, Sort.PermIn 0 n l.toArray d' ∧ Sort.SortedIn lt 0 n d' ∧ w' = Sort.grow (Sort.putRow (Value.int k) (Sort.ahead w m) b 0 d') os) :
    SCalls P f [.sl i 0 n cap] h (fun r h' => r = .tuple [] ∧ ∃ l' : List Int, l'.Perm l ∧ (∀ a b, a < b → b < n → lt l'[b]! l'[a]! = false) ∧ h' = h.set i (.cells (l'.map (.int k) ++ c.drop n) e ex)) := by
  intro ρ B w0 w args' hw ha
  obtain ⟨v, t, ht, hv, hnil⟩ := ha.uncons
  have ht0 : t = [] := by
    have := hnil.1
    cases t with
    | nil => rfl
    | cons _ _ => simp at this
  subst ht0
  have hcl : n ≤ c.length := by
    have := congrArg List.length hc
    rw [List.length_take, List.length_map] at this
    omega
  cases hv with
  | sl hi _ _ _ hle =>
    rename_i b cp
    have ea : args' = #[.slice (some ⟨b, 0, none⟩) n (capOf cp cap)] := by
      apply Array.toList_inj.1
      rw [ht]
    subst ea
    obtain ⟨hH, hlt⟩ := hw.holds (k := k) hg hi (l := l) (by rw [hn]; exact hc)
    refine (hcall b (capOf cp cap) w hH hlt).mono fun x w' ⟨hx, d', m, os, hp, hs, hw'⟩ => .inl ⟨ρ, .tuple [], .tuple #[], h.set i (.cells (d'.toList.map (.int k) ++ c.drop n) e ex), hx, .tuple rfl (by simp), ?_, Ren.le.refl ρ, rfl, d'.toList, ?_, ?_, rfl⟩
    · subst hw'
      have hsz : d'.size = n := by rw [hp.1]; simp [hn]
      exact ((hw.ahead m).putInts hg hi hcl d' hsz).grow os
    · have := hp.2.2
      have e1 : d'.size = n := by rw [hp.1]; simp [hn]
      have e2 : d'.extract 0 n = d' := by rw [← e1]; simp
      have e3 : l.toArray.extract 0 n = l.toArray := by
        have : n = l.toArray.size := by simp [hn]
        rw [this]; simp
      rw [e2, e3] at this
      simpa using this
    · intro a b' hab hbn
      have e1 : d'.size = n := by rw [hp.1]; simp [hn]
      have q : ∀ j, j < n → d'.toList[j]! = d'[j]! := fun j hj => by
        rw [getElem!_pos _ j (by simpa [e1] using hj), getElem!_pos _ j (by omega)]
        simp
      rw [q a (by omega), q b' hbn]
      exact hs a b' (Nat.zero_le _) hab hbn
/-- slices.Sort of an own slice of integers, by the library's contract at this program. -/
theorem sort_own {P : Program} {f : FuncId} {e : TypeId}
    (hcall : ∀ (blk off cap : Nat) (zs : List Int) (w : World), Sort.Holds (Value.int .i64) w blk off zs.toArray → blk < w.heap.size → zs.length < 4611686018427387904 → Calls P f #[.slice (some ⟨blk, off, none⟩) zs.length cap] w fun x w' =>
      x = .returned (.tuple #[]) ∧ ∃ n os, w' = Sort.grow (Sort.putRow (Value.int .i64) (Sort.ahead w n) blk off (zs.mergeSort fun x y => decide (x ≤ y)).toArray) os)
    (hnone : ∀ (p : Option Addr) (cap : Nat) (w : World), Calls P f #[.slice p 0 cap] w fun x w' => x = .returned (.tuple #[]) ∧ w' = w)
    {h : AHeap} {v : V} {l : List Int} (ho : Own h e 1 v (l.map (.int .i64))) (hl : l.length < 4611686018427387904) :
    SCalls P f [v] h (fun r h' => r = .tuple [] ∧ Own h' e 1 v ((l.mergeSort fun x y => decide (x ≤ y)).map (.int .i64)) ∧ Keep h h' (isId v)) := by
  have nil : ∀ (p : Option Addr) (cap : Nat) (ρ : Ren) (B : Nat) (w0 w : World), WRel ρ B w0 h w → l = [] → Calls P f #[.slice p 0 cap] w fun e_1 w' => (∃ (ρ' : Ren) (r : V) (r' : Value) (h' : AHeap), e_1 = .returned r' ∧ VRel ρ' r r' ∧ WRel ρ' B w0 h' w' ∧ ρ.le ρ' ∧ (r = .tuple [] ∧ Own h' e 1 v ((l.mergeSort fun x y => decide (x ≤ y)).map (.int .i64)) ∧ Keep h h' (isId v))) ∨
      (∃ (ρ' : Ren) (ch : List PanicEntry) (h' : AHeap), e_1 = .panicked ch ∧ OneChain ch ∧ WRel ρ' B w0 h' w' ∧ ρ.le ρ' ∧ False) := fun p cap ρ B w0 w hw h0 => by
    subst h0
    refine (hnone p cap w).mono fun x w' ⟨hx, hw'⟩ => .inl ⟨ρ, .tuple [], .tuple #[], h, hx, .tuple rfl (by simp), by rw [hw']; exact hw, Ren.le.refl ρ, rfl, ?_, Keep.refl _ _⟩
    simpa using ho
  intro ρ B w0 w args' hw ha
  obtain ⟨v', t, ht, hv, hnil⟩ := ha.uncons
  have ht0 : t = [] := by
    have := hnil.1
    cases t with
    | nil => rfl
    | cons _ _ => simp at this
  subst ht0
  have ea : args' = #[v'] := by
    apply Array.toList_inj.1
    rw [ht]
  subst ea
  rcases ho with ⟨hv0, hcs⟩ | ⟨i, len, cap, c, ex, rfl, hilt, hg, hlen, htake, hcap⟩
  · have hl0 : l = [] := List.map_eq_nil_iff.1 hcs
    rcases hv0 with rfl | rfl
    · cases hv
      exact nil _ _ ρ B w0 w hw hl0
    · cases hv
      exact nil _ _ ρ B w0 w hw hl0
  · rw [Nat.mul_one] at hlen htake
    have hln : l.length = len := by rw [← hlen, List.length_map]
    subst hln
    have hcl : l.length ≤ c.length := by
      have := congrArg List.length htake
      rw [List.length_take, List.length_map] at this
      omega
    cases hv with
    | sl hi _ _ _ hle =>
      rename_i b cp
      obtain ⟨hH, hlt⟩ := hw.holds (k := .i64) hg hi htake
      refine (hcall b 0 (capOf cp cap) l w hH hlt hl).mono fun x w' ⟨hx, m, os, hw'⟩ => .inl ⟨ρ, .tuple [], .tuple #[], h.set i (.cells ((l.mergeSort fun x y => decide (x ≤ y)).map (.int .i64) ++ c.drop l.length) e ex), hx, .tuple rfl (by simp), ?_, Ren.le.refl ρ, rfl, ?_, ?_⟩
      · subst hw'
        exact ((hw.ahead m).putInts hg hi hcl (l.mergeSort fun x y => decide (x ≤ y)).toArray (by simp [List.length_mergeSort])).grow os
      · refine .inr ⟨i, l.length, cap, _, ex, rfl, hilt, get_set_same, by simp [List.length_mergeSort], ?_, ?_⟩
        · rw [Nat.mul_one, List.take_left' (by simp [List.length_mergeSort])]
        · rcases hcap with ⟨h1, h2, h3⟩ | h1
          · refine .inl ⟨h1, ?_, h3⟩
            simp only [List.length_append, List.length_map, List.length_mergeSort, List.length_drop]
            omega
          · exact .inr h1
      · exact (Keep.set h i _).mono fun k hk => by simp [isId, idOf, hk]
end Go.Proofs.YtfcjehlhoebmnaaGreatDoor.Ab
