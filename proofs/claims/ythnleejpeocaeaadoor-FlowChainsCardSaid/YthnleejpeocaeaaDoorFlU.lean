/-
  What functions of the program do, told of abstract states. Conditions: as each theorem says.
-/
import Derived.Test.YthnleejpeocaeaaDoorFlT
namespace Go.Proofs.YthnleejpeocaeaaDoor.Pk
open Go Go.Proofs Go.Proofs.YthnleejpeocaeaaDoor.Ab
set_option linter.unusedVariables false
set_option linter.unusedSimpArgs false
theorem litVV (h : AHeap) (u v : Vx) : aBuildSlice Tryd.prog 22 2 [(0, .agg (encX u)), (1, .agg (encX v))] h = some (.sl h.n 0 2 2, h.push (.cells (encX u ++ encX v) 44 none)) := by
  rw [buildSlice_go sl_22]
  obtain ⟨k1, f1, e1, n1⟩ := u
  obtain ⟨k2, f2, e2, n2⟩ := v
  cases e1; cases e2; rfl
theorem litVU (h : AHeap) (u : Vx) : aBuildSlice Tryd.prog 22 1 [(0, .agg (encX u))] h = some (.sl h.n 0 1 1, h.push (.cells (encX u) 44 none)) := by
  rw [buildSlice_go sl_22]
  obtain ⟨k1, f1, e1, n1⟩ := u
  cases e1; rfl
def vK (kind op c : Int) : Vx := ⟨kind, [], .mk op 0 [.mk 3 0 [], .mk 1 c []], 0⟩
/-- After a call, the vertex's kids are told as a row that is only read. -/
theorem vxStep {f : FuncId} {args : List V} {h H : AHeap} {v : V} (hp : Pure Tryd.prog f args h v) (hk : Keep H h none_) {X k : Nat} {kind op c : Int} (hX : h.get X = .cells (vxO kind op k) 44 none) (hK : h.get k = .cells (.int .i64 3 :: .int .i64 0 :: .snil :: encE (.mk 1 c [])) 40 none)
    (hne : X ≠ k) (hXn : H.n ≤ X) (hkn : H.n ≤ k) (hkl : k < h.n) : SCalls Tryd.prog f args h (fun q h' => q = v ∧ h'.get X = .cells (encX (vK kind op c)) 44 none ∧ Keep H h' none_ ∧ h'.n = h.n ∧ ∀ j, j ≠ X → j ≠ k → h'.get j = h.get j) := by
  have hc := castVx kind op [.mk 3 0 [], .mk 1 c []] rfl (cs := .int .i64 3 :: .int .i64 0 :: .snil :: encE (.mk 1 c [])) (by
    rw [List.flatMap_cons, List.flatMap_cons, List.flatMap_nil, List.append_nil]
    exact WkL.append (wkE0 3 0) rfl (.refl _)) rfl hkl hK
  have g1 : (h.set k .dead).get X = .cells (vxO kind op k) 44 none := by
    have : (h.set k .dead).get X = h.get X := by simp [AHeap.set, hne]
    rw [this, hX]
  refine (Pure.cell hp hX hc g1 (by rw [encX_len]; rfl)).mono fun q h' ⟨e1, e2⟩ => ?_
  subst e2
  refine ⟨e1, by simp [AHeap.set]; rfl, (hk.setNew hkn _).setNew hXn _, rfl, fun j h1 h2 => by simp [AHeap.set, h1, h2]⟩
/-- Chain of a row that its caller has just laid. -/
theorem chainStep (L : List Vx) (hL : L.length ≤ 8) (r : Rec) (h : AHeap) (hg : KG h) (m : Nat) (hm : L.length = m) : Pure Tryd.prog 6 [.imm L.length (L.flatMap encX), .agg (recE r)] h (chV (chainX L r)) := pChain L hL r h hg
theorem chainOwn (L : List Vx) (hL : L.length ≤ 8) (r : Rec) (H h : AHeap) (hg : KG H) (hk : Keep H h none_) (i : Nat) (hi : H.n ≤ i) (hin : i < h.n) (hgi : h.get i = .cells (L.flatMap encX) 44 none) :
    SCalls Tryd.prog 6 [.sl i 0 L.length L.length, .agg (recE r)] h (fun q h' => q = chV (chainX L r) ∧ Keep H h' none_ ∧ ∀ j, j < h.n → j ≠ i → h'.get j = h.get j) := by
  have hl : (L.flatMap encX).length = L.length * 6 := rows_len encX_len L
  have ho : Own h 44 6 (.sl i 0 L.length L.length) (L.flatMap encX) := .inr ⟨i, L.length, L.length, _, none, rfl, hin, hgi, hl, List.take_of_length_le (by omega), .inl ⟨by unfold unk; omega, by omega, by omega⟩⟩
  obtain ⟨h2, c, k⟩ := Cast.own (n := L.length) ho hl (by decide)
  have k2 : Keep H h2 none_ := hk.trans k fun j hj q => by
    have : i = j := Option.some.inj q
    omega
  refine SCalls.args (CastL.cons c (CastL.refl _ _)) ((pChain L hL r h2 (hg.keep k2)).mono fun q h' ⟨e1, e2⟩ => ⟨e1, e2 ▸ k2, fun j hj hne => ?_⟩)
  rw [e2]
  exact k.get j hj (fun q => hne (Option.some.inj q).symm)
/-- The same, and a vertex's kids are told as a row that is only read. -/
theorem chainOwnX (L : List Vx) (hL : L.length ≤ 8) (r : Rec) (H h : AHeap) (hg : KG H) (hk : Keep H h none_) (i : Nat) (hi : H.n ≤ i) (hin : i < h.n) (hgi : h.get i = .cells (L.flatMap encX) 44 none)
    {X k : Nat} {kind op c : Int} (hX : h.get X = .cells (vxO kind op k) 44 none) (hK : h.get k = .cells (.int .i64 3 :: .int .i64 0 :: .snil :: encE (.mk 1 c [])) 40 none) (hne : X ≠ k) (hXn : H.n ≤ X) (hkn : H.n ≤ k) (hkl : k < h.n) (hXl : X < h.n) (hXi : X ≠ i) (hki : k ≠ i) :
    SCalls Tryd.prog 6 [.sl i 0 L.length L.length, .agg (recE r)] h (fun q h' => q = chV (chainX L r) ∧ h'.get X = .cells (encX (vK kind op c)) 44 none ∧ Keep H h' none_ ∧ h.n ≤ h'.n) := by
  have hl : (L.flatMap encX).length = L.length * 6 := rows_len encX_len L
  have ho : Own h 44 6 (.sl i 0 L.length L.length) (L.flatMap encX) := .inr ⟨i, L.length, L.length, _, none, rfl, hin, hgi, hl, List.take_of_length_le (by omega), .inl ⟨by unfold unk; omega, by omega, by omega⟩⟩
  obtain ⟨h2, c, k1⟩ := Cast.own (n := L.length) ho hl (by decide)
  have k2 : Keep H h2 none_ := hk.trans k1 fun j hj q => by
    have : i = j := Option.some.inj q
    omega
  have gg : ∀ j, j < h.n → j ≠ i → h2.get j = h.get j := fun j hj hne => k1.get j hj (fun q => hne (Option.some.inj q).symm)
  refine SCalls.args (CastL.cons c (CastL.refl _ _)) ((vxStep (pChain L hL r h2 (hg.keep k2)) k2 (by rw [gg X hXl hXi]; exact hX) (by rw [gg k hkl hki]; exact hK) hne hXn hkn (Nat.lt_of_lt_of_le hkl k1.n)).mono fun q h' ⟨e1, e2, e3, e4, _⟩ => ⟨e1, e2, e3, by rw [e4]; exact k1.n⟩)
end Go.Proofs.YthnleejpeocaeaaDoor.Pk
