/-
  What functions of the program do, told of abstract states. Conditions: as each theorem says.
-/
import Derived.Test.YtcdpepdjeneelaaDoorVtE
import Derived.Test.YtcdpepdjeneelaaDoorVtB
import Derived.Test.YtcdpepdjeneelaaDoorVtAo
import Derived.Test.YtcdpepdjeneelaaDoorVtBo
namespace Go.Proofs.YtcdpepdjeneelaaDoor.Pk
open Go Go.Proofs Go.Proofs.YtcdpepdjeneelaaDoor.Ab Go.Proofs.Vw
set_option linter.unusedVariables false
set_option linter.unusedSimpArgs false
/-! ### Entries that are written down, and the example -/
/-- An entry whose lists are nil. -/
def entS (x : Ent) : List V := [.int .i64 x.kind, .int .i64 x.task, .int .i64 x.epoch, .int .i64 x.txn, .int .i64 x.log, .int .i64 x.r.k, .int .i64 x.r.v, .int .i64 x.r.t, .bool x.del, .snil, .snil]
def bare (x : Ent) : Prop := x.offs = [] ∧ x.order = []
theorem entS_cast {x : Ent} (hx : bare x) {r r2 : List V} {h h2 : AHeap} (c : CastL r h r2 h2) : CastL (entS x ++ r) h (entE x ++ r2) h2 := by
  obtain ⟨kind, task, epoch, txn, log, rr, del, offs, order⟩ := x
  obtain ⟨rfl, rfl⟩ := hx
  exact CastL.cons (Cast.refl _ _) (CastL.cons (Cast.refl _ _) (CastL.cons (Cast.refl _ _) (CastL.cons (Cast.refl _ _) (CastL.cons (Cast.refl _ _) (CastL.cons (Cast.refl _ _) (CastL.cons (Cast.refl _ _) (CastL.cons (Cast.refl _ _) (CastL.cons (Cast.refl _ _) (CastL.cons (Cast.nil0 _) (CastL.cons (Cast.nil0 _) c))))))))))
theorem entS_rows : ∀ (xs : List Ent) (h : AHeap), (∀ x ∈ xs, bare x) → CastL (xs.flatMap entS) h (xs.flatMap entE) h
  | [], h, _ => CastL.refl _ _
  | x :: xs, h, hx => by
    rw [List.flatMap_cons, List.flatMap_cons]
    exact entS_cast (hx x (by simp)) (entS_rows xs h fun y hy => hx y (by simp [hy]))
theorem entS_len (x : Ent) : (entS x).length = 11 := rfl
theorem castLit (xs : List Ent) (hx : ∀ x ∈ xs, bare x) (hn : xs.length < unk) (h : AHeap) : ∃ h2, Cast (.sl h.n 0 xs.length xs.length) (h.push (.cells (xs.flatMap entS) 47 none)) (.imm xs.length (xs.flatMap entE)) h2 ∧ Keep h h2 none_ := by
  have ho : Own (h.push (.cells (xs.flatMap entS) 47 none)) 47 11 (.sl h.n 0 xs.length xs.length) (xs.flatMap entS) := Own.fresh' _ _ (rows_len entS_len xs) hn
  obtain ⟨h2, c, k⟩ := Cast.rowC ho (entS_rows xs _ hx) (Keep.refl _ none_) (by simp [none_]) (by rw [rows_len entS_len, rows_len entE_len])
  exact ⟨h2, c, (Keep.push _ _ none_).trans k fun q hq hh => by omega⟩
theorem readLit {i : Nat} (xs : List Ent) (hx : ∀ x ∈ xs, bare x) (hn : xs.length ≤ 2 ^ 14) (h : AHeap) (hu : KU h) (hi : i = h.n) : SCalls Tryd.prog 12 [.sl i 0 xs.length xs.length] (h.push (.cells (xs.flatMap entS) 47 none)) (fun r h' => r = .agg (tdC (toldOf xs)) ∧ Keep h h' none_) := by
  subst hi
  obtain ⟨h2, c, k⟩ := castLit xs hx (by simp only [unk]; omega) h
  exact (SCalls.args (CastL.cons c (CastL.refl _ _)) (pRead xs hn (fun x hh => by obtain ⟨h1, h2⟩ := hx x hh; unfold eLen; rw [h1, h2]; simp) h2 (by unfold KU; rw [k.glob]; exact hu))).mono fun r h' ⟨e, e2⟩ => ⟨e, e2 ▸ k⟩
theorem stableLit {i : Nat} (xs : List Ent) (hx : ∀ x ∈ xs, bare x) (hn : xs.length ≤ 2 ^ 14) (h : AHeap) (hu : KU h) (hi : i = h.n) : SCalls Tryd.prog 14 [.sl i 0 xs.length xs.length] (h.push (.cells (xs.flatMap entS) 47 none)) (fun r h' => (∃ v : Nat, r = .int .i64 (v : Nat) ∧ MinAt xs.length v (IsOpen (readV xs))) ∧ Keep h h' none_) := by
  subst hi
  obtain ⟨h2, c, k⟩ := castLit xs hx (by simp only [unk]; omega) h
  exact (SCalls.args (CastL.cons c (CastL.refl _ _)) (pStable xs hn (fun x hh => by obtain ⟨h1, h2⟩ := hx x hh; unfold eLen; rw [h1, h2]; simp) h2 (by unfold KU; rw [k.glob]; exact hu))).mono fun r h' ⟨e, e2⟩ => ⟨e, k.trans' e2⟩
def xD : Ent := ⟨2, 1, 0, 0, 5, ⟨3, 0, 0⟩, false, [], []⟩
def xC : Ent := ⟨3, 1, 0, 0, 0, zR, false, [], []⟩
def xF : Ent := ⟨5, 1, 1, 0, 0, zR, false, [], []⟩
theorem litE1 (h : AHeap) (x : Ent) : aBuildSlice Tryd.prog 22 1 [(0, .agg (entS x))] h = some (.sl h.n 0 1 1, h.push (.cells ([x].flatMap entS) 47 none)) := by rw [buildSlice_go sl_22]; rfl
theorem litE2 (h : AHeap) (x y : Ent) : aBuildSlice Tryd.prog 22 2 [(0, .agg (entS x)), (1, .agg (entS y))] h = some (.sl h.n 0 2 2, h.push (.cells ([x, y].flatMap entS) 47 none)) := by rw [buildSlice_go sl_22]; kernel_rfl
theorem litE3 (h : AHeap) (x y z : Ent) : aBuildSlice Tryd.prog 22 3 [(0, .agg (entS x)), (1, .agg (entS y)), (2, .agg (entS z))] h = some (.sl h.n 0 3 3, h.push (.cells ([x, y, z].flatMap entS) 47 none)) := by rw [buildSlice_go sl_22]; kernel_rfl
theorem told1 : logsOf [xD] = [] := by decide
theorem told2 : logsOf [xD, xC] = [(5, [(⟨3, 0, 0⟩, false)])] := by decide
theorem told3 : logsOf [xF, xD, xC] = [] := by decide
theorem told3t : taskAt (tasksOf [xF, xD, xC]) 1 = ⟨1, 1, 0, [], [], 0⟩ := by decide
end Go.Proofs.YtcdpepdjeneelaaDoor.Pk
