/-
  What functions of the program do, told of abstract states. Conditions: as each theorem says.
-/
import Derived.Test.YtlbekgogjlchjaaMbE
namespace Go.Proofs.Ytlbekgogjlchjaa.Pk
open Go Go.Proofs Go.Proofs.Ytlbekgogjlchjaa.Ab
set_option linter.unusedVariables false
set_option linter.unusedSimpArgs false
structure DeedG where
  kind : Int
  node : Int
  keep : Int
  turn : Int
  b : List Nat
  reach : List Bool
def dgE (d : DeedG) : List V := [.int .i64 d.kind, .int .i64 d.node, .int .i64 d.keep, .int .i64 d.turn, .imm d.b.length (bytesV d.b), .imm d.reach.length (bV d.reach)]
theorem dgE_len (d : DeedG) : (dgE d).length = 6 := rfl
theorem dg_ix {l : List DeedG} {k : Nat} (hk : k < l.length) : aIndexAddr Try.prog 50 (.imm l.length (l.flatMap dgE)) (.int .i64 (k : Int)) = some (.at (dgE l[k] ++ (l.drop (k + 1)).flatMap dgE)) := rows_ix dgE_len hk ss_50
theorem dg_ld (c : DeedG) (r : List V) : (if 6 ≤ (dgE c ++ r).length then some (V.agg (List.take 6 (dgE c ++ r))) else none) = some (.agg (dgE c)) := by rw [if_pos (by rw [List.length_append, dgE_len]; omega)]; rfl
theorem dg_cells (c : DeedG) : (V.agg (dgE c)).cells = some (dgE c) := rfl
theorem dg_store (c : DeedG) : setC (some 6) (AObj.cells [V.int .i64 0, V.int .i64 0, V.int .i64 0, V.int .i64 0, V.snil, V.snil] 57 none) 0 (dgE c) = some (.cells (dgE c) 57 none) := rfl
theorem dg_d0 (c : DeedG) : dropC (AObj.cells (dgE c) 57 none) 0 = some [.int .i64 c.kind, .int .i64 c.node, .int .i64 c.keep, .int .i64 c.turn, .imm c.b.length (bytesV c.b), .imm c.reach.length (bV c.reach)] := rfl
theorem dg_d1 (c : DeedG) : dropC (AObj.cells (dgE c) 57 none) 1 = some [.int .i64 c.node, .int .i64 c.keep, .int .i64 c.turn, .imm c.b.length (bytesV c.b), .imm c.reach.length (bV c.reach)] := rfl
theorem dg_d2 (c : DeedG) : dropC (AObj.cells (dgE c) 57 none) 2 = some [.int .i64 c.keep, .int .i64 c.turn, .imm c.b.length (bytesV c.b), .imm c.reach.length (bV c.reach)] := rfl
theorem dg_d3 (c : DeedG) : dropC (AObj.cells (dgE c) 57 none) 3 = some [.int .i64 c.turn, .imm c.b.length (bytesV c.b), .imm c.reach.length (bV c.reach)] := rfl
theorem dg_d4 (c : DeedG) : dropC (AObj.cells (dgE c) 57 none) 4 = some [.imm c.b.length (bytesV c.b), .imm c.reach.length (bV c.reach)] := rfl
theorem dg_d5 (c : DeedG) : dropC (AObj.cells (dgE c) 57 none) 5 = some [.imm c.reach.length (bV c.reach)] := rfl
/-- A row that belongs to no log. -/
structure KV (h : AHeap) (ow : Nat → Nat) (v : V) (row : List (List Nat)) : Prop where
  own : Own h 30 1 v (rowV row)
  z : ∀ x, idOf v = some x → ow x = 0
theorem KV.fr {h h' : AHeap} {ow ow' : Nat → Nat} {v : V} {row : List (List Nat)} (k : KV h ow v row) (f : LFr h h' ow ow') : KV h' ow' v row :=
  ⟨k.own.keep f.keep fun x hx hh => hh (k.z x hx), fun x hx => f.z x (k.own.lt x hx) (k.z x hx)⟩
theorem KV.append {h0 h : AHeap} {L : Nat} {room : Int} {n : Nat} {rs : Nat → NR} {dv nv pv : V} {ow : Nat → Nat} {s : LS} (w : LogS h0 h L room n rs dv nv pv ow s) {v : V} {row : List (List Nat)} (k : KV h ow v row) (hl : row.length ≤ 2 ^ 30) (hv : ∀ x, idOf v = some x → h0.n ≤ x) (b : List Nat) :
    ∃ v' h', aAppend Try.prog 54 54 v (.sl h.n 0 1 1) (h.push (.cells [.imm b.length (bytesV b)] 30 none)) = some (v', h') ∧ KV h' ow v' (row ++ [b]) ∧ Keep h h' (isId v) ∧ (∀ x, idOf v' = some x → h0.n ≤ x) ∧ LogS h0 h' L room n rs dv nv pv ow s := by
  obtain ⟨v', h2, ea, o2, k2, nw2⟩ := append_elemM (P := Try.prog) sl_54 (by decide) k.own (xs := [.imm b.length (bytesV b)]) rfl rfl (fun m hm => by
    change m * 1 = (rowV row).length + 1 at hm
    rw [rowV_len] at hm
    exact ⟨by simp only [lim]; omega, by simp only [lim]; omega⟩)
  have kn := w.keep.n
  refine ⟨v', h2, ea, ⟨by rw [rowV_snoc]; exact o2, fun x hx => ?_⟩, k2, fun x hx => ?_, ?_⟩
  · rcases nw2 with e | e
    · exact k.z x (by rw [← e]; exact hx)
    · exact w.ns.zero (e x hx)
  · rcases nw2 with e | e
    · exact hv x (by rw [← e]; exact hx)
    · have := e x hx; omega
  · have ne : ∀ x, isId v x → ow x = 0 := fun x hx => k.z x hx
    exact ⟨w.keep.trans k2 fun x hx hh => by have := hv x hh; omega, w.new, w.owL, (k2.get L w.lt (fun hh => by have := ne L hh; rw [w.owL] at this; cases this)).trans w.get,
      w.dk.keep k2 fun x hx hh => by have := ne x hh; have := w.owd x hx; omega, w.nk.keep k2 fun x hx hh => by have := ne x hh; have := w.own_ x hx; omega, w.pk.keep k2 fun x hx hh => by have := ne x hh; have := w.owp x hx; omega, w.owd, w.own_, w.owp, w.ns.on k2 fun x hx => by rw [ne x hx]; decide, w.rok, w.rl⟩
theorem appL_ep {room : Int} {n : Nat} {rc : Nat → Bool} {b : List Nat} {s : LS} : (appL room n rc b s).1.ep = s.ep := by
  unfold appL
  split
  · rfl
  split
  · rfl
  split
  · rfl
  split <;> rfl
end Go.Proofs.Ytlbekgogjlchjaa.Pk
