/-
  What functions of the program do, told of abstract states. Conditions: as each theorem says.
-/
import Derived.Test.YtpmmbcifhallbaaDoorTpR
import Derived.Test.YtpmmbcifhallbaaDoorTpY
import Derived.Test.YtpmmbcifhallbaaDoorAbD
namespace Go.Proofs.YtpmmbcifhallbaaDoor.Pk
open Go Go.Proofs Go.Proofs.YtpmmbcifhallbaaDoor.Ab
set_option linter.unusedVariables false
theorem topo_len {ρ : Ren} {l : List Vx} {p : Int} {a : Array Value} (r : VRel ρ (.agg (topE l p)) (.agg a)) : ∃ b cap, a.toList[0]? = some (.slice b l.length cap) := by
  cases r with
  | agg hs hx =>
    have L : LRel ρ (topE l p) a.toList := ⟨by simpa using hs, by simpa using hx⟩
    obtain ⟨v', t', e, h1, h2⟩ := L.uncons
    rw [e]
    rcases h1.imm_inv with ⟨e1, _, b, ca, _, rfl⟩ | ⟨b2, o2, cap2, arr2, _, _, _, _, rfl⟩
    · exact ⟨b, ca, by rw [e1]; rfl⟩
    · exact ⟨_, cap2, rfl⟩
theorem topo_short {ρ : Ren} {l : List Vx} {p : Int} {a : Array Value} (r : VRel ρ (.agg (topE l p)) (.agg a)) (n : ∀ (b : Option Addr) (len cap : Nat), a.toList[0]? = some (.slice b len cap) → len * 80 ≤ 2 ^ 47) : l.length ≤ 2 ^ 41 := by
  obtain ⟨b, cap, h⟩ := topo_len r
  have := n b l.length cap h
  omega
end Go.Proofs.YtpmmbcifhallbaaDoor.Pk
