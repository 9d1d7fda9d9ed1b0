/-
  What functions of the program do, told of abstract states. Conditions: as each theorem says.
-/
import Derived.Test.YtjphnabogfiahaaDoorPaD
namespace Go.Proofs.YtjphnabogfiahaaDoor.Pk
open Go Go.Proofs Go.Proofs.YtjphnabogfiahaaDoor.Ab
set_option linter.unusedVariables false
set_option linter.unusedSimpArgs false

def strB (l : List Nat) : ByteArray := strOfNums (l.map fun n : Nat => (n : Int))
theorem convB (l : List Nat) (h : AHeap) : aConv Tryd.prog 24 9 (.imm l.length (bytesV l)) h = some (.string (strB l)) := by
  have := conv_imm (P := Tryd.prog) (s := 24) (d := 9) (h := h) (n := l.length) (ns := l.map fun n : Nat => (n : Int)) (by kernel_rfl) st_9 (by simp)
  rw [List.map_map] at this
  exact this
theorem lit2b (h : AHeap) (a b : Int) : aBuildSlice Tryd.prog 24 2 [(0, .int .u8 a), (1, .int .u8 b)] h = some (.sl h.n 0 2 2, h.push (.cells [.int .u8 a, .int .u8 b] 5 none)) := by rw [buildSlice_go sl_24]; rfl

end Go.Proofs.YtjphnabogfiahaaDoor.Pk
