/-
  What functions of the program do, told of abstract states. Conditions: as each theorem says.
-/
import Derived.Test.YtlbekgogjlchjaaAbD
import Derived.Test.YtlbekgogjlchjaaAbD
import Derived.Test.YtlbekgogjlchjaaAbD
import Derived.Test.YtlbekgogjlchjaaProg
namespace Go.Proofs.Ytlbekgogjlchjaa.Pk
open Go Go.Proofs Go.Proofs.Ytlbekgogjlchjaa.Ab

theorem ft_145_2 : fieldT Try.prog 145 2 = some 0 := by kernel_rfl
theorem ncal103 : callable Try.prog 103 = false := by kernel_rfl
theorem ncal104 : callable Try.prog 104 = false := by kernel_rfl
end Go.Proofs.Ytlbekgogjlchjaa.Pk
