/-
  What functions of the program do, told of abstract states. Conditions: as each theorem says.
-/
import Derived.Test.YtihgdbelfjdajaaTyW
import Derived.Test.YtihgdbelfjdajaaAbD
import Derived.Test.YtihgdbelfjdajaaAbD
import Derived.Test.YtihgdbelfjdajaaAbD
import Derived.Test.YtihgdbelfjdajaaProg
namespace Go.Proofs.Ytihgdbelfjdajaa.Pk
open Go Go.Proofs Go.Proofs.Ytihgdbelfjdajaa.Ab

theorem as_73 : arSz Try.prog 73 = none := by kernel_rfl
theorem cal36 : callable Try.prog 36 = true := by kernel_rfl
theorem kt_73 : kindT Try.prog 73 = some 1 := by kernel_rfl
theorem ss_73 : slSz Try.prog 73 = some 1 := by kernel_rfl
end Go.Proofs.Ytihgdbelfjdajaa.Pk
