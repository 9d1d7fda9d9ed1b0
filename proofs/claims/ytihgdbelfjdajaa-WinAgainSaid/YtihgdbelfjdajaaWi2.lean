/-
  What functions of the program do, told of abstract states. Conditions: as each theorem says.
-/
import Derived.Test.YtihgdbelfjdajaaWiY
import Derived.Test.YtihgdbelfjdajaaWi1
namespace Go.Proofs.Ytihgdbelfjdajaa.Pk
end Go.Proofs.Ytihgdbelfjdajaa.Pk
