/-
  What functions of the program do, told of abstract states. Conditions: as each theorem says.
-/
import Derived.Test.YtihgdbelfjdajaaWiW
import Derived.Test.YtihgdbelfjdajaaSfC
namespace Go.Proofs.Ytihgdbelfjdajaa.Pk
end Go.Proofs.Ytihgdbelfjdajaa.Pk
