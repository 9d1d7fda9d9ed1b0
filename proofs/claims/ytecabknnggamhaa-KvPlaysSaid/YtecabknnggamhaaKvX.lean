/-
  What functions of the program do, told of abstract states. Conditions: as each theorem says.
-/
import Derived.Test.YtecabknnggamhaaKvW
import Derived.Test.YtecabknnggamhaaKvQ
namespace Go.Proofs.Ytecabknnggamhaa.Pk
end Go.Proofs.Ytecabknnggamhaa.Pk
