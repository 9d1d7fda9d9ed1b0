/-
  What functions of the program do, told of abstract states. Conditions: as each theorem says.
-/
import Derived.Test.YtpmmbcifhallbaaDoorTpBr
import Derived.Test.YtpmmbcifhallbaaDoorTpY
namespace Go.Proofs.YtpmmbcifhallbaaDoor.Pk
end Go.Proofs.YtpmmbcifhallbaaDoor.Pk
