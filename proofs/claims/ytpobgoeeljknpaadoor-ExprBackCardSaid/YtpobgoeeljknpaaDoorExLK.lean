/-
  What functions of the program do, told of abstract states. Conditions: as each theorem says.
-/
import Derived.Test.YtpobgoeeljknpaaDoorExY
import Derived.Test.YtpobgoeeljknpaaDoorExRd
namespace Go.Proofs.YtpobgoeeljknpaaDoor.Pk
end Go.Proofs.YtpobgoeeljknpaaDoor.Pk
