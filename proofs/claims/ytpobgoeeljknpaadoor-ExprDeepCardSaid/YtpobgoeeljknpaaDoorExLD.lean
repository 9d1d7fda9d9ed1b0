/-
  What functions of the program do, told of abstract states. Conditions: as each theorem says.
-/
import Derived.Test.YtpobgoeeljknpaaDoorExDc
import Derived.Test.YtpobgoeeljknpaaDoorAbD
namespace Go.Proofs.YtpobgoeeljknpaaDoor.Pk
end Go.Proofs.YtpobgoeeljknpaaDoor.Pk
