/-
  What functions of the program do, told of abstract states. Conditions: as each theorem says.
-/
import Derived.Test.YtjphnabogfiahaaSeP
import Derived.Test.YtjphnabogfiahaaAbD
namespace Go.Proofs.Ytjphnabogfiahaa.Pk
end Go.Proofs.Ytjphnabogfiahaa.Pk
