/-
  What functions of the program do, told of abstract states. Conditions: as each theorem says.
-/
import Derived.Test.YtjphnabogfiahaaDoorReZ
import Derived.Test.YtjphnabogfiahaaDoorReU
namespace Go.Proofs.YtjphnabogfiahaaDoor.Pk
end Go.Proofs.YtjphnabogfiahaaDoor.Pk
