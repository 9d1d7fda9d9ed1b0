/-
  What functions of the program do, told of abstract states. Conditions: as each theorem says.
-/
import Derived.Test.YtpobgoeeljknpaaDoorExF
import Derived.Test.YtpobgoeeljknpaaDoorAbD
namespace Go.Proofs.YtpobgoeeljknpaaDoor.Pk
open Go Go.Proofs Go.Proofs.YtpobgoeeljknpaaDoor.Ab
/-- What the variables hold. -/
def kgl : Nat → Option (List V) := fun k => if k = 0 then some kidsC else none
theorem kgOk : KG (globHeap kgl) := rfl
theorem globOk {w : World} {name : String} (hg : Tryd.prog.globalNamed name = some 0) (h : Lib.TabIs Tryd.prog w name .i64 kidsN) : GlobOk kgl w := fun k cs hk => by
  unfold kgl at hk
  split at hk
  · rename_i e
    subst e
    obtain rfl := Option.some.inj hk
    exact tab_glob hg h
  · cases hk
end Go.Proofs.YtpobgoeeljknpaaDoor.Pk
