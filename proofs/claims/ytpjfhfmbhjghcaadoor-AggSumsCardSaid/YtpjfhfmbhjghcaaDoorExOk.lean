/-
  What functions of the program do, told of abstract states. Conditions: as each theorem says.
-/
import Derived.Test.YtpjfhfmbhjghcaaDoorExU
import Derived.Test.YtpjfhfmbhjghcaaDoorExE
import Derived.Test.YtpjfhfmbhjghcaaDoorPkM
