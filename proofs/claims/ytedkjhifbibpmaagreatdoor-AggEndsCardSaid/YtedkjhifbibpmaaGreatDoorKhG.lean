/-
  What functions of the program do, told of abstract states. Conditions: as each theorem says.
-/
import Derived.Test.YtedkjhifbibpmaaGreatDoorKqG
import Derived.Test.YtedkjhifbibpmaaGreatDoorMeC

