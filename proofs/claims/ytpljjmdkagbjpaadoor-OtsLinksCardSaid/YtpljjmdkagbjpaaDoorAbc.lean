/-
  (Nothing of the examples is wanted here.)
-/
import Derived.Test.YtpljjmdkagbjpaaDoorSumH
