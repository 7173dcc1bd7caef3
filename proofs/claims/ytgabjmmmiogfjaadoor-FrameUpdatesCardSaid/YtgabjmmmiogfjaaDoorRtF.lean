/-
  What layers 3 and 5 give, in one: the contracts of field and mac.
-/
import Derived.Test.YtgabjmmmiogfjaaDoorRt05
import Derived.Test.YtgabjmmmiogfjaaDoorRt09




namespace Go.Proofs.YtgabjmmmiogfjaaDoor
theorem root_whole : True := trivial
end Go.Proofs.YtgabjmmmiogfjaaDoor
