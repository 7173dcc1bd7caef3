/-
  The tag of the example, by the kernel.
-/
import Derived.Test.YtahmioiefmheeaaDoorMacM
namespace Go.Proofs.YtahmioiefmheeaaDoor
open Go.RowKit

/-- The example's key and message. -/
def jefe : List Int := [74, 101, 102, 101]
def want : List Int := [119, 104, 97, 116, 32, 100, 111, 32, 121, 97, 32, 119, 97, 110, 116, 32, 102, 111, 114, 32, 110, 111, 116, 104, 105, 110, 103, 63]
set_option maxRecDepth 100000 in
theorem jefe_hex : hexU ((macL jefe want).take 4) = [53, 98, 100, 99, 99, 49, 52, 54] := by decide +kernel
end Go.Proofs.YtahmioiefmheeaaDoor
