/- Mathematics: the tokens of what was read. -/
import Derived.Test.YtncknaagbafhhaaGreatDoorGY
import Derived.Test.YtncknaagbafhhaaGreatDoorGH
import Derived.Test.YtncknaagbafhhaaGreatDoorGT
set_option linter.unusedVariables false
set_option linter.unusedSimpArgs false
set_option maxRecDepth 20000
namespace Go.Proofs.YtncknaagbafhhaaGreatDoor
open Go.RowKit Go.Sort
theorem str_data (l : List UInt8) : (Wn.str l).data.toList = l := by simp [Wn.str]
end Go.Proofs.YtncknaagbafhhaaGreatDoor
