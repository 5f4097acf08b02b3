/- Appending values where the operation stands behind a guard. -/
import Derived.Test.YtncknaagbafhhaaGreatDoorGR
import Derived.Maps.AppendAt
set_option linter.unusedVariables false
set_option linter.unusedSimpArgs false
set_option maxRecDepth 20000
namespace Go.Proofs.YtncknaagbafhhaaGreatDoor
open Go.RowKit Go.Sort
end Go.Proofs.YtncknaagbafhhaaGreatDoor
